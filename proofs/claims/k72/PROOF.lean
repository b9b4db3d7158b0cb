import PyProof.Rows.All
import Wide.All
import OpenK.AllK
import Wide.FinOn
import Lean
import PyProof.EqAt
import PyProof.EqKinds
import PyProof.TupleCall
import PySem.Challenge.RW_speakmill_k72_threaded
set_option Elab.async false
set_option linter.all false
set_option maxRecDepth 100000
namespace L2
open PySem PySem.Spec PyProof.Rows
abbrev Key := Sum Int Str
def keyIs : Key → Value → Bool
  | .inl k, v => Value.isInt k v
  | .inr x, v => Value.isStrOf x v
def keyH (w : World) : Key → Int
  | .inl k => hashInt k
  | .inr x => hashStr w x
theorem keyIs_shape : ∀ {k : Key} {v : Value}, keyIs k v = true → (∃ i t, k = Sum.inl i ∧ v = Value.int i t) ∨ (∃ x t, k = Sum.inr x ∧ v = Value.str x t)
  | .inl i, v, h => by
    obtain ⟨t, e⟩ := Value.isInt_shape (k := i) (v := v) h
    exact .inl ⟨i, t, rfl, e⟩
  | .inr x, v, h => by
    obtain ⟨t, e⟩ := Value.isStrOf_shape (x := x) (v := v) h
    exact .inr ⟨x, t, rfl, e⟩
theorem keyIs_int (i : Int) (t : Tok) : keyIs (.inl i) (.int i t) = true := by simp [keyIs, Value.isInt]
theorem keyIs_str (x : Str) (t : Tok) : keyIs (.inr x) (.str x t) = true := by simp [keyIs, Value.isStrOf]
theorem key_ll (a b : Int) : decide ((Sum.inl a : Key) = Sum.inl b) = (a == b) := by
  by_cases e : a = b
  · subst e; simp
  · have h : ¬ (Sum.inl a : Key) = Sum.inl b := fun q => e (Sum.inl.inj q)
    rw [decide_eq_false h]
    exact (beq_eq_false_iff_ne.mpr e).symm
theorem key_rr (a b : Str) : decide ((Sum.inr a : Key) = Sum.inr b) = decide (a = b) := by
  by_cases e : a = b
  · subst e; simp
  · have h : ¬ (Sum.inr a : Key) = Sum.inr b := fun q => e (Sum.inr.inj q)
    rw [decide_eq_false h, decide_eq_false e]
theorem key_lr (a : Int) (b : Str) : decide ((Sum.inl a : Key) = Sum.inr b) = false := decide_eq_false (fun q => nomatch q)
theorem key_rl (a : Str) (b : Int) : decide ((Sum.inr a : Key) = Sum.inl b) = false := decide_eq_false (fun q => nomatch q)
def mixKind (prog : Program) (w : World) : PySem.KeyKind prog w Key where
  is := keyIs
  hash := keyH w
  inj := fun v a b ha hb => by
    rcases keyIs_shape ha with ⟨i, t, rfl, rfl⟩ | ⟨x, t, rfl, rfl⟩
    · rcases keyIs_shape hb with ⟨j, u, rfl, e⟩ | ⟨y, u, rfl, e⟩
      · injection e with e1 _; rw [e1]
      · exact nomatch e
    · rcases keyIs_shape hb with ⟨j, u, rfl, e⟩ | ⟨y, u, rfl, e⟩
      · exact nomatch e
      · injection e with e1 _; rw [e1]
  byValue := fun k v h => by
    rcases keyIs_shape h with ⟨i, t, rfl, rfl⟩ | ⟨x, t, rfl, rfl⟩ <;> rfl
  pyHash := fun hv h => by
    rcases keyIs_shape hv with ⟨i, t, rfl, rfl⟩ | ⟨x, t, rfl, rfl⟩
    · exact wpAny_pyHash_int h
    · exact wpAny_pyHash_str h
  eqBool := fun hu hv h => by
    rcases keyIs_shape hu with ⟨i, t, rfl, rfl⟩ | ⟨x, t, rfl, rfl⟩
    · rcases keyIs_shape hv with ⟨j, u, rfl, rfl⟩ | ⟨y, u, rfl, rfl⟩
      · rw [key_ll] at h; exact wpAny_eqBool_int h
      · rw [key_lr] at h; exact SeqAt.EqAt.int_str i t y u _ _ _ _ h
    · rcases keyIs_shape hv with ⟨j, u, rfl, rfl⟩ | ⟨y, u, rfl, rfl⟩
      · rw [key_rl] at h; exact SeqAt.EqAt.str_int x t j u _ _ _ _ h
      · rw [key_rr] at h; exact wpAny_eqBool_str h
  «strs» := fun k x t v h => by
    rcases keyIs_shape h with ⟨i, u, rfl, e⟩ | ⟨y, u, rfl, e⟩
    · exact nomatch e
    · injection e with e1 _
      subst e1
      cases v <;> rfl
theorem mixKind_int (prog : Program) (w : World) (i : Int) (t : Tok) : (mixKind prog w).is (.inl i) (.int i t) = true := keyIs_int i t
theorem mixKind_str (prog : Program) (w : World) (x : Str) (t : Tok) : (mixKind prog w).is (.inr x) (.str x t) = true := keyIs_str x t
end L2
namespace L2
open PySem PySem.Spec PyProof.Rows
inductive V where
  | non | bl (b : Bool) | int (i : Int) | str (x : Str) | byt (b : Array UInt8) | flt (b : UInt64) | ref (a : Addr) | ty (n : String)
  deriving DecidableEq
def RelV : V → Value → Prop
  | .non, u => u = Value.none
  | .bl b, u => u = Value.bool b
  | .int i, u => ∃ t, u = Value.int i t
  | .str x, u => ∃ t, u = Value.str x t
  | .byt b, u => ∃ t, u = Value.bytes b t
  | .flt b, u => ∃ t, u = Value.float b t
  | .ref a, u => u = Value.ref a
  | .ty n, u => u = Value.type n
abbrev Vals : List V → List Value → Prop := Paired RelV
theorem Vals.length {xs : List V} {us : List Value} (r : Vals xs us) : xs.length = us.length := Paired.length r
theorem Vals.get : ∀ {xs : List V} {us : List Value} {i : Nat} {x : V}, Vals xs us → xs[i]? = some x → ∃ u, us[i]? = some u ∧ RelV x u
  | _, _, _, _, .nil, e => by simp at e
  | _, _, 0, _, .cons r _, e => by simp at e; subst e; exact ⟨_, rfl, r⟩
  | _, _, i + 1, x, .cons _ t, e => by
    obtain ⟨u, h1, h2⟩ := Vals.get (i := i) (x := x) t (by simpa using e)
    exact ⟨u, by simpa using h1, h2⟩
theorem Vals.set {x : V} {u : Value} (r : RelV x u) : ∀ {xs : List V} {us : List Value} (i : Nat), Vals xs us → Vals (xs.set i x) (us.set i u)
  | _, _, _, .nil => .nil
  | _, _, 0, .cons _ t => .cons r t
  | _, _, i + 1, .cons q t => .cons q (Vals.set r i t)
theorem Vals.append : ∀ {xs ys : List V} {us ws : List Value}, Vals xs us → Vals ys ws → Vals (xs ++ ys) (us ++ ws)
  | _, _, _, _, .nil, s => s
  | _, _, _, _, .cons r t, s => .cons r (Vals.append t s)
theorem Vals.take : ∀ {xs : List V} {us : List Value} (n : Nat), Vals xs us → Vals (xs.take n) (us.take n)
  | _, _, 0, _ => .nil
  | _, _, _ + 1, .nil => .nil
  | _, _, n + 1, .cons r t => .cons r (Vals.take n t)
theorem Vals.drop : ∀ {xs : List V} {us : List Value} (n : Nat), Vals xs us → Vals (xs.drop n) (us.drop n)
  | _, _, 0, r => r
  | _, _, _ + 1, .nil => .nil
  | _, _, n + 1, .cons _ t => Vals.drop n t
def RelO : Option V → Option Value → Prop
  | some v, some u => RelV v u
  | none, none => True
  | _, _ => False
def KV {κ : Type} : List (κ × V) → List (κ × Value) → Prop := Paired fun (p : κ × V) (q : κ × Value) => p.1 = q.1 ∧ RelV p.2 q.2
def kV : Key → V
  | .inl i => .int i
  | .inr x => .str x
inductive HO where
  | lst (xs : List V)
  | tup (xs : List V)
  | dK (kvs : List (Key × V)) | dT (kvs : List (List Key × V))
  | set (S : Int → Bool) (n : Nat)
  | ins (C dx : Addr) (fs : List (Str × V))
  | own (x : Addr)
  | xd (fs : List (Str × V))
  | met (f x : Addr)
  | rng (lo hi : Int)
  | frz (o : Obj) (u : HO)
  | tbl (ps : Array Value)
  | ext (φ : Heap → Prop)
abbrev Hp := Addr → Option HO
def upd (H : Hp) (a : Addr) (o : HO) : Hp := fun b => if b = a then some o else H b
theorem upd_same {H : Hp} {a : Addr} {o : HO} : upd H a o a = some o := by unfold upd; rw [if_pos rfl]
theorem upd_ne {H : Hp} {a b : Addr} {o : HO} (h : b ≠ a) : upd H a o b = H b := by unfold upd; rw [if_neg h]
theorem upd_upd {H : Hp} {a : Addr} {o u : HO} : upd (upd H a o) a u = upd H a u := by
  funext b; unfold upd; split <;> rfl
theorem ne_of {H : Hp} {a b : Addr} {o u : HO} (h : H a = some o) (h' : H b = some u) (d : o ≠ u) : a ≠ b := by
  intro e; subst e; rw [h] at h'; exact d (Option.some.inj h')
theorem ne_of_none {H : Hp} {a b : Addr} {o : HO} (h : H a = some o) (h' : H b = none) : a ≠ b := by
  intro e; subst e; rw [h] at h'; cases h'
section
variable (P : Program) (w : World)
def ObjOk (H : Hp) (h : Heap) (a : Addr) : HO → Prop
  | .lst xs => xs.length ≤ sizeLine ∧ ∃ (its : List Value) (n : Nat), Vals xs its ∧ h.get? a = some { cls := .type "list", data := .seq its.toArray n }
  | .tup xs => xs.length ≤ sizeLine ∧ ∃ its : List Value, Vals xs its ∧ IsTup h a its.toArray
  | .dK kvs => kvs.length ≤ sizeLine ∧ (a == sysModules) = false ∧ ∃ vs, KV kvs vs ∧ h.DictOf (mixKind P w) a vs
  | .dT kvs => kvs.length ≤ sizeLine ∧ (a == sysModules) = false ∧ ∃ xs : List (List Key × Addr × Value),
      Paired (fun (p : List Key × V) (q : List Key × Addr × Value) => p.1 = q.1 ∧ H q.2.1 = some (.tup (p.1.map kV)) ∧ RelV p.2 q.2.2) kvs xs ∧
      ∃ o es ep, h.get? a = some o ∧ o.ExactDict ∧ o.data = .dict es ep ∧ es.toList = xs.map (entryOfKey (tupleKind (mixKind P w))) ∧ (xs.map (·.1)).Nodup
  | .set S n => h.SetOf (intKind P w) a S n
  | .ins C dx fs => H dx = some (.own a) ∧ fs.length ≤ 1000 ∧ dx ≠ a ∧ h.get? a = some (PySem.W.instObj C dx) ∧
      ∃ mA, h.Ns1 dx mA ∧ (∀ f, RelO (fs.lookup f) (mA f)) ∧ PySem.Within mA (fs.map (·.1))
  | .own _ => ∃ o, h.get? a = some o
  | .xd fs => ∃ mA, h.Ns1 a mA ∧ ∀ f, RelO (fs.lookup f) (mA f)
  | .rng lo hi => ∃ t u v, h.get? a = some { cls := .type "range", data := .fields #[.int lo t, .int hi u, .int 1 v] }
  | .frz o u => h.get? a = some o ∧ ObjOk H h a u
  | .tbl ps => h.get? a = some { cls := .none, data := .fields ps }
  | .met f x => h.get? a = some (PySem.W.methodObj (.ref f) (.ref x))
  | .ext φ => φ h ∧ (∃ o, h.get? a = some o) ∧ ∀ h1 h2 : Heap, φ h1 → (∀ o, h1.get? a = some o → h2.get? a = some o) → φ h2
def HOk (H : Hp) (h : Heap) : Prop := ∀ a o, H a = some o → ObjOk P w H h a o
end
section
variable {P : Program} {w : World} {H H' : Hp} {h h' : Heap} {a : Addr} {o : HO}
theorem ObjOk.lt (x : ObjOk P w H h a o) : a < h.objs.size := by
  cases o with
  | lst xs => obtain ⟨_, _, _, _, e⟩ := x; exact Heap.lt_size e
  | tup xs => obtain ⟨_, _, _, p⟩ := x; exact p.lt
  | dK kvs => obtain ⟨_, _, _, _, o, _, _, e, _⟩ := x; exact Heap.lt_size e
  | dT kvs => obtain ⟨_, _, _, _, o, _, _, e, _⟩ := x; exact Heap.lt_size e
  | set S n => obtain ⟨o, _, _, _, e, _⟩ := x; exact Heap.lt_size e
  | ins C dx fs => obtain ⟨_, _, _, e, _⟩ := x; exact Heap.lt_size e
  | own y => obtain ⟨_, e⟩ := x; exact Heap.lt_size e
  | xd fs => obtain ⟨_, ⟨_, _, _, e, _⟩, _⟩ := x; exact Heap.lt_size e
  | rng lo hi => obtain ⟨_, _, _, e⟩ := x; exact Heap.lt_size e
  | frz ob u => obtain ⟨e, _⟩ := x; exact Heap.lt_size e
  | tbl ps => exact Heap.lt_size (show h.get? a = some _ from x)
  | met f y => exact Heap.lt_size (show h.get? a = some _ from x)
  | ext φ => obtain ⟨_, ⟨_, e⟩, _⟩ := x; exact Heap.lt_size e
theorem Paired.mapP {α β : Type} {F G : α → β → Prop} : ∀ {l₁ : List α} {l₂ : List β}, Paired F l₁ l₂ → (∀ a b, F a b → G a b) → Paired G l₁ l₂
  | _, _, .nil, _ => .nil
  | _, _, .cons r t, f => .cons (f _ _ r) (Paired.mapP t f)
theorem ObjOk.stay (x : ObjOk P w H h a o) (k : ∀ b u, (b = a ∨ H b = some (.own a)) → h.get? b = some u → h'.get? b = some u)
    (ho : ∀ b, H b = some (.own a) → H' b = some (.own a)) (ht : ∀ b xs, H b = some (.tup xs) → H' b = some (.tup xs)) : ObjOk P w H' h' a o := by
  induction o with
  | lst xs => obtain ⟨z, its, n, r, e⟩ := x; exact ⟨z, its, n, r, k _ _ (.inl rfl) e⟩
  | tup xs => obtain ⟨z, its, r, ob, e, c⟩ := x; exact ⟨z, its, r, ob, k _ _ (.inl rfl) e, c⟩
  | dK kvs => obtain ⟨z, y, vs, r, ob, es, ep, e, c⟩ := x; exact ⟨z, y, vs, r, ob, es, ep, k _ _ (.inl rfl) e, c⟩
  | dT kvs =>
    obtain ⟨z, y, xs, r, ob, es, ep, e, c⟩ := x
    exact ⟨z, y, xs, Paired.mapP r fun p q z => ⟨z.1, ht _ _ z.2.1, z.2.2⟩, ob, es, ep, k _ _ (.inl rfl) e, c⟩
  | set S n => obtain ⟨ob, es, ep, t, e, c⟩ := x; exact ⟨ob, es, ep, t, k _ _ (.inl rfl) e, c⟩
  | ins C dx fs =>
    obtain ⟨d, z, ne, e, mA, ⟨od, es, ep, e2, c⟩, r⟩ := x
    exact ⟨ho _ d, z, ne, k _ _ (.inl rfl) e, mA, ⟨od, es, ep, k _ _ (.inr d) e2, c⟩, r⟩
  | own y => obtain ⟨ob, e⟩ := x; exact ⟨ob, k _ _ (.inl rfl) e⟩
  | xd fs => obtain ⟨mA, ⟨od, es, ep, e, c⟩, r⟩ := x; exact ⟨mA, ⟨od, es, ep, k _ _ (.inl rfl) e, c⟩, r⟩
  | rng lo hi => obtain ⟨t, u, v, e⟩ := x; exact ⟨t, u, v, k _ _ (.inl rfl) e⟩
  | frz ob u ih => obtain ⟨e, q⟩ := x; exact ⟨k _ _ (.inl rfl) e, ih q⟩
  | tbl ps =>
    have e : h.get? a = some { cls := .none, data := .fields ps } := x
    show h'.get? a = some { cls := .none, data := .fields ps }
    exact k a _ (.inl rfl) e
  | met f y =>
    have e : h.get? a = some (PySem.W.methodObj (.ref f) (.ref y)) := x
    show h'.get? a = some (PySem.W.methodObj (.ref f) (.ref y))
    exact k a _ (.inl rfl) e
  | ext φ => obtain ⟨p, ⟨o, e⟩, st⟩ := x; exact ⟨st _ _ p fun o q => k _ _ (.inl rfl) q, ⟨o, k _ _ (.inl rfl) e⟩, st⟩
theorem HOk.lt (x : HOk P w H h) (e : H a = some o) : a < h.objs.size := (x a o e).lt
theorem HOk.fresh (x : HOk P w H h) (e : h.objs.size ≤ a) : H a = none := by
  cases q : H a with
  | none => rfl
  | some u => exact absurd (Nat.lt_of_lt_of_le (x.lt q) e) (Nat.lt_irrefl _)
theorem HOk.kept (x : HOk P w H h) (k : ∀ b u, h.get? b = some u → h'.get? b = some u) : HOk P w H h' := fun a o e =>
  (x a o e).stay (fun b u _ q => k b u q) (fun _ q => q) fun _ _ q => q
theorem HOk.laid (x : HOk P w H h) (k : ∀ b u, h.get? b = some u → h'.get? b = some u) (hp : h.objs.size ≤ a) (new : ObjOk P w (upd H a o) h' a o) : HOk P w (upd H a o) h' := fun b u e => by
  have hn := x.fresh hp
  by_cases hb : b = a
  · subst hb; rw [upd_same] at e; cases e; exact new
  · rw [upd_ne hb] at e
    exact (x b u e).stay (fun c v _ q => k c v q) (fun c q => by rw [upd_ne (ne_of_none q hn)]; exact q) fun c xs q => by rw [upd_ne (ne_of_none q hn)]; exact q
end
def Rd (H : Hp) (a : Addr) (u : HO) : Prop := H a = some u ∨ ∃ o, H a = some (.frz o u)
theorem Rd.ok {P : Program} {w : World} {H : Hp} {h : Heap} {a : Addr} {u : HO} (r : Rd H a u) (x : HOk P w H h) : ObjOk P w H h a u := by
  rcases r with r | ⟨o, r⟩
  · exact x a u r
  · obtain ⟨_, q⟩ := x a _ r
    exact q
def Mut : Option HO → Prop
  | some (.lst _) => True
  | some (.dK _) => True
  | some (.dT _) => True
  | some (.set _ _) => True
  | some (.ins _ _ _) => True
  | some (.ext _) => True
  | _ => False
section
variable {P : Program} {w : World} {H : Hp} {h h' : Heap} {x e : Addr} {o' : HO}
theorem HOk.write (ok : HOk P w H h) (mu : Mut (H x)) (he : e = x ∨ H e = some (.own x)) (k : ∀ b u, b ≠ e → h.get? b = some u → h'.get? b = some u) (heo : ∃ u, h'.get? e = some u)
    (new : ObjOk P w (upd H x o') h' x o') : HOk P w (upd H x o') h' := fun b u q => by
  have nown : ∀ c y, H c = some (.own y) → c ≠ x := fun c y r z => by subst z; rw [r] at mu; exact mu
  have ntup : ∀ c xs, H c = some (.tup xs) → c ≠ x := fun c xs r z => by subst z; rw [r] at mu; exact mu
  by_cases hb : b = x
  · subst hb; rw [upd_same] at q; cases q; exact new
  · rw [upd_ne hb] at q
    by_cases hbe : b = e
    · have q' : H b = some (.own x) := by
        rcases he with z | z
        · exact absurd (hbe.trans z) hb
        · rw [hbe]; exact z
      rw [q] at q'; cases q'
      obtain ⟨v, hv⟩ := heo
      exact ⟨v, by rw [hbe]; exact hv⟩
    · refine (ok b u q).stay (fun c v hc r => k c v ?_ r) (fun c r => by rw [upd_ne (nown c b r)]; exact r) fun c xs r => by rw [upd_ne (ntup c xs r)]; exact r
      rcases hc with rfl | hc
      · exact hbe
      · rintro rfl
        rcases he with z | z
        · exact nown c b hc z
        · rw [hc] at z; cases z; exact hb rfl
end
structure Un (fs ex : List Addr) (H H' : Hp) (h h' : Heap) : Prop where
  keep : ∀ b o, h.get? b = some o → H b = none → b ∉ fs → b ∉ ex → h'.get? b = some o
  slot : ∀ b o, h.get? b = some o → H b = none → b ∈ fs → b ∉ ex → ∃ sl, h'.get? b = some { o with slots := sl }
  free : ∀ b o, h.get? b = some o → H b = none → b ∉ ex → H' b = none
  there : ∀ b o, h.get? b = some o → b ∉ ex → ∃ o', h'.get? b = some o'
  tups : ∀ b xs, H b = some (.tup xs) → H' b = some (.tup xs)
  frzs : ∀ b o u, H b = some (.frz o u) → H' b = some (.frz o u)
  tbls : ∀ b ps, H b = some (.tbl ps) → ∃ more, H' b = some (.tbl (ps ++ more))
section
variable {fs fs' ex ex' : List Addr} {H H1 H2 : Hp} {h h1 h2 h' : Heap} {a x e : Addr} {o : HO}
theorem Un.any (u : Un fs ex H H1 h h1) {b : Addr} {ob : Obj} (q : h.get? b = some ob) (n : H b = none) (hx : b ∉ ex) : ∃ sl, h1.get? b = some { ob with slots := sl } := by
  by_cases hb : b ∈ fs
  · exact u.slot b ob q n hb hx
  · exact ⟨ob.slots, u.keep b ob q n hb hx⟩
theorem Un.kept (k : ∀ b u, h.get? b = some u → h'.get? b = some u) : Un fs ex H H h h' :=
  ⟨fun b ob q _ _ _ => k b ob q, fun b ob q _ _ _ => ⟨ob.slots, k b ob q⟩, fun _ _ _ n _ => n, fun b ob q _ => ⟨ob, k b ob q⟩, fun _ _ q => q, fun _ _ _ q => q, fun _ ps q => ⟨#[], by rw [q]; simp⟩⟩
theorem Un.refl : Un fs ex H H h h := Un.kept fun _ _ q => q
theorem Un.laid (k : ∀ b u, h.get? b = some u → h'.get? b = some u) (hp : h.objs.size ≤ a) (hn : H a = none) : Un fs ex H (upd H a o) h h' where
  keep := fun b u q _ _ _ => k b u q
  slot := fun b u q _ _ _ => ⟨u.slots, k b u q⟩
  free := fun b u q n _ => by rw [upd_ne (Nat.ne_of_lt (Nat.lt_of_lt_of_le (Heap.lt_size q) hp))]; exact n
  there := fun b u q _ => ⟨u, k b u q⟩
  tups := fun b xs q => by rw [upd_ne (ne_of_none q hn)]; exact q
  frzs := fun b u xs q => by rw [upd_ne (ne_of_none q hn)]; exact q
  tbls := fun b ps q => ⟨#[], by rw [upd_ne (ne_of_none q hn), q]; simp⟩
theorem Un.write (mu : Mut (H x)) (he : e = x ∨ H e = some (.own x)) (k : ∀ b u, b ≠ e → h.get? b = some u → h'.get? b = some u) (heo : ∃ u, h'.get? e = some u) : Un fs ex H (upd H x o) h h' := by
  have hx : ∀ b, H b = none → b ≠ x := fun b n z => by subst z; rw [n] at mu; exact mu
  have hb : ∀ b, H b = none → b ≠ e := fun b n z => by
    subst z
    rcases he with r | r
    · exact hx b n r
    · rw [n] at r; cases r
  have hm : ∀ b u, H b = some u → ¬ Mut (some u) → b ≠ x := fun b u q nm z => by subst z; rw [q] at mu; exact nm mu
  refine ⟨fun b u q n _ _ => k b u (hb b n) q, fun b u q n _ _ => ⟨u.slots, k b u (hb b n) q⟩, fun b u q n _ => by rw [upd_ne (hx b n)]; exact n, fun b u q _ => ?_,
    fun b xs q => by rw [upd_ne (hm b _ q fun z => z)]; exact q, fun b u xs q => by rw [upd_ne (hm b _ q fun z => z)]; exact q, fun b ps q => ⟨#[], by rw [upd_ne (hm b _ q fun z => z), q]; simp⟩⟩
  by_cases hbe : b = e
  · subst hbe; exact heo
  · exact ⟨u, k b u hbe q⟩
end
def trk (h : Heap) (H : Hp) : List Addr := (List.range h.objs.size).filter fun a => (H a).isSome
def hidT (h : Heap) (H : Hp) : Heap := PySem.W.hideAll h (trk h H)
theorem hidT_size (h : Heap) (H : Hp) : (hidT h H).objs.size = h.objs.size := PySem.W.hideAll_size _ _
theorem hidT_get {h : Heap} {H : Hp} {b : Addr} {o : Obj} (e : h.get? b = some o) (n : H b = none) : (hidT h H).get? b = some o :=
  PySem.W.hideAll_get _ e fun hm => by
    have q : (H b).isSome = true := (List.mem_filter.mp hm).2
    rw [n] at q; simp at q
theorem of_hidT {h : Heap} {H : Hp} {b : Addr} {o : Obj} (e : (hidT h H).get? b = some o) : h.get? b = some o ∧ H b = none := by
  have e' : h.get? b = some o := PySem.W.of_hideAll (trk h H) e
  refine ⟨e', ?_⟩
  cases q : H b with
  | none => rfl
  | some x =>
    have hm : b ∈ trk h H := List.mem_filter.mpr ⟨List.mem_range.mpr (Heap.lt_size e'), by simp [q]⟩
    have z : (hidT h H).get? b = none := PySem.W.hideAll_none (trk h H) hm
    rw [z] at e; cases e
def allNews (g h : Heap) (L : Addr) : List (Addr × Obj) := (List.range h.objs.size).filterMap fun a => if a = L ∨ (g.get? a).isSome = true then none else (h.get? a).map fun o => (a, o)
def rest (g h : Heap) (L d : Addr) : List (Addr × Obj) := (allNews g h L).filter fun p => decide (p.1 ≠ d)
end L2
namespace L2
open PySem PySem.Spec PyProof.Rows
structure Mod (K : PySem.W.Frag) (mg : Str → Option Value) (base : Heap) : Prop where
  kin : K.In base
  glob : base.Ns mainGlobals mg
  blt : ∃ mb, base.Ns builtinsNs mb ∧ ∀ x : Str, x ≠ "__name__" → mb x = bootBuiltins x
  nolimit : base.NoLimit
structure Cx where
  prog : Program
  w : World
  K : PySem.W.Frag
  mg : Str → Option Value
  base : Heap
  A : Around
  N : List Str
  s₀ : Shared
  H₀ : Hp
  env : Env
  outer : List Env
  stack : List Env
  ex : List Addr
  fn : Str → Bool
  calm : Bool
  pn : List (Addr × Obj)
  xe : Value → Shared → Prop
def frs (l : List Env) : List Addr := l.filterMap (·.frame)
abbrev Cx.fs (X : Cx) : List Addr := frs X.outer
def Vis (sc : Scope) (x : Str) : Prop := sc.names.lookup x = some .local ∨ sc.names.lookup x = some .cell ∨ sc.names.lookup x = some .free
def Loc (sc : Scope) (x : Str) : Prop := sc.names.lookup x = some .local ∨ sc.names.lookup x = some .cell
def Look (env : Env) (h : Heap) (m : Str → Option Value) (x : Str) (u : Value) : Prop :=
  (env.kindOf x = some .local ∧ m x = some u) ∨ ((env.kindOf x = some .cell ∨ env.kindOf x = some .free) ∧ ∃ c, env.cells.lookup x = some c ∧ h.IsCell c (some u))
structure Cx.Ok (X : Cx) : Prop where
  mod : Mod X.K X.mg X.base
  kind : X.env.scope.kind = .function
  glob : X.env.globals = mainGlobals
  blt : X.env.builtins = builtinsNs
  above : X.s₀.heap.objs.size ≤ X.env.locals
  inj : ∀ x y c, X.env.cells.lookup x = some c → X.env.cells.lookup y = some c → x = y
  has : ∀ x, (X.env.kindOf x = some .cell ∨ X.env.kindOf x = some .free) → ∃ c, X.env.cells.lookup x = some c
  cab : ∀ x c, X.fn x = true → X.env.cells.lookup x = some c → X.s₀.heap.objs.size ≤ c
  hd : X.calm = true → X.A.handled = none
  frames : X.A.frames = some X.stack
  stk : X.stack = X.outer ∨ (X.stack = X.env :: X.outer ∧ X.env.frame = some X.env.locals)
  exf : ∀ b ∈ X.ex, b ≠ X.env.locals ∧ ∀ x c, X.env.cells.lookup x = some c → c ≠ b
  bs : ∀ b o, X.base.get? b = some o → X.s₀.heap.get? b = some o ∧ X.H₀ b = none
  bsz : X.base.objs.size ≤ X.s₀.heap.objs.size
  noex : ∀ b o, X.base.get? b = some o → b ∉ X.ex
  exfs : ∀ b ∈ X.ex, b ∉ X.fs
  funs : X.s₀.heap.FunFrames X.base X.outer
  frf : ∀ b ∈ X.fs, X.H₀ b = none
structure Inv (X : Cx) (pins : List (Addr × Obj)) (σ : List (Option V)) (H : Hp) (s : Shared) : Prop where
  ok : X.Ok
  os : s.os = X.s₀.os
  bare : AllBare s.gens
  base : Un X.fs X.ex X.H₀ H X.s₀.heap s.heap
  loc : ∃ m, s.heap.Ns X.env.locals m ∧ ∀ (i : Nat) (x : Str) (v : V), X.N[i]? = some x → σ[i]? = some (some v) → Vis X.env.scope x → ∃ u, RelV v u ∧ Look X.env s.heap m x u
  cell : ∀ x c, X.env.cells.lookup x = some c → ∃ v, s.heap.IsCell c v
  free : H X.env.locals = none
  freeC : ∀ x c, X.env.cells.lookup x = some c → H c = none
  pin : ∀ p ∈ X.pn ++ pins, s.heap.get? p.1 = some p.2 ∧ H p.1 = none ∧ p.1 ≠ X.env.locals ∧ p.1 ∉ X.fs ∧ ∀ v, p.2.data ≠ .cell v
  hok : HOk X.prog X.w H s.heap
  len : σ.length = X.N.length
section
variable {X : Cx} {pins : List (Addr × Obj)} {σ : List (Option V)} {H H' : Hp} {s : Shared} {h' : Heap}
theorem Cx.Ok.nofr (ok : X.Ok) {b : Addr} {o : Obj} (e : X.base.get? b = some o) : b ∉ X.fs := fun hb => by
  have := (ok.funs.mem hb).1
  rw [e] at this; cases this
theorem Inv.bs (I : Inv X pins σ H s) : ∀ b o, X.base.get? b = some o → s.heap.get? b = some o ∧ H b = none := fun b o e =>
  ⟨I.base.keep b o (I.ok.bs b o e).1 (I.ok.bs b o e).2 (I.ok.nofr e) (I.ok.noex b o e), I.base.free b o (I.ok.bs b o e).1 (I.ok.bs b o e).2 (I.ok.noex b o e)⟩
theorem Inv.bk (I : Inv X pins σ H s) : ∀ b o, X.base.get? b = some o → s.heap.get? b = some o := fun b o e => (I.bs b o e).1
theorem Inv.mod (I : Inv X pins σ H s) : Mod X.K X.mg X.base := I.ok.mod
theorem Inv.kIn (I : Inv X pins σ H s) : X.K.In s.heap := I.ok.mod.kin.keeps I.bk
theorem Inv.lt (I : Inv X pins σ H s) : X.env.locals < s.heap.objs.size := let ⟨_, hn, _⟩ := I.loc; hn.lt
theorem Inv.sz (I : Inv X pins σ H s) : X.s₀.heap.objs.size ≤ s.heap.objs.size := Nat.le_trans I.ok.above (Nat.le_of_lt I.lt)
theorem Inv.nofs (I : Inv X pins σ H s) {a : Addr} (h : s.heap.objs.size ≤ a) : a ∉ X.fs := fun hb => by
  obtain ⟨_, o, ho, _⟩ := I.ok.funs.mem hb
  exact absurd (Nat.lt_of_lt_of_le (Heap.lt_size ho) (Nat.le_trans I.sz h)) (Nat.lt_irrefl _)
theorem Inv.cne (I : Inv X pins σ H s) : ∀ x c, X.env.cells.lookup x = some c → c ≠ X.env.locals := fun x c e z => by
  obtain ⟨v, o, ho, hd⟩ := I.cell x c e
  obtain ⟨m, ⟨o', es, ep, ho', hd', _⟩, _⟩ := I.loc
  rw [z, ho'] at ho; cases ho; rw [hd'] at hd; cases hd
theorem Inv.funs (I : Inv X pins σ H s) : s.heap.FunFrames X.base X.outer := by
  have all : ∀ (l : List Env), (∀ b ∈ frs l, b ∈ X.fs) → X.s₀.heap.FunFrames X.base l → s.heap.FunFrames X.base l := by
    intro l
    induction l with
    | nil => intro _ _; trivial
    | cons env r ih =>
      intro hs hl
      obtain ⟨hk, ⟨L, o, hf, hn, ho, hd⟩, hr⟩ := hl
      have hL : L ∈ X.fs := hs L (by unfold frs; rw [List.filterMap_cons, hf]; exact List.mem_cons_self)
      obtain ⟨sl, e⟩ := I.base.slot L o ho (I.ok.frf L hL) hL fun z => I.ok.exfs L z hL
      exact ⟨hk, ⟨L, _, hf, hn, e, hd⟩, ih (fun b hb => hs b (by unfold frs; rw [List.filterMap_cons, hf]; exact List.mem_cons_of_mem _ hb)) hr⟩
  exact all X.outer (fun _ hb => hb) I.ok.funs
theorem Inv.stack (I : Inv X pins σ H s) : s.heap.FunFrames X.base X.stack := by
  rcases I.ok.stk with e | ⟨e, hf⟩
  · rw [e]; exact I.funs
  · rw [e]
    obtain ⟨m, hn, _⟩ := I.loc
    refine .cons (by rw [I.ok.kind]; decide) hf hn ?_ I.funs
    exact Heap.get?_none_of_le (Nat.le_trans I.ok.bsz I.ok.above)
theorem Inv.stkSub (I : Inv X pins σ H s) : ∀ b ∈ frs X.stack, b ∈ X.env.locals :: X.fs := fun b hb => by
  rcases I.ok.stk with e | ⟨e, hf⟩
  · rw [e] at hb; exact List.mem_cons_of_mem _ hb
  · rw [e] at hb
    unfold frs at hb
    rw [List.filterMap_cons, hf] at hb
    exact hb
theorem Inv.stkFree (I : Inv X pins σ H s) : ∀ b ∈ frs X.stack, H b = none := fun b hb => by
  rcases List.mem_cons.mp (I.stkSub b hb) with e | hb
  · rw [e]; exact I.free
  · obtain ⟨_, o, ho, _⟩ := I.ok.funs.mem hb
    exact I.base.free b o ho (I.ok.frf b hb) fun z => I.ok.exfs b z hb
theorem Inv.step {g' : Array GenState} {t' : Nat} {d' : Drawn} {ch : List Addr} (I : Inv X pins σ H s)
    (hch : ∀ b ∈ ch, (b ∈ X.ex ∨ X.s₀.heap.objs.size ≤ b) ∧ b ≠ X.env.locals ∧ (∀ x c, X.env.cells.lookup x = some c → c ≠ b) ∧ ∀ p ∈ X.pn ++ pins, p.1 ≠ b)
    (keep : ∀ b o, b ≠ X.env.locals → b ∉ X.fs → b ∉ ch → s.heap.get? b = some o → H b = none → h'.get? b = some o)
    (slot : ∀ b o, b ≠ X.env.locals → b ∈ X.fs → b ∉ ch → s.heap.get? b = some o → H b = none → ∃ sl, h'.get? b = some { o with slots := sl }) (free : ∀ b o, b ∉ ch → s.heap.get? b = some o → H b = none → H' b = none)
    (there : ∀ b o, b ∉ ch → s.heap.get? b = some o → ∃ o', h'.get? b = some o')
    (tups : ∀ b xs, H b = some (.tup xs) → H' b = some (.tup xs)) (frzs : ∀ b o u, H b = some (.frz o u) → H' b = some (.frz o u)) (tbls : ∀ b ps, H b = some (.tbl ps) → ∃ more, H' b = some (.tbl (ps ++ more)))
    (ns : ∀ m, s.heap.Ns X.env.locals m → h'.Ns X.env.locals m) (hok : HOk X.prog X.w H' h') (hg : AllBare g') :
    Inv X pins σ H' { s with heap := h', gens := g', drawn := d', toks := t' } := by
  have neL : ∀ b o, X.s₀.heap.get? b = some o → b ≠ X.env.locals := fun b o e => Nat.ne_of_lt (Nat.lt_of_lt_of_le (Heap.lt_size e) I.ok.above)
  have neC : ∀ b o, X.s₀.heap.get? b = some o → b ∉ X.ex → b ∉ ch := fun b o e hx hb => by
    rcases (hch b hb).1 with z | z
    · exact hx z
    · exact absurd (Nat.lt_of_lt_of_le (Heap.lt_size e) z) (Nat.lt_irrefl _)
  have cellK : ∀ x c, X.env.cells.lookup x = some c → ∀ v, s.heap.IsCell c v → h'.IsCell c v := fun x c e v ⟨o, ho, hd⟩ => by
    have nch : c ∉ ch := fun z => (hch c z).2.2.1 x c e rfl
    by_cases hc : c ∈ X.fs
    · obtain ⟨sl, q⟩ := slot c o (I.cne x c e) hc nch ho (I.freeC x c e)
      exact ⟨_, q, hd⟩
    · exact ⟨o, keep c o (I.cne x c e) hc nch ho (I.freeC x c e), hd⟩
  refine ⟨I.ok, I.os, hg, ⟨fun b o e n hb hx => ?_, fun b o e n hb hx => ?_, fun b o e n hx => ?_, fun b o e hx => ?_, fun b xs e => tups b xs (I.base.tups b xs e), fun b o xs e => frzs b o xs (I.base.frzs b o xs e), fun b ps e => ?_⟩, ?_, fun x c e => ?_, ?_, fun x c e => ?_, fun p hp => ?_, hok, I.len⟩
  · exact keep b o (neL b o e) hb (neC b o e hx) (I.base.keep b o e n hb hx) (I.base.free b o e n hx)
  · obtain ⟨sl, e1⟩ := I.base.slot b o e n hb hx
    obtain ⟨sl', e2⟩ := slot b _ (neL b o e) hb (neC b o e hx) e1 (I.base.free b o e n hx)
    exact ⟨sl', e2⟩
  · obtain ⟨o', e1⟩ := I.base.there b o e hx
    exact free b o' (neC b o e hx) e1 (I.base.free b o e n hx)
  · obtain ⟨o', e1⟩ := I.base.there b o e hx
    exact there b o' (neC b o e hx) e1
  · obtain ⟨m1, e1⟩ := I.base.tbls b ps e
    obtain ⟨m2, e2⟩ := tbls b _ e1
    exact ⟨m1 ++ m2, by rw [e2, Array.append_assoc]⟩
  · obtain ⟨m, hn, hl⟩ := I.loc
    refine ⟨m, ns m hn, fun i x v e1 e2 e3 => ?_⟩
    obtain ⟨u, r, l⟩ := hl i x v e1 e2 e3
    refine ⟨u, r, ?_⟩
    rcases l with l | ⟨k, c, e, z⟩
    · exact .inl l
    · exact .inr ⟨k, c, e, cellK x c e _ z⟩
  · obtain ⟨v, z⟩ := I.cell x c e
    exact ⟨v, cellK x c e v z⟩
  · obtain ⟨m, ⟨o, _, _, ho, _⟩, _⟩ := I.loc
    exact free _ o (fun z => (hch _ z).2.1 rfl) ho I.free
  · obtain ⟨v, o, ho, hd⟩ := I.cell x c e
    exact free c o (fun z => (hch c z).2.2.1 x c e rfl) ho (I.freeC x c e)
  · obtain ⟨e, n, ne, nf, d⟩ := I.pin p hp
    have nch : p.1 ∉ ch := fun z => (hch p.1 z).2.2.2 p hp rfl
    exact ⟨keep p.1 p.2 ne nf nch e n, free p.1 p.2 nch e n, ne, nf, d⟩
theorem Inv.un {t' : Nat} (I : Inv X pins σ H s) (u : Un X.fs [] H H' s.heap h') (hok : HOk X.prog X.w H' h') : Inv X pins σ H' { s with heap := h', toks := t' } := by
  obtain ⟨m, ⟨o, es, ep, ho, r⟩, _⟩ := id I.loc
  obtain ⟨sl, hL⟩ := u.any ho I.free (by simp)
  exact I.step (g' := s.gens) (d' := s.drawn) (ch := []) (fun _ z => nomatch z) (fun b o _ hb _ e n => u.keep b o e n hb (by simp)) (fun b o _ hb _ e n => u.slot b o e n hb (by simp)) (fun b o _ e n => u.free b o e n (by simp)) (fun b o _ e => u.there b o e (by simp)) u.tups u.frzs u.tbls (fun m' hm => by
    obtain ⟨o', es', ep', ho', r'⟩ := hm
    rw [ho] at ho'; cases ho'
    exact ⟨_, es', ep', hL, r'⟩) hok I.bare
theorem Inv.call {g' : Array GenState} {t' : Nat} {d' : Drawn} {ch : List Addr} (I : Inv X pins σ H s) (u : Un (frs X.stack) ch H H' s.heap h') (hok : HOk X.prog X.w H' h') (hg : AllBare g')
    (hch : ∀ b ∈ ch, (b ∈ X.ex ∨ X.s₀.heap.objs.size ≤ b) ∧ b ≠ X.env.locals ∧ (∀ x c, X.env.cells.lookup x = some c → c ≠ b) ∧ ∀ p ∈ X.pn ++ pins, p.1 ≠ b) :
    Inv X pins σ H' { s with heap := h', gens := g', drawn := d', toks := t' } := by
  obtain ⟨m, ⟨o, es, ep, ho, r⟩, _⟩ := id I.loc
  obtain ⟨sl, hL⟩ := u.any ho I.free fun z => (hch _ z).2.1 rfl
  exact I.step (ch := ch) hch (fun b o hL hb hc e n => u.keep b o e n (fun z => (List.mem_cons.mp (I.stkSub b z)).elim hL hb) hc) (fun b o _ _ hc e n => u.any e n hc) (fun b o hc e n => u.free b o e n hc) (fun b o hc e => u.there b o e hc) u.tups u.frzs u.tbls (fun m' hm => by
    obtain ⟨o', es', ep', ho', r'⟩ := hm
    rw [ho] at ho'; cases ho'
    exact ⟨_, es', ep', hL, r'⟩) hok hg
theorem Inv.turned {t' : Nat} {it : Addr} (I : Inv X pins σ H s) (k : ∀ b o, b ≠ it → s.heap.get? b = some o → h'.get? b = some o) (hn : H it = none) (hL : it ≠ X.env.locals)
    (h1 : it ∈ X.ex ∨ X.s₀.heap.objs.size ≤ it) (h2 : ∀ x c, X.env.cells.lookup x = some c → c ≠ it) (h3 : ∀ p ∈ X.pn ++ pins, p.1 ≠ it) : Inv X pins σ H { s with heap := h', toks := t' } := by
  have nit : ∀ b u, H b = some u → b ≠ it := fun b u e z => by rw [z, hn] at e; cases e
  refine I.step (g' := s.gens) (d' := s.drawn) (ch := [it]) (fun b hb => ?_) (fun b o _ _ hc e _ => k b o (fun z => hc (by simp [z])) e) (fun b o _ _ hc e _ => ⟨o.slots, k b o (fun z => hc (by simp [z])) e⟩) (fun _ _ _ _ n => n)
    (fun b o hc e => ⟨o, k b o (fun z => hc (by simp [z])) e⟩) (fun _ _ e => e) (fun _ _ _ e => e) (fun b ps e => ⟨#[], by rw [e]; simp⟩) (fun m hm => ?_) (fun b u e => ?_) I.bare
  · have e : b = it := by simpa using hb
    subst e
    exact ⟨h1, hL, h2, h3⟩
  · obtain ⟨o, es, ep, ho, r⟩ := hm
    exact ⟨o, es, ep, k _ o (Ne.symm hL) ho, r⟩
  · refine (I.hok b u e).stay (fun c v hc q => k c v ?_ q) (fun _ q => q) fun _ _ q => q
    rcases hc with z | z
    · rw [z]; exact nit b u e
    · exact nit c _ z
theorem Inv.tok (I : Inv X pins σ H s) (t : Nat) : Inv X pins σ H { s with toks := t } := I.un (h' := s.heap) (t' := t) Un.refl I.hok
theorem Inv.kept {t' : Nat} (I : Inv X pins σ H s) (k : ∀ b u, s.heap.get? b = some u → h'.get? b = some u) : Inv X pins σ H { s with heap := h', toks := t' } := I.un (Un.kept k) (I.hok.kept k)
theorem Inv.laid {a : Addr} {o : HO} {t' : Nat} (I : Inv X pins σ H s) (k : ∀ b u, s.heap.get? b = some u → h'.get? b = some u) (hp : s.heap.objs.size ≤ a) (new : ObjOk X.prog X.w (upd H a o) h' a o) :
    Inv X pins σ (upd H a o) { s with heap := h', toks := t' } := I.un (Un.laid k hp (I.hok.fresh hp)) (I.hok.laid k hp new)
theorem Inv.write {x e : Addr} {o : HO} {t' : Nat} (I : Inv X pins σ H s) (mu : Mut (H x)) (he : e = x ∨ H e = some (.own x)) (k : ∀ b u, b ≠ e → s.heap.get? b = some u → h'.get? b = some u) (heo : ∃ u, h'.get? e = some u)
    (new : ObjOk X.prog X.w (upd H x o) h' x o) : Inv X pins σ (upd H x o) { s with heap := h', toks := t' } := I.un (Un.write mu he k heo) (I.hok.write mu he k heo new)
theorem Inv.weak {σ' : List (Option V)} (I : Inv X pins σ H s) (hl : σ'.length = σ.length) (w : ∀ (i : Nat) v, σ'[i]? = some (some v) → σ[i]? = some (some v)) : Inv X pins σ' H s :=
  ⟨I.ok, I.os, I.bare, I.base, let ⟨m, hn, hl'⟩ := I.loc; ⟨m, hn, fun i x v e1 e2 e3 => hl' i x v e1 (w i v e2) e3⟩, I.cell, I.free, I.freeC, I.pin, I.hok, hl.trans I.len⟩
theorem Inv.pins_of {pins' : List (Addr × Obj)} (I : Inv X pins σ H s) (h : ∀ p ∈ pins', s.heap.get? p.1 = some p.2 ∧ H p.1 = none ∧ p.1 ≠ X.env.locals ∧ p.1 ∉ X.fs ∧ ∀ v, p.2.data ≠ .cell v) : Inv X pins' σ H s :=
  ⟨I.ok, I.os, I.bare, I.base, I.loc, I.cell, I.free, I.freeC, fun p hp => (List.mem_append.mp hp).elim (fun z => I.pin p (List.mem_append_left _ z)) (h p), I.hok, I.len⟩
theorem nodup_ix {N : List Str} (hN : N.Nodup) {i j : Nat} {x : Str} (a : N[i]? = some x) (b : N[j]? = some x) : i = j := by
  obtain ⟨h1, e1⟩ := List.getElem?_eq_some_iff.mp a
  obtain ⟨h2, e2⟩ := List.getElem?_eq_some_iff.mp b
  exact (List.getElem_inj hN).mp (e1.trans e2.symm)
theorem store_ok2 {M : Model} {A : Around} {E : Value → Shared → Prop} {i : Nat} {x : Str} {v : V} {u : Value} {Q : Unit → Shared → Prop} (I : Inv X pins σ H s) (hN : X.N.Nodup) (hi : X.N[i]? = some x) (hx : Loc X.env.scope x) (r : RelV v u)
    (h : ∀ s', Inv X pins (σ.set i (some v)) H s' → (∃ a, Heap.SameBut a s.heap s'.heap ∧ (a = X.env.locals ∨ X.env.cells.lookup x = some a)) → Q () s') (hf : X.fn x = true ∨ X.env.scope.names.lookup x = some .local := by first | exact .inl rfl | exact .inr rfl | assumption) : wpAny M A (storeName X.env x u) Q E s := by
  obtain ⟨m, hn, hl⟩ := id I.loc
  have hcls : (X.env.scope.kind == .class || (X.env.scope.kind == .module && X.env.locals != X.env.globals)) = false := by rw [I.ok.kind]; rfl
  have hiσ : i < σ.length := by rw [I.len]; exact (List.getElem?_eq_some_iff.mp hi).1
  have cne := I.cne
  have tracked : ∀ {a : Addr} {h' : Heap}, (∃ o, s.heap.get? a = some o ∧ H a = none) → Heap.SameBut a s.heap h' → HOk X.prog X.w H h' := fun {a h'} ha hs b ob e => by
    obtain ⟨_, _, hfree⟩ := ha
    refine (I.hok b ob e).stay (fun c w' hc q => (hs.2 c ?_).trans q) (fun _ q => q) fun _ _ q => q
    rintro rfl
    rcases hc with rfl | hc
    · rw [hfree] at e; cases e
    · rw [hfree] at hc; cases hc
  rcases hx with hk | hk
  · refine wpAny_storeName_local hk hn (fun h' hn' hs => ?_) hcls
    obtain ⟨oL, _, _, hoL, _⟩ := id hn
    refine h _ ⟨I.ok, I.os, I.bare, ⟨fun b o e n hb hx => ?_, fun b o e n hb hx => ?_, I.base.free, fun b o e hx => ?_, I.base.tups, I.base.frzs, I.base.tbls⟩, ⟨_, hn', fun j y v' e1 e2 e3 => ?_⟩, fun y c e => ?_, I.free, I.freeC, fun p hp => ?_, tracked ⟨oL, hoL, I.free⟩ hs, by simpa using I.len⟩ ⟨_, hs, .inl rfl⟩
    · exact (hs.2 b (Nat.ne_of_lt (Nat.lt_of_lt_of_le (Heap.lt_size e) I.ok.above))).trans (I.base.keep b o e n hb hx)
    · obtain ⟨sl, e1⟩ := I.base.slot b o e n hb hx
      exact ⟨sl, (hs.2 b (Nat.ne_of_lt (Nat.lt_of_lt_of_le (Heap.lt_size e) I.ok.above))).trans e1⟩
    · obtain ⟨o', e1⟩ := I.base.there b o e hx
      exact ⟨o', (hs.2 b (Nat.ne_of_lt (Nat.lt_of_lt_of_le (Heap.lt_size e) I.ok.above))).trans e1⟩
    · by_cases hj : j = i
      · subst hj
        rw [hi] at e1; cases e1
        rw [List.getElem?_set_self hiσ] at e2
        cases e2
        exact ⟨u, r, .inl ⟨hk, by simp⟩⟩
      · rw [List.getElem?_set_ne (Ne.symm hj)] at e2
        obtain ⟨u', r', q⟩ := hl j y v' e1 e2 e3
        refine ⟨u', r', ?_⟩
        rcases q with ⟨k, e⟩ | ⟨k, c, e, z⟩
        · refine .inl ⟨k, ?_⟩
          have : y ≠ x := fun e => hj (nodup_ix hN e1 (e ▸ hi))
          simp [this, e]
        · exact .inr ⟨k, c, e, z.sameBut hs (cne y c e)⟩
    · obtain ⟨w', z⟩ := I.cell y c e
      exact ⟨w', z.sameBut hs (cne y c e)⟩
    · obtain ⟨e, n, ne, nf, d⟩ := I.pin p hp
      exact ⟨(hs.2 p.1 ne).trans e, n, ne, nf, d⟩
  · have hfn : X.fn x = true := by
      rcases hf with z | z
      · exact z
      · rw [z] at hk; cases hk
    obtain ⟨c, hc⟩ := I.ok.has x (.inl hk)
    obtain ⟨w', z⟩ := I.cell x c hc
    refine wpAny_storeName_cell I.ok.kind hk hc z (fun h' hc' hs => ?_)
    obtain ⟨oc, hoc, hocd⟩ := id z
    refine h { s with heap := h' } ⟨I.ok, I.os, I.bare, ⟨fun b o e n hb hx => ?_, fun b o e n hb hx => ?_, I.base.free, fun b o e hx => ?_, I.base.tups, I.base.frzs, I.base.tbls⟩, ⟨m, hn.sameBut hs (Ne.symm (cne x c hc)), fun j y v' e1 e2 e3 => ?_⟩, fun y c' e => ?_, I.free, I.freeC, fun p hp => ?_, tracked ⟨oc, hoc, I.freeC x c hc⟩ hs, by simpa using I.len⟩ ⟨c, hs, .inr hc⟩
    · exact (hs.2 b (Nat.ne_of_lt (Nat.lt_of_lt_of_le (Heap.lt_size e) (I.ok.cab x c hfn hc)))).trans (I.base.keep b o e n hb hx)
    · obtain ⟨sl, e1⟩ := I.base.slot b o e n hb hx
      exact ⟨sl, (hs.2 b (Nat.ne_of_lt (Nat.lt_of_lt_of_le (Heap.lt_size e) (I.ok.cab x c hfn hc)))).trans e1⟩
    · obtain ⟨o', e1⟩ := I.base.there b o e hx
      exact ⟨o', (hs.2 b (Nat.ne_of_lt (Nat.lt_of_lt_of_le (Heap.lt_size e) (I.ok.cab x c hfn hc)))).trans e1⟩
    · by_cases hj : j = i
      · subst hj
        rw [hi] at e1; cases e1
        rw [List.getElem?_set_self hiσ] at e2
        cases e2
        exact ⟨u, r, .inr ⟨.inl hk, c, hc, hc'⟩⟩
      · rw [List.getElem?_set_ne (Ne.symm hj)] at e2
        obtain ⟨u', r', q⟩ := hl j y v' e1 e2 e3
        refine ⟨u', r', ?_⟩
        rcases q with q | ⟨k, c', e, z'⟩
        · exact .inl q
        · refine .inr ⟨k, c', e, z'.sameBut hs ?_⟩
          rintro rfl
          exact hj (nodup_ix hN e1 (I.ok.inj _ _ _ e hc ▸ hi))
    · by_cases hcc : c' = c
      · subst hcc; exact ⟨_, hc'⟩
      · obtain ⟨w2, z2⟩ := I.cell y c' e
        exact ⟨w2, z2.sameBut hs hcc⟩
    · obtain ⟨e, n, ne, nf, d⟩ := I.pin p hp
      refine ⟨(hs.2 p.1 ?_).trans e, n, ne, nf, d⟩
      intro q
      rw [q, hoc] at e
      have q' : oc = p.2 := Option.some.inj e
      exact d w' (by rw [← q']; exact hocd)
theorem store_ok {M : Model} {A : Around} {E : Value → Shared → Prop} {i : Nat} {x : Str} {v : V} {u : Value} {Q : Unit → Shared → Prop} (I : Inv X pins σ H s) (hN : X.N.Nodup) (hi : X.N[i]? = some x) (hx : Loc X.env.scope x) (r : RelV v u)
    (h : ∀ s', Inv X pins (σ.set i (some v)) H s' → Q () s') (hf : X.fn x = true ∨ X.env.scope.names.lookup x = some .local := by first | exact .inl rfl | exact .inr rfl | assumption) : wpAny M A (storeName X.env x u) Q E s :=
  store_ok2 I hN hi hx r (fun s' I' _ => h s' I') hf
theorem Inv.call' {s' : Shared} {ch : List Addr} (I : Inv X pins σ H s) (ho : s'.os = s.os) (u : Un (frs X.stack) ch H H' s.heap s'.heap) (hok : HOk X.prog X.w H' s'.heap) (hg : AllBare s'.gens)
    (hch : ∀ b ∈ ch, (b ∈ X.ex ∨ X.s₀.heap.objs.size ≤ b) ∧ b ≠ X.env.locals ∧ (∀ x c, X.env.cells.lookup x = some c → c ≠ b) ∧ ∀ p ∈ X.pn ++ pins, p.1 ≠ b) : Inv X pins σ H' s' := by
  obtain ⟨h', g', d', t', o'⟩ := s'
  have e : o' = s.os := ho
  subst e
  exact I.call (g' := g') (t' := t') (d' := d') u hok hg hch
end
abbrev XK := Value → Option Addr → Hp → Prop
abbrev St := List (Option V)
abbrev VK := V → Hp → Prop
abbrev TE := St → Hp → VK → Prop
abbrev TT := St → Hp → (Bool → Hp → Prop) → Prop
abbrev TA := St → Hp → (List V → Hp → Prop) → Prop
structure Ends where
  nx : St → Hp → Prop
  rt : VK
  bk : St → Hp → Prop := fun _ _ => False
  ct : St → Hp → Prop := fun _ _ => False
abbrev TS := Ends → St → Hp → Prop
def EP (X : Cx) (pins : List (Addr × Obj)) (σ : St) (Q : VK) (u : Value) (s' : Shared) : Prop := ∃ v H', Inv X pins σ H' s' ∧ RelV v u ∧ Q v H'
def TP (X : Cx) (pins : List (Addr × Obj)) (σ : St) (Q : Bool → Hp → Prop) (b : Bool) (s' : Shared) : Prop := ∃ H', Inv X pins σ H' s' ∧ Q b H'
def AP (X : Cx) (pins : List (Addr × Obj)) (σ : St) (Q : List V → Hp → Prop) (us : List Value) (s' : Shared) : Prop := ∃ vs H', Inv X pins σ H' s' ∧ Vals vs us ∧ Q vs H'
def SP (X : Cx) (pins : List (Addr × Obj)) (D : Ends) (f : Flow) (s' : Shared) : Prop :=
  match f with
  | .next => ∃ σ' H', Inv X pins σ' H' s' ∧ D.nx σ' H'
  | .brk => ∃ σ' H', Inv X pins σ' H' s' ∧ D.bk σ' H'
  | .cont => ∃ σ' H', Inv X pins σ' H' s' ∧ D.ct σ' H'
  | .ret u => ∃ v σ' H', Inv X pins σ' H' s' ∧ RelV v u ∧ D.rt v H'
def PE (X : Cx) (e : Expr) (t : TE) : Prop :=
  ∀ (pins : List (Addr × Obj)) (s : Shared) (σ : St) (H : Hp) (Q : VK), Inv X pins σ H s → t σ H Q → wpAny (model X.prog X.w) X.A (eval e X.env) (EP X pins σ Q) X.xe s
def PT (X : Cx) (e : Expr) (t : TT) : Prop :=
  ∀ (pins : List (Addr × Obj)) (s : Shared) (σ : St) (H : Hp) (Q : Bool → Hp → Prop), Inv X pins σ H s → t σ H Q → wpAny (model X.prog X.w) X.A (isTrue e X.env (eval e X.env)) (TP X pins σ Q) X.xe s
def PW (X : Cx) (e : Expr) (t : TT) : Prop :=
  ∀ (whole : Sem Value) (pins : List (Addr × Obj)) (s : Shared) (σ : St) (H : Hp) (Q : Bool → Hp → Prop), Inv X pins σ H s → t σ H Q → wpAny (model X.prog X.w) X.A (isTrue e X.env whole) (TP X pins σ Q) X.xe s
theorem PW.pt {X : Cx} {e : Expr} {t : TT} (h : PW X e t) : PT X e t := h _
def PA (X : Cx) (es : List Expr) (t : TA) : Prop :=
  ∀ (pos : Pos) (pins : List (Addr × Obj)) (s : Shared) (σ : St) (H : Hp) (Q : List V → Hp → Prop), Inv X pins σ H s → t σ H Q → wpAny (model X.prog X.w) X.A (spliced (backTo pos (starEach es X.env))) (AP X pins σ Q) X.xe s
def PS (X : Cx) (st : Stmt) (t : TS) : Prop :=
  ∀ (pins : List (Addr × Obj)) (s : Shared) (σ : St) (H : Hp) (D : Ends), Inv X pins σ H s → t D σ H → wpAny (model X.prog X.w) X.A (exec st X.env) (SP X pins D) X.xe s
def PSs (X : Cx) (st : List Stmt) (t : TS) : Prop :=
  ∀ (pins : List (Addr × Obj)) (s : Shared) (σ : St) (H : Hp) (D : Ends), Inv X pins σ H s → t D σ H → wpAny (model X.prog X.w) X.A (execs st X.env) (SP X pins D) X.xe s
theorem thn {α : Type} {t : Sem α} {Q Q' : α → Shared → Prop} {M : Model} {A : Around} {E : Value → Shared → Prop} {s : Shared} (h : wpAny M A t Q E s) (hQ : ∀ a s, Q a s → Q' a s) : wpAny M A t Q' E s := wpAny_mono h hQ fun _ _ x => x
end L2
namespace L2
open PySem PySem.Spec PyProof.Rows
section
variable {X : Cx}
def tVar (i : Nat) : TE := fun σ H Q => ∃ v, σ[i]? = some (some v) ∧ Q v H
def tC (v : V) : TE := fun _ H Q => Q v H
theorem pe_var {i : Nat} {x : Str} {pos : Pos} (hN : X.N[i]? = some x) (hv : Vis X.env.scope x) (hd : (x == ("__debug__" : Str)) = false := by decide) (hcd : (x == ("__classdict__" : Str)) = false := by decide) : PE X (.Name x pos) (tVar i) := by
  intro pins s σ H Q I h
  obtain ⟨v, e, h⟩ := h
  obtain ⟨m, hn, hl⟩ := I.loc
  obtain ⟨u, r, l⟩ := hl i x v hN e hv
  have fin : EP X pins σ Q u s := ⟨v, H, I, r, h⟩
  rcases l with ⟨hk, hm⟩ | ⟨hk, c, hc, hcell⟩
  · exact wpAny_Name (wpAny_loadName_local I.ok.kind hk hn hm fin) hd
  · rcases hk with hk | hk
    · exact wpAny_Name (wpAny_loadName_cell I.ok.kind hk hc hcell fin) hd
    · exact wpAny_Name (wpAny_loadName_free I.ok.kind hk hc hcell fin hcd) hd
theorem pe_int {i j pos} : PE X (.Constant (.int i) j pos) (tC (.int i)) := fun _ _ _ H _ I h => wpAny_Constant_int ⟨.int i, H, I.tok _, ⟨_, rfl⟩, h⟩
theorem pe_bl {b j pos} : PE X (.Constant (.bool b) j pos) (tC (.bl b)) := fun _ _ _ H _ I h => Constant_bool ⟨.bl b, H, I, rfl, h⟩
theorem pe_non {j pos} : PE X (.Constant .none j pos) (tC .non) := fun _ _ _ H _ I h => Constant_none ⟨.non, H, I, rfl, h⟩
theorem pe_str {x j pos} : PE X (.Constant (.str x) j pos) (tC (.str x)) := fun _ _ _ H _ I h => Calls.Constant_str ⟨.str x, H, I.tok _, ⟨_, rfl⟩, h⟩
def Gl (X : Cx) (x : Str) : Prop := X.env.kindOf x = some .globalImplicit
theorem ld_glob {E : Value → Shared → Prop} {pins : List (Addr × Obj)} {s : Shared} {σ : St} {H : Hp} {x : Str} {u : Value} {pos : Pos} {Q : Value → Shared → Prop} (I : Inv X pins σ H s) (hg : Gl X x) (hm : X.mg x = some u) (h : Q u s)
    (hd : (x == ("__debug__" : Str)) = false := by decide) : wpAny (model X.prog X.w) X.A (eval (.Name x pos) X.env) Q E s :=
  Calls.Name_function_global I.ok.kind hg (Calls.loadGlobal_global (by rw [I.ok.glob]; exact I.mod.glob.keeps I.bk) hm h) hd
theorem ld_blt {E : Value → Shared → Prop} {pins : List (Addr × Obj)} {s : Shared} {σ : St} {H : Hp} {x : Str} {u : Value} {pos : Pos} {Q : Value → Shared → Prop} (I : Inv X pins σ H s) (hg : Gl X x) (hm : X.mg x = none) (hv : bootBuiltins x = some u) (h : Q u s)
    (hn : x ≠ "__name__" := by decide) (hd : (x == ("__debug__" : Str)) = false := by decide) : wpAny (model X.prog X.w) X.A (eval (.Name x pos) X.env) Q E s := by
  obtain ⟨mb, h1, h2⟩ := I.mod.blt
  exact Calls.Name_function_global I.ok.kind hg (Calls.loadGlobal_builtin (by rw [I.ok.glob]; exact I.mod.glob.keeps I.bk) hm (by rw [I.ok.blt]; exact h1.keeps I.bk) ((h2 x hn).trans hv) h) hd
theorem pe_glob {x : Str} {v : V} {u : Value} {pos : Pos} (hg : Gl X x) (hm : X.mg x = some u) (r : RelV v u) (hd : (x == ("__debug__" : Str)) = false := by decide) : PE X (.Name x pos) (tC v) :=
  fun _ _ _ H _ I h => ld_glob I hg hm ⟨v, H, I, r, h⟩ hd
theorem pe_bltn {x : Str} {v : V} {u : Value} {pos : Pos} (hg : Gl X x) (hm : X.mg x = none) (hv : bootBuiltins x = some u) (r : RelV v u) (hn : x ≠ "__name__" := by decide) (hd : (x == ("__debug__" : Str)) = false := by decide) : PE X (.Name x pos) (tC v) :=
  fun _ _ _ H _ I h => ld_blt I hg hm hv ⟨v, H, I, r, h⟩ hn hd
variable {a b : Expr} {ta tb : TE} {pos : Pos}
variable {tA tB' : TT} {rest : List Expr}
def tAnd (t u : TT) : TT := fun σ H Q => t σ H fun c H1 => if c = true then u σ H1 Q else Q false H1
def tOr (t u : TT) : TT := fun σ H Q => t σ H fun c H1 => if c = true then Q true H1 else u σ H1 Q
def tNot (t : TT) : TT := fun σ H Q => t σ H fun c H1 => Q (!c) H1
theorem pw_and1 (ha : PT X a tA) : PW X (.BoolOp .And [a] pos) tA := by
  intro wh pins s σ H Q I h
  refine isTrue_and (thn (ha pins s σ H Q I h) fun c s1 e => ?_)
  cases c with
  | true => exact isTrue_and_nil e
  | false => exact e
theorem pw_or1 (ha : PT X a tA) : PW X (.BoolOp .Or [a] pos) tA := by
  intro wh pins s σ H Q I h
  refine isTrue_or (thn (ha pins s σ H Q I h) fun c s1 e => ?_)
  cases c with
  | false => exact isTrue_or_nil e
  | true => exact e
theorem pw_and (ha : PT X a tA) (hb : PW X (.BoolOp .And (b :: rest) pos) tB') : PW X (.BoolOp .And (a :: b :: rest) pos) (tAnd tA tB') := by
  intro wh pins s σ H Q I h
  refine isTrue_and (thn (ha pins s σ H _ I h) fun c s1 ⟨H1, I1, q1⟩ => ?_)
  cases c with
  | true => exact hb wh pins s1 σ H1 Q I1 q1
  | false => exact ⟨H1, I1, q1⟩
theorem pw_or (ha : PT X a tA) (hb : PW X (.BoolOp .Or (b :: rest) pos) tB') : PW X (.BoolOp .Or (a :: b :: rest) pos) (tOr tA tB') := by
  intro wh pins s σ H Q I h
  refine isTrue_or (thn (ha pins s σ H _ I h) fun c s1 ⟨H1, I1, q1⟩ => ?_)
  cases c with
  | true => exact ⟨H1, I1, q1⟩
  | false => exact hb wh pins s1 σ H1 Q I1 q1
theorem pt_not (ha : PT X a tA) : PT X (.UnaryOp .Not a pos) (tNot tA) := by
  intro pins s σ H Q I h
  exact isTrue_not (ha pins s σ H (fun c H1 => Q (!c) H1) I h)
def tAndV (ta tb : TE) : TE := fun σ H Q => ta σ H fun x H1 => ∃ c, x = .bl c ∧ if c = true then tb σ H1 Q else Q (.bl false) H1
def tNotV (ta : TE) : TE := fun σ H Q => ta σ H fun x H1 => ∃ c, x = .bl c ∧ Q (.bl (!c)) H1
theorem pe_one {op} {t : TE} (h : PE X a t) : PE X (.BoolOp op [a] pos) t := fun pins s σ H Q I hw => BoolOp_one (h pins s σ H Q I hw)
theorem pe_and (ha : PE X a ta) (hb : PE X (.BoolOp .And (b :: rest) pos) tb) : PE X (.BoolOp .And (a :: b :: rest) pos) (tAndV ta tb) := by
  intro pins s σ H Q I h
  refine BoolOp_and (thn (ha pins s σ H _ I h) fun v s1 ⟨x, H1, I1, r1, q1⟩ => ?_)
  obtain ⟨c, rfl, q1⟩ := q1
  cases r1
  refine wpAny_truthy_bool ?_
  cases c with
  | true => exact hb pins s1 σ H1 Q I1 q1
  | false => exact ⟨.bl false, H1, I1, rfl, q1⟩
theorem pe_not (ha : PE X a ta) : PE X (.UnaryOp .Not a pos) (tNotV ta) := by
  intro pins s σ H Q I h
  refine UnaryOp_ (thn (ha pins s σ H _ I h) fun v s1 ⟨x, H1, I1, r1, q1⟩ => ?_)
  obtain ⟨c, rfl, q1⟩ := q1
  cases r1
  exact not_of (wpAny_truthy_bool ⟨.bl (!c), H1, I1, rfl, q1⟩)
def tIf (t : TT) (ta tb : TE) : TE := fun σ H Q => t σ H fun c H1 => if c = true then ta σ H1 Q else tb σ H1 Q
theorem pe_ifExp {c : Expr} (hc : PT X c tA) (ha : PE X a ta) (hb : PE X b tb) : PE X (.IfExp c a b pos) (tIf tA ta tb) := by
  intro pins s σ H Q I h
  refine wpAny_IfExp (thn (hc pins s σ H _ I h) fun d s1 ⟨H1, I1, q1⟩ => ?_)
  cases d with
  | true => exact ha pins s1 σ H1 Q I1 q1
  | false => exact hb pins s1 σ H1 Q I1 q1
end
end L2
namespace L2
open PySem PySem.Spec PyProof.Rows
def SqL (K : PySem.W.Frag) (H : Hp) (a : Addr) (xs : List V) : Prop :=
  Rd H a (.lst xs) ∨
    ∃ (o : Obj) (its : Array Value) (n : Nat), K.lookup a = some o ∧ o.cls = .type "list" ∧ o.dict = none ∧ o.data = .seq its n ∧ its.size ≤ sizeLine ∧ Vals xs its.toList
def SqT (K : PySem.W.Frag) (H : Hp) (a : Addr) (xs : List V) : Prop :=
  Rd H a (.tup xs) ∨
    ∃ (o : Obj) (its : Array Value) (n : Nat), K.lookup a = some o ∧ o.cls = .type "tuple" ∧ o.data = .seq its n ∧ its.size ≤ sizeLine ∧ Vals xs its.toList
def absV : Value → Option V
  | .none => some .non
  | .bool b => some (.bl b)
  | .int i _ => some (.int i)
  | .str x _ => some (.str x)
  | .bytes b _ => some (.byt b)
  | .float b _ => some (.flt b)
  | .ref a => some (.ref a)
  | .type n => some (.ty n)
  | _ => none
theorem RelV.abs {x : V} {u : Value} (r : RelV x u) : absV u = some x := by
  cases x with
  | non => cases r; rfl
  | bl _ => cases r; rfl
  | int _ => obtain ⟨t, rfl⟩ := r; rfl
  | str _ => obtain ⟨t, rfl⟩ := r; rfl
  | byt _ => obtain ⟨t, rfl⟩ := r; rfl
  | flt _ => obtain ⟨t, rfl⟩ := r; rfl
  | ref _ => cases r; rfl
  | ty _ => cases r; rfl
theorem RelV.inj {x y : V} {u : Value} (r : RelV x u) (q : RelV y u) : x = y := Option.some.inj (r.abs.symm.trans q.abs)
theorem Vals.inj : ∀ {xs ys : List V} {us : List Value}, Vals xs us → Vals ys us → xs = ys
  | _, _, _, .nil, .nil => rfl
  | _, _, _, .cons r t, .cons r' t' => by rw [r.inj r', Vals.inj t t']
section
variable {X : Cx} {pins : List (Addr × Obj)} {σ : St} {H : Hp} {s : Shared} {a : Addr} {xs ys : List V}
theorem SqL.of {K : PySem.W.Frag} (h : H a = some (.lst xs)) : SqL K H a xs := .inl (.inl h)
theorem SqT.of {K : PySem.W.Frag} (h : H a = some (.tup xs)) : SqT K H a xs := .inl (.inl h)
theorem Inv.list (I : Inv X pins σ H s) (h : SqL X.K H a xs) : ∃ its : List Value, Vals xs its ∧ PlainL s.heap a its.toArray ∧ xs.length ≤ sizeLine := by
  rcases h with h | ⟨o, its, n, hk, hc, hd, hs, hz, r⟩
  · obtain ⟨z, its, n, r, e⟩ := h.ok I.hok
    exact ⟨its, r, ⟨_, n, e, rfl, rfl, rfl⟩, z⟩
  · refine ⟨its.toList, r, ⟨o, n, I.kIn a o hk, hc, hd, by simpa using hs⟩, ?_⟩
    have e := r.length
    simp only [Array.length_toList] at e
    omega
theorem Inv.tuple (I : Inv X pins σ H s) (h : SqT X.K H a xs) : ∃ its : List Value, Vals xs its ∧ IsTup s.heap a its.toArray ∧ xs.length ≤ sizeLine := by
  rcases h with h | ⟨o, its, n, hk, hc, hs, hz, r⟩
  · obtain ⟨z, its, r, p⟩ := h.ok I.hok
    exact ⟨its, r, p, z⟩
  · refine ⟨its.toList, r, ⟨o, I.kIn a o hk, hc, n, by simpa using hs⟩, ?_⟩
    have e := r.length
    simp only [Array.length_toList] at e
    omega
theorem Inv.list_inj (I : Inv X pins σ H s) (h : SqL X.K H a xs) (h' : SqL X.K H a ys) : xs = ys := by
  obtain ⟨its, r, ⟨o, n, e, _, _, d⟩, _⟩ := I.list h
  obtain ⟨its', r', ⟨o', n', e', _, _, d'⟩, _⟩ := I.list h'
  rw [e] at e'; cases e'
  rw [d] at d'
  injection d' with d1 _
  have : its = its' := by simpa using congrArg Array.toList d1
  subst this
  exact r.inj r'
theorem Inv.tuple_inj (I : Inv X pins σ H s) (h : SqT X.K H a xs) (h' : SqT X.K H a ys) : xs = ys := by
  obtain ⟨its, r, ⟨o, e, _, n, d⟩, _⟩ := I.tuple h
  obtain ⟨its', r', ⟨o', e', _, n', d'⟩, _⟩ := I.tuple h'
  rw [e] at e'; cases e'
  rw [d] at d'
  injection d' with d1 _
  have : its = its' := by simpa using congrArg Array.toList d1
  subst this
  exact r.inj r'
end
abbrev Cx.wish (X : Cx) (E : Value → Shared → Prop) : Cx := { X with xe := E }
abbrev Cx.nox (X : Cx) : Cx := X.wish fun _ _ => False
theorem Cx.Ok.wish {X : Cx} (ok : X.Ok) (E : Value → Shared → Prop) : (X.wish E).Ok :=
  ⟨ok.mod, ok.kind, ok.glob, ok.blt, ok.above, ok.inj, ok.has, ok.cab, ok.hd, ok.frames, ok.stk, ok.exf, ok.bs, ok.bsz, ok.noex, ok.exfs, ok.funs, ok.frf⟩
theorem Cx.Ok.unwish {X : Cx} {E : Value → Shared → Prop} (ok : (X.wish E).Ok) : X.Ok :=
  ⟨ok.mod, ok.kind, ok.glob, ok.blt, ok.above, ok.inj, ok.has, ok.cab, ok.hd, ok.frames, ok.stk, ok.exf, ok.bs, ok.bsz, ok.noex, ok.exfs, ok.funs, ok.frf⟩
section
variable {X : Cx} {pins : List (Addr × Obj)} {σ : St} {H : Hp} {s : Shared} {E : Value → Shared → Prop}
theorem Inv.wish (I : Inv X pins σ H s) (E : Value → Shared → Prop) : Inv (X.wish E) pins σ H s := ⟨I.ok.wish E, I.os, I.bare, I.base, I.loc, I.cell, I.free, I.freeC, I.pin, I.hok, I.len⟩
theorem Inv.unwish (I : Inv (X.wish E) pins σ H s) : Inv X pins σ H s := ⟨I.ok.unwish, I.os, I.bare, I.base, I.loc, I.cell, I.free, I.freeC, I.pin, I.hok, I.len⟩
theorem SP.unwish {D : Ends} {f : Flow} {s' : Shared} (h : SP (X.wish E) pins D f s') : SP X pins D f s' := by
  cases f with
  | next => obtain ⟨σ', H', I, q⟩ := h; exact ⟨σ', H', I.unwish, q⟩
  | brk => obtain ⟨σ', H', I, q⟩ := h; exact ⟨σ', H', I.unwish, q⟩
  | cont => obtain ⟨σ', H', I, q⟩ := h; exact ⟨σ', H', I.unwish, q⟩
  | ret u => obtain ⟨v, σ', H', I, r, q⟩ := h; exact ⟨v, σ', H', I.unwish, r, q⟩
theorem PSs.nox {st : List Stmt} {t : TS} (h : PSs X.nox st t) : PSs X st t := fun pins s σ H D I hw =>
  wpAny_mono (h pins s σ H D (I.wish _) hw) (fun _ _ q => q.unwish) fun _ _ z => False.elim z
end
section
variable {X : Cx} {st : Stmt} {rest : List Stmt} {t u : TS} {e : Expr} {te : TE} {pos : Pos}
def tNext : TS := fun D σ H => D.nx σ H
def tSeq (t u : TS) : TS := fun D σ H => t { D with nx := u D } σ H
theorem pss_nil : PSs X [] tNext := fun _ _ σ H _ I h => wpAny_execs_nil ⟨σ, H, I, h⟩
theorem pss_cons (h1 : PS X st t) (h2 : PSs X rest u) : PSs X (st :: rest) (tSeq t u) := by
  intro pins s σ H D I h
  refine wpAny_execs_cons (thn (h1 pins s σ H { D with nx := u D } I h) fun f s1 q => ?_)
  cases f with
  | next =>
    obtain ⟨σ', H', I', q⟩ := q
    exact h2 pins s1 σ' H' D I' q
  | ret v => exact q
  | brk => exact q
  | cont => exact q
theorem pss_one (h1 : PS X st t) : PSs X [st] t := by
  intro pins s σ H D I h
  refine wpAny_execs_cons (thn (h1 pins s σ H D I h) fun f s1 q => ?_)
  cases f with
  | next => exact wpAny_execs_nil q
  | ret v => exact q
  | brk => exact q
  | cont => exact q
theorem Inv.quiet {pins : List (Addr × Obj)} {σ : St} {H : Hp} {s : Shared} (I : Inv X pins σ H s) : interactive X.env = false := by simp [interactive, I.ok.kind]
def tDrop (te : TE) : TS := fun D σ H => te σ H fun _ H1 => D.nx σ H1
theorem ps_expr (he : PE X e te) (hs : swapsWith e none pos.line X.env = pure false := by rfl) : PS X (.Expr e pos) (tDrop te) := by
  intro pins s σ H D I h
  exact wpAny_Expr_any (thn (he pins s σ H _ I h) fun v s1 ⟨x, H1, I1, r1, q1⟩ => ⟨σ, H1, I1, q1⟩) I.quiet hs
def tRet (te : TE) : TS := fun D σ H => te σ H D.rt
theorem ps_ret (he : PE X e te) : PS X (.Return (some e) pos) (tRet te) := by
  intro pins s σ H D I h
  exact wpAny_Return_some (thn (he pins s σ H _ I h) fun v s1 ⟨x, H1, I1, r1, q1⟩ => ⟨x, σ, H1, I1, r1, q1⟩)
def tIfS (c : TT) (t u : TS) : TS := fun D σ H => c σ H fun b H1 => if b = true then t D σ H1 else u D σ H1
theorem ps_if {c : Expr} {a b : List Stmt} {tc : TT} (hc : PT X c tc) (ha : PSs X a t) (hb : PSs X b u) : PS X (.If c a b pos) (tIfS tc t u) := by
  intro pins s σ H D I h
  refine wpAny_If (thn (hc pins s σ H _ I h) fun d s1 ⟨H1, I1, q1⟩ => ?_)
  cases d with
  | true => exact ha pins s1 σ H1 D I1 q1
  | false => exact hb pins s1 σ H1 D I1 q1
end
abbrev TG := V → St → Hp → (St → Hp → Prop) → Prop
abbrev TGs := List V → St → Hp → (St → Hp → Prop) → Prop
def PG (X : Cx) (target : Expr) (t : TG) : Prop :=
  ∀ (pins : List (Addr × Obj)) (s : Shared) (σ : St) (H : Hp) (v : V) (u : Value) (Q : St → Hp → Prop), Inv X pins σ H s → RelV v u → t v σ H Q →
    wpAny (model X.prog X.w) X.A (assign target X.env u) (fun _ s' => ∃ σ' H', Inv X pins σ' H' s' ∧ Q σ' H') X.xe s
def PGs (X : Cx) (ts : List Expr) (t : TGs) : Prop :=
  ∀ (pins : List (Addr × Obj)) (s : Shared) (σ : St) (H : Hp) (vs : List V) (us : List Value) (Q : St → Hp → Prop), Inv X pins σ H s → Vals vs us → t vs σ H Q →
    wpAny (model X.prog X.w) X.A (assignInOrder ((assignEach ts X.env).map (·.2)) us) (fun _ s' => ∃ σ' H', Inv X pins σ' H' s' ∧ Q σ' H') X.xe s
abbrev TSet := V → V → V → Hp → (Hp → Prop) → Prop
def PSet (X : Cx) (t : TSet) : Prop :=
  ∀ (pins : List (Addr × Obj)) (s : Shared) (σ : St) (H : Hp) (o i v : V) (ov iv u : Value) (Q : Hp → Prop), Inv X pins σ H s → RelV o ov → RelV i iv → RelV v u → t o i v H Q →
    wpAny (model X.prog X.w) X.A (setItem ov iv u) (fun _ s' => ∃ H', Inv X pins σ H' s' ∧ Q H') X.xe s
section
variable {X : Cx} {pos : Pos}
def gName (i : Nat) : TG := fun v σ H Q => Q (σ.set i (some v)) H
theorem pg_name {i : Nat} {x : Str} (hN : X.N.Nodup) (hi : X.N[i]? = some x) (hx : Loc X.env.scope x) (hf : X.fn x = true ∨ X.env.scope.names.lookup x = some .local := by first | exact .inl rfl | exact .inr rfl | assumption) : PG X (.Name x pos) (gName i) := by
  intro pins s σ H v u Q I r h
  exact wpAny_assign_Name (store_ok I hN hi hx r (fun s' I' => ⟨_, H, I', h⟩) hf)
def gNil : TGs := fun vs σ H Q => vs = [] ∧ Q σ H
def gCons (t : TG) (u : TGs) : TGs := fun vs σ H Q => ∃ v r, vs = v :: r ∧ t v σ H fun σ' H' => u r σ' H' Q
theorem pgs_nil : PGs X [] gNil := by
  intro pins s σ H vs us Q I r h
  obtain ⟨e, h⟩ := h
  subst e
  cases r
  exact assignInOrder_nil ⟨σ, H, I, h⟩
theorem pgs_cons {e : Expr} {es : List Expr} {t : TG} {u : TGs} (h1 : PG X e t) (h2 : PGs X es u)
    (hs : (assignEach (e :: es) X.env).map (·.2) = assign e X.env :: (assignEach es X.env).map (·.2) := by rfl) : PGs X (e :: es) (gCons t u) := by
  intro pins s σ H vs us Q I r h
  obtain ⟨v, vr, e1, h⟩ := h
  subst e1
  cases r with
  | cons r rr =>
    rw [hs]
    refine assignInOrder_cons (thn (h1 pins s σ H _ _ _ I r h) fun _ s1 ⟨σ1, H1, I1, q1⟩ => ?_)
    exact h2 pins s1 σ1 H1 _ _ Q I1 rr q1
def gTup (K : PySem.W.Frag) (n : Nat) (t : TGs) : TG := fun v σ H Q => ∃ a xs, v = .ref a ∧ SqT K H a xs ∧ xs.length = n ∧ t xs σ H Q
theorem pg_tup {es : List Expr} {k : Nat} {t : TGs} {n : Nat} (hc : X.calm = true) (h : PGs X es t)
    (hn : (assignEach es X.env).length = n := by rfl) (hst : (assignEach es X.env).findIdx? (·.1) = none := by rfl) : PG X (.Tuple es k pos) (gTup X.K n t) := by
  intro pins s σ H v u Q I r hw
  obtain ⟨a, xs, e1, hq, hl, hw⟩ := hw
  subst e1
  cases r
  obtain ⟨its, rv, ht, hz⟩ := I.tuple hq
  refine assign_Tuple_tuple (I.ok.hd hc) ht (by simp [hn, ← hl, rv.length]) hst fun h' hx => ?_
  have I1 : Inv X pins σ H { s with heap := h' } := I.kept (t' := s.toks) fun b o e => hx b o (Nat.ne_of_lt (Heap.lt_size e)) e
  exact h pins _ σ H xs _ Q I1 (by simpa using rv) hw
def gSub (to ti : TE) (t : TSet) : TG := fun v σ H Q => to σ H fun o H1 => ti σ H1 fun i H2 => t o i v H2 fun H3 => Q σ H3
theorem pg_sub {o i : Expr} {to ti : TE} {t : TSet} (ho : PE X o to) (hi : PE X i ti) (hs : PSet X t)
    (ha : ∀ v, assign (.Subscript o i pos) X.env v = (do
      let ov ← holding [v] (eval o X.env)
      let iv ← holding [v, ov] (eval i X.env)
      standAt pos
      holding [v, ov, iv] (setItem ov iv v)
      release [v, ov, iv] []) := by intro _; rfl) : PG X (.Subscript o i pos) (gSub to ti t) := by
  intro pins s σ H v u Q I r h
  rw [ha]
  refine wpAny_bind (wpAny_holding (thn (ho pins s σ H _ I h) fun ov s1 ⟨x, H1, I1, r1, q1⟩ => ?_))
  refine wpAny_bind (wpAny_holding (thn (hi pins s1 σ H1 _ I1 q1) fun iv s2 ⟨y, H2, I2, r2, q2⟩ => ?_))
  refine wpAny_bind (wpAny_standAt (wpAny_bind (wpAny_holding (thn (hs pins s2 σ H2 x y v ov iv u _ I2 r1 r2 r q2) fun _ s3 ⟨H3, I3, q3⟩ => ?_))))
  exact wpAny_release ⟨σ, H3, I3, q3⟩
def tAsg (te : TE) (g : TG) : TS := fun D σ H => te σ H fun x H1 => g x σ H1 D.nx
theorem ps_asg {tg e : Expr} {te : TE} {g : TG} (he : PE X e te) (hg : PG X tg g) (hs : swapsWithSole [tg] e pos.line X.env = pure false := by rfl) (hw : swappedStores [tg] e X.env = pure none := by rfl)
    (h1 : (assignEach [tg] X.env).map (·.2) = [assign tg X.env] := by rfl) : PS X (.Assign [tg] e pos) (tAsg te g) := by
  intro pins s σ H D I h
  refine wpAny_Assign_stores (thn (he pins s σ H _ I h) fun v s1 ⟨x, H1, I1, r1, q1⟩ => ?_) hs hw
  rw [h1]
  exact thn (hg pins s1 σ H1 x v _ I1 r1 q1) fun _ s2 q => q
theorem ps_set {i : Nat} {x : Str} {e : Expr} {te : TE} {pos' : Pos} (hN : X.N.Nodup) (hi : X.N[i]? = some x) (hx : Loc X.env.scope x) (he : PE X e te) (hs : swapsWith e (some (.Name x pos')) pos.line X.env = pure false := by rfl) (hf : X.fn x = true ∨ X.env.scope.names.lookup x = some .local := by first | exact .inl rfl | exact .inr rfl | assumption) :
    PS X (.Assign [.Name x pos'] e pos) (tAsg te (gName i)) := by
  intro pins s σ H D I h
  refine wpAny_Assign_Name (thn (he pins s σ H _ I h) fun v s1 ⟨y, H1, I1, r1, q1⟩ => ?_) hs
  exact store_ok I1 hN hi hx r1 (fun s2 I2 => ⟨_, H1, I2, q1⟩) hf
end
section
variable {X : Cx} {pos : Pos}
def tWhile (c : TT) (tb : TS) : TS := fun D σ H => ∃ W : Nat → St → Hp → Prop, (∃ m, W m σ H) ∧ ∀ m σ H, W m σ H →
  c σ H fun b H1 => if b = true then ∃ N : St → Hp → Prop, (∀ σ' H', N σ' H' → ∃ m', m' < m ∧ W m' σ' H') ∧ tb { D with nx := N, ct := N, bk := D.nx } σ H1 else D.nx σ H1
theorem ps_while {c : Expr} {body : List Stmt} {tc : TT} {tb : TS} (hp : PassesOwn (model X.prog X.w) X.A X.env X.xe) (hc : PT X c tc) (hb : PSs X body tb) : PS X (.While c body [] pos) (tWhile tc tb) := by
  intro pins s σ H D I h
  obtain ⟨W, ⟨m0, w0⟩, turn⟩ := h
  refine wpAny_While (codeAny_whileLoop (fun n s' => ∃ σ' H', Inv X pins σ' H' s' ∧ W n σ' H') ?_ m0 ⟨σ, H, I, w0⟩)
  rintro n s1 ⟨σ1, H1, I1, w1⟩
  refine wpAny_passesOwn hp (thn (hc pins s1 σ1 H1 _ I1 (turn n σ1 H1 w1)) fun b s2 ⟨H2, I2, q2⟩ => ?_)
  cases b with
  | true =>
    obtain ⟨N, hN, q2⟩ := q2
    rw [if_pos rfl]
    refine wpAny_passesOwn hp (thn (hb pins s2 σ1 H2 _ I2 q2) fun f s3 q3 => ?_)
    cases f with
    | next =>
      obtain ⟨σ3, H3, I3, n3⟩ := q3
      obtain ⟨m', hm, w3⟩ := hN σ3 H3 n3
      exact ⟨m', hm, σ3, H3, I3, w3⟩
    | cont =>
      obtain ⟨σ3, H3, I3, n3⟩ := q3
      obtain ⟨m', hm, w3⟩ := hN σ3 H3 n3
      exact ⟨m', hm, σ3, H3, I3, w3⟩
    | brk => exact q3
    | ret v => exact q3
  | false =>
    rw [if_neg Bool.false_ne_true]
    exact wpAny_execs_nil ⟨σ1, H2, I2, q2⟩
end
structure It where
  go : Nat → Hp → Prop
  yld : Nat → Hp → V → Hp → Prop
  stop : Nat → Hp → Prop
def FpOk (X : Cx) (pins : List (Addr × Obj)) (H : Hp) (b : Addr) : Prop :=
  H b = none ∧ b ≠ X.env.locals ∧ b ∉ X.fs ∧ (b ∈ X.ex ∨ X.s₀.heap.objs.size ≤ b) ∧ (∀ x c, X.env.cells.lookup x = some c → c ≠ b) ∧ ∀ p ∈ X.pn ++ pins, p.1 ≠ b
theorem Inv.fpOk {X : Cx} {pins : List (Addr × Obj)} {σ : St} {H H' : Hp} {s : Shared} {b : Addr} (I : Inv X pins σ H s) (hb : s.heap.objs.size ≤ b) (hn : H' b = none) : FpOk X pins H' b := by
  refine ⟨hn, Nat.ne_of_gt (Nat.lt_of_lt_of_le I.lt hb), I.nofs hb, .inr (Nat.le_trans I.sz hb), fun x c e z => ?_, fun p hp z => ?_⟩
  · obtain ⟨v, q⟩ := I.cell x c e
    exact absurd (Nat.lt_of_lt_of_le q.lt (by rw [z]; exact hb)) (Nat.lt_irrefl _)
  · exact absurd (Nat.lt_of_lt_of_le (Heap.lt_size (I.pin p hp).1) (by rw [z]; exact hb)) (Nat.lt_irrefl _)
structure Turn (P : Program) (w : World) (K : PySem.W.Frag) (tg : Expr) (J : It) (fp : List Addr) (it : Addr) (tn : Nat → Heap → Prop) : Prop where
  mem : it ∈ fp
  obj : ∀ i h, tn i h → ∀ b ∈ fp, ∃ o, h.get? b = some o ∧ ∀ v, o.data ≠ .cell v
  keep : ∀ i h h', tn i h → (∀ b ∈ fp, ∀ o, h.get? b = some o → h'.get? b = some o) → tn i h'
  item : ∀ (X : Cx), X.prog = P → X.w = w → X.K = K → X.calm = true → ∀ (i : Nat) (pins : List (Addr × Obj)) (s : Shared) (σ : St) (H : Hp) (E : Value → Shared → Prop), Inv X pins σ H s → (∀ b ∈ fp, FpOk X pins H b) → tn i s.heap → J.go i H →
    wpAny (model P w) X.A (pyNext (.ref it)) (fun r s1 => ∃ u, r = some u ∧
      wpAny (model P w) X.A (letOwnedTupleGo tg (.ref it) u) (fun _ s2 => ∃ x H', Inv X pins σ H' s2 ∧ RelV x u ∧ J.yld i H x H' ∧ tn (i + 1) s2.heap ∧ ∀ b ∈ fp, H' b = none) E s1) E s
  done : ∀ (X : Cx), X.prog = P → X.w = w → X.K = K → X.calm = true → ∀ (i : Nat) (pins : List (Addr × Obj)) (s : Shared) (σ : St) (H : Hp) (E : Value → Shared → Prop), Inv X pins σ H s → (∀ b ∈ fp, FpOk X pins H b) → tn i s.heap → J.stop i H →
    wpAny (model P w) X.A (pyNext (.ref it)) (fun r s1 => r = none ∧ Inv X pins σ H s1) E s
  self : ∀ (A : Around) (i : Nat) (s : Shared) (Q : Value → Shared → Prop) (E : Value → Shared → Prop), tn i s.heap → Q (.ref it) s → wpAny (model P w) A (pyIter (.ref it)) Q E s
abbrev TI := St → Hp → (It → Hp → Prop) → Prop
def PIE (X : Cx) (pins : List (Addr × Obj)) (σ : St) (tg : Expr) (R : It → Hp → Prop) (itv : Value) (s2 : Shared) : Prop :=
  ∃ (it : Addr) (fp : List Addr) (tn : Nat → Heap → Prop) (J : It) (H' : Hp), itv = .ref it ∧ Inv X pins σ H' s2 ∧ Turn X.prog X.w X.K tg J fp it tn ∧ tn 0 s2.heap ∧ (∀ b ∈ fp, FpOk X pins H' b) ∧ R J H'
def PI (X : Cx) (tg iter : Expr) (wi : TI) : Prop :=
  ∀ (pins : List (Addr × Obj)) (s : Shared) (σ : St) (H : Hp) (R : It → Hp → Prop), Inv X pins σ H s → wi σ H R →
    wpAny (model X.prog X.w) X.A (eval iter X.env) (fun v s1 => wpAny (model X.prog X.w) X.A (pyIter v) (PIE X pins σ tg R) X.xe s1) X.xe s
theorem go_of {M : Model} {A : Around} {E : Value → Shared → Prop} {s : Shared} {tg : Expr} {it : Addr} {u : Value} {o : Obj} {n : String} {vs : Array Value} {Q : Unit → Shared → Prop} (ho : s.heap.get? it = some o) (hc : o.cls = .type n) (hd : o.data = .fields vs)
    (hn : ["enumerate", "zip", "dict_itemiterator", "dict_reverseitemiterator", "odict_iterator", "itertools.zip_longest", "itertools.pairwise"].contains n = false) (hQ : Q () s) : wpAny M A (letOwnedTupleGo tg (.ref it) u) Q E s := by
  unfold letOwnedTupleGo
  cases tg <;> first
    | exact wpAny_pure hQ
    | (cases u <;> first
        | exact wpAny_pure hQ
        | (refine wpAny_bind (wpAny_load ho ?_)
           rw [hc, hd]
           show wpAny M A (if (["enumerate", "zip", "dict_itemiterator", "dict_reverseitemiterator", "odict_iterator", "itertools.zip_longest", "itertools.pairwise"].contains n && vs[0]? == some (rawInt _)) = true then _ else _) Q E s
           rw [if_neg (by intro h; rw [hn, Bool.false_and] at h; cases h)]
           exact wpAny_pure hQ))
def Itl (K : PySem.W.Frag) (a : Addr) : It :=
  ⟨fun i H => ∃ xs x, SqL K H a xs ∧ xs[i]? = some x, fun i H x H' => H' = H ∧ ∀ xs, SqL K H a xs → xs[i]? = some x, fun i H => ∃ xs, SqL K H a xs ∧ xs.length ≤ i⟩
def Itr (lo : Int) (n : Nat) : It := ⟨fun i _ => i < n, fun i H x H' => H' = H ∧ x = .int (lo + i), fun i _ => n ≤ i⟩
theorem turn_list {P : Program} {w : World} {K : PySem.W.Frag} {tg : Expr} (a it : Addr) : Turn P w K tg (Itl K a) [it] it (fun i h => h.IsListIter it a i) where
  mem := by simp
  obj := fun i h st b hb => by
    have e : b = it := by simpa using hb
    subst e
    obtain ⟨o, e, c, d⟩ := st
    exact ⟨o, e, fun v z => by rw [d] at z; cases z⟩
  keep := fun i h h' st k => st.at fun o e => k it (by simp) o e
  item := by
    intro X hP hw hK hc i pins s σ H E I hf st hg
    subst hP hw hK
    obtain ⟨xs, x, hq, hx⟩ := hg
    obtain ⟨its, rv, p, hz⟩ := I.list hq
    obtain ⟨u, hu, ru⟩ := rv.get hx
    obtain ⟨f0, f1, f2, f3, f4, f5⟩ := hf it (by simp)
    refine wpAny_pyNext_list_item st p.isList (x := u) (by simpa using hu) fun h' st' sb => ?_
    have I1 : Inv X pins σ H { s with heap := h' } := I.turned (t' := s.toks) (fun b o hb e => (sb.2 b hb).trans e) f0 f1 f3 f4 f5
    obtain ⟨o, e, c, d⟩ := id st'
    exact ⟨u, rfl, go_of (s := { s with heap := h' }) e c d (by decide) ⟨x, H, I1, ru, ⟨rfl, fun ys hy => by rw [I.list_inj hy hq]; exact hx⟩, st', fun b hb => (hf b hb).1⟩⟩
  done := by
    intro X hP hw hK hc i pins s σ H E I hf st hg
    subst hP hw hK
    obtain ⟨xs, hq, hx⟩ := hg
    obtain ⟨its, rv, p, hz⟩ := I.list hq
    obtain ⟨f0, f1, f2, f3, f4, f5⟩ := hf it (by simp)
    have hl := rv.length
    exact wpAny_pyNext_list_end (I.ok.hd hc) st p.isList (by simp; omega) fun h' eb => ⟨rfl, I.turned (t' := s.toks) (fun b o hb e => eb b o hb e) f0 f1 f3 f4 f5⟩
  self := fun _ _ _ _ _ st h => wpAny_pyIter_listiter st h
theorem turn_range {P : Program} {w : World} {K : PySem.W.Frag} {tg : Expr} (it : Addr) (lo : Int) (n : Nat) : Turn P w K tg (Itr lo n) [it] it (fun i h => IsRangeIter h it (lo + (i : Nat) * 1) ((n : Int) - (i : Nat)) 1) where
  mem := by simp
  obj := fun i h st b hb => by
    have e : b = it := by simpa using hb
    subst e
    exact ⟨_, st, fun v z => by
      have z' : Data.fields _ = Data.cell v := z
      cases z'⟩
  keep := fun i h h' st k => k it (by simp) _ st
  item := by
    intro X hP hw hK hc i pins s σ H E I hf st hg
    subst hP hw hK
    obtain ⟨f0, f1, f2, f3, f4, f5⟩ := hf it (by simp)
    have W := Walks.range (prog := X.prog) (w := X.w) (I.ok.hd hc) it lo 1 n
    refine W.item i s _ _ hg st fun v h' tk hv st' kk => ?_
    obtain ⟨t, rfl⟩ := hv
    have I1 : Inv X pins σ H { s with heap := h', toks := tk } := I.turned (fun b o hb e => kk b o (by simpa using hb) e) f0 f1 f3 f4 f5
    refine ⟨_, rfl, go_of (s := { s with heap := h', toks := tk }) (n := "range_iterator") st' rfl rfl (by decide) ⟨.int (lo + i), H, I1, ⟨t, ?_⟩, ⟨rfl, rfl⟩, st', fun b hb => (hf b hb).1⟩⟩
    rw [Int.mul_one]
  done := by
    intro X hP hw hK hc i pins s σ H E I hf st hg
    subst hP hw hK
    obtain ⟨f0, f1, f2, f3, f4, f5⟩ := hf it (by simp)
    exact wpAny_pyNext_range_end (I.ok.hd hc) st (by have : n ≤ i := hg; omega) fun h' eb => ⟨rfl, I.turned (t' := s.toks) (fun b o hb e => eb b o hb e) f0 f1 f3 f4 f5⟩
  self := fun _ _ _ _ _ st h => wpAny_pyIter_rangeiter st h
end L2
namespace L2
open PySem PySem.Spec PyProof.Rows
section
variable {X : Cx} {tg : Expr}
def iList (K : PySem.W.Frag) (tl : TE) : TI := fun σ H R => tl σ H fun x H1 => ∃ a, x = .ref a ∧ (∃ xs, SqL K H1 a xs) ∧ R (Itl K a) H1
theorem pi_list {l : Expr} {tl : TE} (hl : PE X l tl) : PI X tg l (iList X.K tl) := by
  intro pins s σ H R I h
  refine thn (hl pins s σ H _ I h) fun v s1 ⟨x, H1, I1, r1, q1⟩ => ?_
  obtain ⟨a, e, ⟨xs, hq⟩, q⟩ := q1
  subst e
  cases r1
  obtain ⟨its, rv, p, hz⟩ := I1.list hq
  refine wpAny_pyIter_list p.isList ?_
  refine ⟨s1.heap.objs.size, [s1.heap.objs.size], _, _, H1, rfl, I1.kept (t' := s1.toks) fun b o e => Heap.get?_push_of_some _ e, turn_list a _, ⟨_, Heap.get?_push_size _ rfl, rfl, rfl⟩, fun b hb => ?_, q⟩
  have e : b = s1.heap.objs.size := by simpa using hb
  subst e
  exact I1.fpOk (Nat.le_refl _) (I1.hok.fresh (Nat.le_refl _))
theorem range_it {pins : List (Addr × Obj)} {σ : St} {H : Hp} {s : Shared} {R : It → Hp → Prop} {E : Value → Shared → Prop} {lo hi : Int} {t u v : Tok} {tk : Nat} (I : Inv X pins σ H s) (h1 : -(2 ^ 62) ≤ lo) (h2 : lo < 2 ^ 62) (h3 : -(2 ^ 62) ≤ hi) (h4 : hi < 2 ^ 62)
    (q : R (Itr lo (hi - lo).toNat) H) : wpAny (model X.prog X.w) X.A (pyIter (.ref s.heap.objs.size)) (PIE X pins σ tg R) E { s with heap := s.heap.push { cls := .type "range", data := .fields #[.int lo t, .int hi u, .int 1 v] }, toks := tk } := by
  refine wpAny_pyIter_range (IsRange.new ..) (small_one h1 h2 h3 h4) ?_
  have I1 : Inv X pins σ H { s with heap := s.heap.push { cls := .type "range", data := .fields #[.int lo t, .int hi u, .int 1 v] }, toks := tk } := I.kept fun b o e => Heap.get?_push_of_some _ e
  refine ⟨(s.heap.push { cls := .type "range", data := .fields #[.int lo t, .int hi u, .int 1 v] }).objs.size, [(s.heap.push { cls := .type "range", data := .fields #[.int lo t, .int hi u, .int 1 v] }).objs.size], _, _, H, rfl,
    I1.kept (t' := tk) fun b o e => Heap.get?_push_of_some _ e, turn_range _ lo (hi - lo).toNat, ?_, fun b hb => ?_, q⟩
  · have e1 : lo + ((0 : Nat) : Int) * 1 = lo := by simp
    have e2 : (((hi - lo).toNat : Nat) : Int) - ((0 : Nat) : Int) = Builtin.Range.rangeSize lo hi 1 := by rw [rangeSize_one]; split <;> omega
    show IsRangeIter _ _ (lo + ((0 : Nat) : Int) * 1) ((((hi - lo).toNat : Nat) : Int) - ((0 : Nat) : Int)) 1
    rw [e1, e2]
    exact Heap.get?_push_size _ rfl
  · have e : b = (s.heap.push { cls := .type "range", data := .fields #[.int lo t, .int hi u, .int 1 v] }).objs.size := by simpa using hb
    subst e
    exact I1.fpOk (Nat.le_refl _) (I1.hok.fresh (Nat.le_refl _))
def iRng1 (ta : TA) : TI := fun σ H R => ta σ H fun vs H1 => ∃ j : Int, vs = [.int j] ∧ -(2 ^ 62) ≤ j ∧ j < 2 ^ 62 ∧ R (Itr 0 j.toNat) H1
theorem pi_range1 {a : Expr} {ta : TA} {p pos : Pos} (hg : Gl X "range") (hm : X.mg "range" = none) (ha : PA X [a] ta) (hs : starEach [a] X.env = [(false, eval a X.env)] := by rfl) : PI X tg (.Call (.Name "range" p) [a] [] pos) (iRng1 ta) := by
  intro pins s σ H R I h
  refine Call_ (ld_blt I hg hm boot_range (PyProof.Rows.callWith_type1 (thn (ha pos pins s σ H _ I h) fun us s1 ⟨vs, H1, I1, r1, q1⟩ => ?_) hs rfl))
  obtain ⟨j, e, q1, q2, q⟩ := q1
  subst e
  cases r1 with
  | cons r rr =>
    cases rr
    obtain ⟨t, rfl⟩ := r
    exact call_range_1 (range_it I1 (by omega) (by omega) q1 q2 (by simpa using q))
def tFor (wi : TI) (g : TG) (tb : TS) : TS := fun D σ H => wi σ H fun J H1 => ∃ W : Nat → Nat → St → Hp → Prop, (∃ m, W 0 m σ H1) ∧ ∀ i m σ H, W i m σ H →
  (J.stop i H ∧ D.nx σ H) ∨ (J.go i H ∧ ∃ N : St → Hp → Prop, (∀ σ' H', N σ' H' → ∃ m', m' < m ∧ W (i + 1) m' σ' H') ∧ ∀ x H', J.yld i H x H' → g x σ H' fun σ2 H2 => tb { D with nx := N, ct := N, bk := D.nx } σ2 H2)
def pinsAt (fp : List Addr) (h : Heap) : List (Addr × Obj) := fp.filterMap fun b => (h.get? b).map fun o => (b, o)
theorem mem_pinsAt {fp : List Addr} {h : Heap} {b : Addr} {o : Obj} (hb : b ∈ fp) (e : h.get? b = some o) : (b, o) ∈ pinsAt fp h := List.mem_filterMap.mpr ⟨b, hb, by rw [e]; rfl⟩
theorem of_pinsAt {fp : List Addr} {h : Heap} {p : Addr × Obj} (hp : p ∈ pinsAt fp h) : p.1 ∈ fp ∧ h.get? p.1 = some p.2 := by
  obtain ⟨b, hb, e⟩ := List.mem_filterMap.mp hp
  cases q : h.get? b with
  | none => rw [q] at e; cases e
  | some o =>
    rw [q] at e
    have e' : (b, o) = p := Option.some.inj e
    subst e'
    exact ⟨hb, q⟩
theorem Inv.pinned {pins : List (Addr × Obj)} {σ : St} {H : Hp} {s : Shared} {fp : List Addr} (I : Inv X pins σ H s) (hf : ∀ b ∈ fp, FpOk X pins H b) (ho : ∀ b ∈ fp, ∃ o, s.heap.get? b = some o ∧ ∀ v, o.data ≠ .cell v) : Inv X (pins ++ pinsAt fp s.heap) σ H s :=
  I.pins_of fun p hp => (List.mem_append.mp hp).elim (fun z => I.pin p (List.mem_append_right _ z)) fun z => by
    obtain ⟨hb, e⟩ := of_pinsAt z
    obtain ⟨f0, f1, f2, _⟩ := hf p.1 hb
    obtain ⟨o, e', d⟩ := ho p.1 hb
    rw [e] at e'; cases e'
    exact ⟨e, f0, f1, f2, d⟩
theorem Inv.unpinned {pins pl : List (Addr × Obj)} {σ : St} {H : Hp} {s : Shared} (I : Inv X (pins ++ pl) σ H s) : Inv X pins σ H s := I.pins_of fun p hp => I.pin p (List.mem_append_right _ (List.mem_append_left _ hp))
theorem ps_for {iter : Expr} {body : List Stmt} {wi : TI} {g : TG} {tb : TS} {pos : Pos} (hp : PassesOwn (model X.prog X.w) X.A X.env X.xe) (hc : X.calm = true) (hi : PI X tg iter wi) (hg : PG X tg g) (hb : PSs X body tb)
    (hs : ∀ x, foldedSetIterable iter X.env x = pure x := by intro _; rfl) : PS X (.For tg iter body [] pos) (tFor wi g tb) := by
  intro pins s σ H D I h
  refine wpAny_For (thn (hi pins s σ H _ I h) fun v s1 h1 => thn h1 fun itv s2 h2 => ?_) hs
  obtain ⟨it, fp, tn, J, H2, e, I2, T, st2, f2, W, ⟨m0, w0⟩, turn⟩ := h2
  subst e
  have stat : ∀ {H' : Hp}, (∀ b ∈ fp, H' b = none) → ∀ b ∈ fp, FpOk X pins H' b := fun hn b hb => ⟨hn b hb, (f2 b hb).2⟩
  refine codeAny_forLoop_any (fun n s' => ∃ i σ' H', Inv X pins σ' H' s' ∧ tn i s'.heap ∧ (∀ b ∈ fp, H' b = none) ∧ W i n σ' H') ?_ m0 ⟨0, σ, H2, I2, st2, fun b hb => (f2 b hb).1, w0⟩
  rintro n s3 ⟨i, σ3, H3, I3, st3, fr3, w3⟩
  rcases turn i n σ3 H3 w3 with ⟨stop, qn⟩ | ⟨go, N, hN, step⟩
  · refine wpAny_passesOwn hp (thn (T.done X rfl rfl rfl hc i pins s3 σ3 H3 X.xe I3 (stat fr3) st3 stop) fun r s4 ⟨hr, I4⟩ => ?_)
    subst hr
    exact wpAny_execs_nil ⟨σ3, H3, I4, qn⟩
  · refine wpAny_passesOwn hp (thn (T.item X rfl rfl rfl hc i pins s3 σ3 H3 X.xe I3 (stat fr3) st3 go) fun r s4 ⟨u, hr, h4⟩ => ?_)
    subst hr
    refine wpAny_passesOwn hp (thn h4 fun _ s5 ⟨x, H5, I5, r5, y5, st5, fr5⟩ => ?_)
    have I5' := I5.pinned (stat fr5) (T.obj _ _ st5)
    refine wpAny_passesOwn hp (thn (hg _ s5 σ3 H5 x u _ I5' r5 (step x H5 y5)) fun _ s6 ⟨σ6, H6, I6, q6⟩ => ?_)
    refine wpAny_passesOwn hp (thn (hb _ s6 σ6 H6 _ I6 q6) fun f s7 q7 => ?_)
    have again : ∀ {σ7 : St} {H7 : Hp}, Inv X (pins ++ pinsAt fp s5.heap) σ7 H7 s7 → N σ7 H7 → ∃ m, m < n ∧ ∃ i σ' H', Inv X pins σ' H' s7 ∧ tn i s7.heap ∧ (∀ b ∈ fp, H' b = none) ∧ W i m σ' H' := fun {σ7 H7} I7 n7 => by
      obtain ⟨m', hm, w7⟩ := hN σ7 H7 n7
      refine ⟨m', hm, i + 1, σ7, H7, I7.unpinned, T.keep _ _ _ st5 fun b hb o e => (I7.pin (b, o) (List.mem_append_right _ (List.mem_append_right _ (mem_pinsAt hb e)))).1, fun b hb => ?_, w7⟩
      obtain ⟨o, e, d⟩ := T.obj _ _ st5 b hb
      exact (I7.pin (b, o) (List.mem_append_right _ (List.mem_append_right _ (mem_pinsAt hb e)))).2.1
    cases f with
    | next => obtain ⟨σ7, H7, I7, n7⟩ := q7; exact again I7 n7
    | cont => obtain ⟨σ7, H7, I7, n7⟩ := q7; exact again I7 n7
    | brk => obtain ⟨σ7, H7, I7, q7⟩ := q7; exact ⟨σ7, H7, I7.unpinned, q7⟩
    | ret v => obtain ⟨x7, σ7, H7, I7, r7, q7⟩ := q7; exact ⟨x7, σ7, H7, I7.unpinned, r7, q7⟩
end
theorem for_list {K : PySem.W.Frag} {a : Addr} {xs : List V} {g : TG} {tb : TS} {D : Ends} {σ : St} {H : Hp} (Pv : Nat → St → Hp → Prop) (h0 : Pv 0 σ H) (hl : ∀ i σ H, i ≤ xs.length → Pv i σ H → SqL K H a xs)
    (hs : ∀ i x σ H, xs[i]? = some x → Pv i σ H → g x σ H fun σ2 H2 => tb { D with nx := Pv (i + 1), ct := Pv (i + 1), bk := D.nx } σ2 H2) (hd : ∀ σ H, Pv xs.length σ H → D.nx σ H) :
    ∃ W : Nat → Nat → St → Hp → Prop, (∃ m, W 0 m σ H) ∧ ∀ i m σ H, W i m σ H →
      ((Itl K a).stop i H ∧ D.nx σ H) ∨ ((Itl K a).go i H ∧ ∃ N : St → Hp → Prop, (∀ σ' H', N σ' H' → ∃ m', m' < m ∧ W (i + 1) m' σ' H') ∧ ∀ x H', (Itl K a).yld i H x H' → g x σ H' fun σ2 H2 => tb { D with nx := N, ct := N, bk := D.nx } σ2 H2) := by
  refine ⟨fun i m σ H => m = xs.length - i ∧ i ≤ xs.length ∧ Pv i σ H, ⟨xs.length, by simp, Nat.zero_le _, h0⟩, ?_⟩
  rintro i m σ H ⟨rfl, hi, p⟩
  have q := hl i σ H hi p
  by_cases hlt : i < xs.length
  · refine .inr ⟨⟨xs, xs[i], q, by simp [hlt]⟩, Pv (i + 1), fun σ' H' p' => ⟨xs.length - (i + 1), by omega, rfl, hlt, p'⟩, fun x H' y => ?_⟩
    obtain ⟨e, y⟩ := y
    subst e
    exact hs i x σ _ (y xs q) p
  · have e : i = xs.length := by omega
    subst e
    exact .inl ⟨⟨xs, q, Nat.le_refl _⟩, hd σ H p⟩
theorem for_range {lo : Int} {n : Nat} {g : TG} {tb : TS} {D : Ends} {σ : St} {H : Hp} (Pv : Nat → St → Hp → Prop) (h0 : Pv 0 σ H)
    (hs : ∀ i σ H, i < n → Pv i σ H → g (.int (lo + i)) σ H fun σ2 H2 => tb { D with nx := Pv (i + 1), ct := Pv (i + 1), bk := D.nx } σ2 H2) (hd : ∀ σ H, Pv n σ H → D.nx σ H) :
    ∃ W : Nat → Nat → St → Hp → Prop, (∃ m, W 0 m σ H) ∧ ∀ i m σ H, W i m σ H →
      ((Itr lo n).stop i H ∧ D.nx σ H) ∨ ((Itr lo n).go i H ∧ ∃ N : St → Hp → Prop, (∀ σ' H', N σ' H' → ∃ m', m' < m ∧ W (i + 1) m' σ' H') ∧ ∀ x H', (Itr lo n).yld i H x H' → g x σ H' fun σ2 H2 => tb { D with nx := N, ct := N, bk := D.nx } σ2 H2) := by
  refine ⟨fun i m σ H => m = n - i ∧ i ≤ n ∧ Pv i σ H, ⟨n, by simp, Nat.zero_le _, h0⟩, ?_⟩
  rintro i m σ H ⟨rfl, hi, p⟩
  by_cases hlt : i < n
  · refine .inr ⟨hlt, Pv (i + 1), fun σ' H' p' => ⟨n - (i + 1), by omega, rfl, hlt, p'⟩, fun x H' y => ?_⟩
    obtain ⟨e, y⟩ := y
    subst e y
    exact hs i σ _ hlt p
  · have e : i = n := by omega
    subst e
    exact .inl ⟨Nat.le_refl _, hd σ H p⟩
end L2
namespace L2
open PySem PySem.Spec PyProof.Rows
abbrev R2 := V → V → Hp → VK → Prop
def OpR (X : Cx) (f : Value → Value → Sem Value) (r : R2) : Prop :=
  ∀ (pins : List (Addr × Obj)) (s : Shared) (σ : St) (H : Hp) (x y : V) (v u : Value) (Q : VK), Inv X pins σ H s → RelV x v → RelV y u → r x y H Q →
    wpAny (model X.prog X.w) X.A (f v u) (EP X pins σ Q) X.xe s
def UnR (X : Cx) (f : Value → Sem Value) (r : V → Hp → VK → Prop) : Prop :=
  ∀ (pins : List (Addr × Obj)) (s : Shared) (σ : St) (H : Hp) (x : V) (v : Value) (Q : VK), Inv X pins σ H s → RelV x v → r x H Q →
    wpAny (model X.prog X.w) X.A (f v) (EP X pins σ Q) X.xe s
def CallR (X : Cx) (f : Value) (r : List V → Hp → VK → Prop) : Prop :=
  ∀ (pins : List (Addr × Obj)) (s : Shared) (σ : St) (H : Hp) (xs : List V) (us : List Value) (Q : VK), Inv X pins σ H s → Vals xs us → r xs H Q →
    wpAny (model X.prog X.w) X.A (call f us) (EP X pins σ Q) X.xe s
def TruR (X : Cx) (r : V → Hp → (Bool → Hp → Prop) → Prop) : Prop :=
  ∀ (pins : List (Addr × Obj)) (s : Shared) (σ : St) (H : Hp) (x : V) (v : Value) (Q : Bool → Hp → Prop), Inv X pins σ H s → RelV x v → r x H Q →
    wpAny (model X.prog X.w) X.A (truthy v) (TP X pins σ Q) X.xe s
def tOp (r : R2) (ta tb : TE) : TE := fun σ H Q => ta σ H fun x H1 => tb σ H1 fun y H2 => r x y H2 Q
def tUn (r : V → Hp → VK → Prop) (ta : TE) : TE := fun σ H Q => ta σ H fun x H1 => r x H1 Q
def rI (C : Int → Int → Prop) (g : Int → Int → V) : R2 := fun x y H Q => ∃ i j, x = .int i ∧ y = .int j ∧ C i j ∧ Q (g i j) H
def rI0 (g : Int → Int → V) : R2 := fun x y H Q => ∃ i j, x = .int i ∧ y = .int j ∧ Q (g i j) H
def rU (g : Int → V) : V → Hp → VK → Prop := fun x H Q => ∃ i, x = .int i ∧ Q (g i) H
section
variable {X : Cx} {a b c : Expr} {ta tb tc : TE} {pos : Pos}
theorem binT (ha : PE X a ta) (hb : PE X b tb) {pins : List (Addr × Obj)} {s : Shared} {σ : St} {H : Hp} {R : V → V → Hp → Prop} (I : Inv X pins σ H s)
    (h : ta σ H fun x H1 => tb σ H1 fun y H2 => R x y H2) {Q : Value → Shared → Prop} {f : Value → Value → Sem Value}
    (hf : ∀ v u s2 x y H2, Inv X pins σ H2 s2 → RelV x v → RelV y u → R x y H2 → wpAny (model X.prog X.w) X.A (f v u) Q X.xe s2) :
    wpAny (model X.prog X.w) X.A (eval a X.env) (fun v s₁ => wpAny (model X.prog X.w) X.A (eval b X.env) (fun u s₂ => wpAny (model X.prog X.w) X.A (f v u) Q X.xe s₂) X.xe s₁) X.xe s := by
  refine thn (ha pins s σ H _ I h) fun v s1 ⟨x, H1, I1, r1, q1⟩ => ?_
  refine thn (hb pins s1 σ H1 _ I1 q1) fun u s2 ⟨y, H2, I2, r2, q2⟩ => ?_
  exact hf v u s2 x y H2 I2 r1 r2 q2
theorem pe_op {op : Operator} {r : R2} (ho : OpR X (binaryOp op) r) (ha : PE X a ta) (hb : PE X b tb) : PE X (.BinOp a op b pos) (tOp r ta tb) := by
  intro pins s σ H Q I h
  exact wpAny_BinOp (binT ha hb I h fun v u s2 x y H2 I2 rx ry q => ho pins s2 σ H2 x y v u Q I2 rx ry q)
theorem pe_un {op : UnaryOp} {r : V → Hp → VK → Prop} (ho : UnR X (unaryOp op) r) (ha : PE X a ta) : PE X (.UnaryOp op a pos) (tUn r ta) := by
  intro pins s σ H Q I h
  exact UnaryOp_ (thn (ha pins s σ H _ I h) fun v s1 ⟨x, H1, I1, r1, q1⟩ => ho pins s1 σ H1 x v Q I1 r1 q1)
theorem opI {f : Value → Value → Sem Value} {C : Int → Int → Prop} {g : Int → Int → Int}
    (rule : ∀ (i j : Int) (t u : Tok) (s : Shared) (Q : Value → Shared → Prop) (E : Value → Shared → Prop), C i j → Q (.int (g i j) s.toks) { s with toks := s.toks + 1 } → wpAny (model X.prog X.w) X.A (f (.int i t) (.int j u)) Q E s) :
    OpR X f (rI C fun i j => .int (g i j)) := by
  intro pins s σ H x y v u Q I rx ry h
  obtain ⟨i, j, rfl, rfl, hc, q⟩ := h
  obtain ⟨t, rfl⟩ := rx
  obtain ⟨t', rfl⟩ := ry
  exact rule i j t t' s _ _ hc ⟨.int (g i j), H, I.tok _, ⟨_, rfl⟩, q⟩
theorem opI0 {f : Value → Value → Sem Value} {g : Int → Int → Int}
    (rule : ∀ (i j : Int) (t u : Tok) (s : Shared) (Q : Value → Shared → Prop) (E : Value → Shared → Prop), Q (.int (g i j) s.toks) { s with toks := s.toks + 1 } → wpAny (model X.prog X.w) X.A (f (.int i t) (.int j u)) Q E s) :
    OpR X f (rI0 fun i j => .int (g i j)) := by
  intro pins s σ H x y v u Q I rx ry h
  obtain ⟨i, j, rfl, rfl, q⟩ := h
  obtain ⟨t, rfl⟩ := rx
  obtain ⟨t', rfl⟩ := ry
  exact rule i j t t' s _ _ ⟨.int (g i j), H, I.tok _, ⟨_, rfl⟩, q⟩
theorem opB0 {f : Value → Value → Sem Value} {g : Int → Int → Bool}
    (rule : ∀ (i j : Int) (t u : Tok) (s : Shared) (Q : Value → Shared → Prop) (E : Value → Shared → Prop), Q (.bool (g i j)) s → wpAny (model X.prog X.w) X.A (f (.int i t) (.int j u)) Q E s) :
    OpR X f (rI0 fun i j => .bl (g i j)) := by
  intro pins s σ H x y v u Q I rx ry h
  obtain ⟨i, j, rfl, rfl, q⟩ := h
  obtain ⟨t, rfl⟩ := rx
  obtain ⟨t', rfl⟩ := ry
  exact rule i j t t' s _ _ ⟨.bl (g i j), H, I, rfl, q⟩
def CDiv (i j : Int) : Prop := 0 < j ∧ j < 1073741824
def CPow (i j : Int) : Prop := 0 ≤ j ∧ j ≤ 1000000 ∧ i.natAbs < 2 ^ 64
theorem op_add : OpR X (binaryOp .Add) (rI0 fun i j => .int (i + j)) := opI0 fun _ _ _ _ _ _ _ q => add_int q
theorem op_sub : OpR X (binaryOp .Sub) (rI0 fun i j => .int (i - j)) := opI0 fun _ _ _ _ _ _ _ q => sub_int q
theorem op_fdiv : OpR X (binaryOp .FloorDiv) (rI CDiv fun i j => .int (i / j)) := opI fun i j _ _ _ _ _ hc q => by
  have h1 : (0 : Int) < j := hc.1
  have h2 : j < 1073741824 := hc.2
  exact floordiv_int (by omega) (by rw [Int.fdiv_eq_ediv_of_nonneg i (by omega)]; exact q) (.inl (PyProof.noPylong_small (by omega)))
theorem op_mod : OpR X (binaryOp .Mod) (rI (fun _ j => 0 < j) fun i j => .int (i % j)) := opI fun i j _ _ _ _ _ hc q => by
  have h1 : (0 : Int) < j := hc
  exact mod_int' (by omega) (by rw [Int.fmod_eq_emod_of_nonneg i (by omega)]; exact q)
theorem op_pow : OpR X (binaryOp .Pow) (rI CPow fun i j => .int (i ^ j.toNat)) := opI fun _ _ _ _ _ _ _ hc q => pow_int_small hc.1 hc.2.1 hc.2.2 q
theorem unI {f : Value → Sem Value} {g : Int → Int}
    (rule : ∀ (i : Int) (t : Tok) (s : Shared) (Q : Value → Shared → Prop) (E : Value → Shared → Prop), Q (.int (g i) s.toks) { s with toks := s.toks + 1 } → wpAny (model X.prog X.w) X.A (f (.int i t)) Q E s) :
    UnR X f (rU fun i => .int (g i)) := by
  intro pins s σ H x v Q I rx h
  obtain ⟨i, rfl, q⟩ := h
  obtain ⟨t, rfl⟩ := rx
  exact rule i t s _ _ ⟨.int (g i), H, I.tok _, ⟨_, rfl⟩, q⟩
theorem un_neg : UnR X (unaryOp .USub) (rU fun i => .int (-i)) := unI fun _ _ _ _ _ q => neg_int q
end
def scal : V → V → Bool
  | .non, .non => true | .non, .int _ => true | .int _, .non => true | .non, .bl _ => true | .bl _, .non => true | .non, .str _ => true | .str _, .non => true
  | .int _, .int _ => true | .bl _, .bl _ => true | .str _, .str _ => true | .byt _, .byt _ => true
  | .int _, .str _ => true | .str _, .int _ => true | .bl _, .str _ => true | .str _, .bl _ => true
  | _, _ => false
def rEq : R2 := fun x y H Q => scal x y = true ∧ Q (.bl (decide (x = y))) H
def rNe : R2 := fun x y H Q => scal x y = true ∧ Q (.bl (!decide (x = y))) H
theorem dec_int {i j : Int} : decide (V.int i = V.int j) = (i == j) := by
  rw [Bool.eq_iff_iff]
  simp
theorem dec_bl {i j : Bool} : decide (V.bl i = V.bl j) = (i == j) := by
  rw [Bool.eq_iff_iff]
  simp
theorem dec_str {i j : Str} : decide (V.str i = V.str j) = (i == j) := by
  rw [Bool.eq_iff_iff]
  simp
theorem dec_byt {i j : Array UInt8} : decide (V.byt i = V.byt j) = (i.toList == j.toList) := by
  rw [Bool.eq_iff_iff]
  cases i
  cases j
  simp
section
variable {X : Cx} {a b c : Expr} {ta tb tc : TE} {pos : Pos}
theorem fin_bl {pins : List (Addr × Obj)} {σ : St} {H : Hp} {s : Shared} {Q : VK} {k k' : Bool} (I : Inv X pins σ H s) (q : Q (.bl k) H) (e : k = k') : EP X pins σ Q (.bool k') s := by
  subst e
  exact ⟨.bl k, H, I, rfl, q⟩
theorem op_eq : OpR X (compareOp .Eq) rEq := by
  intro pins s σ H x y v u Q I rx ry h
  obtain ⟨hs, q⟩ := h
  cases x with
  | non =>
    cases rx
    cases y with
    | non => cases ry; exact PySem.EqNone.eq_none_none (fin_bl I q (by simp))
    | bl j => cases ry; exact PySem.EqNone.eq_none_bool (fin_bl I q (by simp))
    | int j => obtain ⟨t', rfl⟩ := ry; exact PySem.EqNone.eq_none_int (fin_bl I q (by simp))
    | str j => obtain ⟨t', rfl⟩ := ry; exact PySem.EqNone.eq_none_str (fin_bl I q (by simp))
    | _ => exact absurd (show false = true from hs) Bool.false_ne_true
  | bl i =>
    cases rx
    cases y with
    | non => cases ry; exact PySem.EqNone.eq_bool_none (fin_bl I q (by simp))
    | bl j => cases ry; exact eq_bool (fin_bl I q dec_bl)
    | str j => obtain ⟨t', rfl⟩ := ry; exact PySem.EqMixed.eq_bool_str (fin_bl I q (by simp))
    | _ => exact absurd (show false = true from hs) Bool.false_ne_true
  | int i =>
    obtain ⟨t, rfl⟩ := rx
    cases y with
    | non => cases ry; exact PySem.EqNone.eq_int_none (fin_bl I q (by simp))
    | int j => obtain ⟨t', rfl⟩ := ry; exact eq_int (fin_bl I q dec_int)
    | str j => obtain ⟨t', rfl⟩ := ry; exact PySem.EqMixed.eq_int_str (fin_bl I q (by simp))
    | _ => exact absurd (show false = true from hs) Bool.false_ne_true
  | str i =>
    obtain ⟨t, rfl⟩ := rx
    cases y with
    | non => cases ry; exact PySem.EqNone.eq_str_none (fin_bl I q (by simp))
    | bl j => cases ry; exact PySem.EqMixed.eq_str_bool (fin_bl I q (by simp))
    | int j => obtain ⟨t', rfl⟩ := ry; exact PySem.EqMixed.eq_str_int (fin_bl I q (by simp))
    | str j => obtain ⟨t', rfl⟩ := ry; exact eq_str (fin_bl I q dec_str)
    | _ => exact absurd (show false = true from hs) Bool.false_ne_true
  | byt i =>
    obtain ⟨t, rfl⟩ := rx
    cases y with
    | byt j => obtain ⟨t', rfl⟩ := ry; exact PySem.W.eq_bytes (fin_bl I q dec_byt)
    | _ => exact absurd (show false = true from hs) Bool.false_ne_true
  | _ => cases y <;> exact absurd (show false = true from hs) Bool.false_ne_true
theorem op_ne : OpR X (compareOp .NotEq) rNe := by
  intro pins s σ H x y v u Q I rx ry h
  obtain ⟨hs, q⟩ := h
  cases x with
  | non =>
    cases rx
    cases y with
    | non => cases ry; exact PySem.EqNone.ne_none_none (fin_bl I q (by simp))
    | bl j => cases ry; exact PySem.EqNone.ne_none_bool (fin_bl I q (by simp))
    | int j => obtain ⟨t', rfl⟩ := ry; exact PySem.EqNone.ne_none_int (fin_bl I q (by simp))
    | str j => obtain ⟨t', rfl⟩ := ry; exact PySem.EqNone.ne_none_str (fin_bl I q (by simp))
    | _ => exact absurd (show false = true from hs) Bool.false_ne_true
  | bl i =>
    cases rx
    cases y with
    | non => cases ry; exact PySem.EqNone.ne_bool_none (fin_bl I q (by simp))
    | bl j => cases ry; exact ne_bool (fin_bl I q (congrArg not dec_bl))
    | str j => obtain ⟨t', rfl⟩ := ry; exact PySem.EqMixed.ne_bool_str (fin_bl I q (by simp))
    | _ => exact absurd (show false = true from hs) Bool.false_ne_true
  | int i =>
    obtain ⟨t, rfl⟩ := rx
    cases y with
    | non => cases ry; exact PySem.EqNone.ne_int_none (fin_bl I q (by simp))
    | int j => obtain ⟨t', rfl⟩ := ry; exact ne_int (fin_bl I q (congrArg not dec_int))
    | str j => obtain ⟨t', rfl⟩ := ry; exact PySem.EqMixed.ne_int_str (fin_bl I q (by simp))
    | _ => exact absurd (show false = true from hs) Bool.false_ne_true
  | str i =>
    obtain ⟨t, rfl⟩ := rx
    cases y with
    | non => cases ry; exact PySem.EqNone.ne_str_none (fin_bl I q (by simp))
    | bl j => cases ry; exact PySem.EqMixed.ne_str_bool (fin_bl I q (by simp))
    | int j => obtain ⟨t', rfl⟩ := ry; exact PySem.EqMixed.ne_str_int (fin_bl I q (by simp))
    | str j => obtain ⟨t', rfl⟩ := ry; exact ne_str (fin_bl I q (congrArg not dec_str))
    | _ => exact absurd (show false = true from hs) Bool.false_ne_true
  | byt i =>
    obtain ⟨t, rfl⟩ := rx
    cases y with
    | byt j => obtain ⟨t', rfl⟩ := ry; exact PySem.W.ne_bytes (fin_bl I q (congrArg not dec_byt))
    | _ => exact absurd (show false = true from hs) Bool.false_ne_true
  | _ => cases y <;> exact absurd (show false = true from hs) Bool.false_ne_true
theorem op_lt : OpR X (compareOp .Lt) (rI0 fun i j => .bl (decide (i < j))) := opB0 fun _ _ _ _ _ _ _ q => lt_int q
theorem op_gt : OpR X (compareOp .Gt) (rI0 fun i j => .bl (decide (j < i))) := opB0 fun _ _ _ _ _ _ _ q => gt_int q
theorem op_ge : OpR X (compareOp .GtE) (rI0 fun i j => .bl (decide (j ≤ i))) := opB0 fun _ _ _ _ _ _ _ q => ge_int q
theorem op_in_str : OpR X (compareOp .In) (fun x y H Q => ∃ i j, x = .str i ∧ y = .str j ∧ Q (.bl (!(Builtin.Str.occurrences j i 0 j.length 1).isEmpty)) H) := by
  intro pins s σ H x y v u Q I rx ry h
  obtain ⟨i, j, rfl, rfl, q⟩ := h
  obtain ⟨t, rfl⟩ := rx
  obtain ⟨t', rfl⟩ := ry
  exact in_str (fin_bl I q rfl)
theorem op_isN : OpR X (compareOp .Is) (fun x y H Q => y = .non ∧ Q (.bl (decide (x = .non))) H) := by
  intro pins s σ H x y v u Q I rx ry h
  obtain ⟨rfl, q⟩ := h
  cases ry
  refine is_none_gen (fin_bl I q ?_)
  cases x <;> first
    | (cases rx; rfl)
    | (obtain ⟨t, rfl⟩ := rx; rfl)
theorem op_notN : OpR X (compareOp .IsNot) (fun x y H Q => y = .non ∧ Q (.bl (!decide (x = .non))) H) := by
  intro pins s σ H x y v u Q I rx ry h
  obtain ⟨rfl, q⟩ := h
  cases ry
  refine isnot_none_gen (fin_bl I q ?_)
  cases x <;> first
    | (cases rx; rfl)
    | (obtain ⟨t, rfl⟩ := rx; rfl)
theorem OpR.or {f : Value → Value → Sem Value} {r r' : R2} (h : OpR X f r) (h' : OpR X f r') : OpR X f (fun x y H Q => r x y H Q ∨ r' x y H Q) := by
  intro pins s σ H x y v u Q I rx ry q
  rcases q with q | q
  · exact h pins s σ H x y v u Q I rx ry q
  · exact h' pins s σ H x y v u Q I rx ry q
theorem pe_cmpR {op : CmpOp} {r : R2} (ho : OpR X (compareOp op) r) (ha : PE X a ta) (hb : PE X b tb) (hm : behindInMarks op b = false) : PE X (.Compare a [op] [b] pos) (tOp r ta tb) := by
  intro pins s σ H Q I h
  exact wpAny_Compare1 (binT ha hb I h fun v u s2 x y H2 I2 rx ry q => ho pins s2 σ H2 x y v u Q I2 rx ry q) hm
def tTest (t : TE) : TT := fun σ H Q => t σ H fun x H' => ∃ k, x = .bl k ∧ Q k H'
theorem pt_cmpR {op : CmpOp} {r : R2} (ho : OpR X (compareOp op) r) (ha : PE X a ta) (hb : PE X b tb) (hm : behindInMarks op b = false) : PT X (.Compare a [op] [b] pos) (tTest (tOp r ta tb)) := by
  intro pins s σ H Q I h
  refine wpAny_isTrue_Compare1 (thn (ha pins s σ H _ I h) fun v s1 ⟨x, H1, I1, r1, q1⟩ => thn (hb pins s1 σ H1 _ I1 q1) fun u s2 ⟨y, H2, I2, r2, q2⟩ =>
    thn (ho pins s2 σ H2 x y v u _ I2 r1 r2 q2) fun c s3 ⟨z, H3, I3, r3, k, e, q3⟩ => ?_) hm
  subst e
  cases r3
  exact wpAny_truthy_bool ⟨H3, I3, q3⟩
def TruV (K : PySem.W.Frag) (x : V) (H : Hp) (k : Bool) : Prop :=
  match x with
  | .non => k = false
  | .bl b => k = b
  | .int i => k = (i != 0)
  | .str y => y.length ≤ sizeLine ∧ k = ((y.length : Int) != 0)
  | .byt y => y.size ≤ sizeLine ∧ k = ((y.size : Int) != 0)
  | .ref p => (∃ xs, SqL K H p xs ∧ k = !xs.isEmpty) ∨ (∃ xs, SqT K H p xs ∧ k = !xs.isEmpty) ∨ ∃ kvs, H p = some (.dK kvs) ∧ k = !kvs.isEmpty
  | _ => False
theorem isEmpty_kv {κ : Type} {kvs : List (κ × V)} {vs : List (κ × Value)} (r : KV kvs vs) : (!vs.isEmpty) = !kvs.isEmpty := by
  cases r <;> rfl
theorem isEmpty_of {xs : List V} {its : List Value} (r : Vals xs its) : (!its.toArray.isEmpty) = !xs.isEmpty := by
  cases r <;> simp
theorem line63 : (sizeLine : Nat) < 2 ^ 63 := by rw [sizeLine_eq]; decide
theorem tru_ok : TruR X (fun x H Q => ∃ k, TruV X.K x H k ∧ Q k H) := by
  intro pins s σ H x v Q I rx h
  obtain ⟨k, e, q⟩ := h
  have hl := line63
  have hs : sizeLine = 16777216 := sizeLine_eq
  cases x with
  | non =>
    cases rx
    have e' : k = false := e
    subst e'
    exact truthy_none ⟨H, I, q⟩
  | bl b =>
    cases rx
    have e' : k = b := e
    subst e'
    exact wpAny_truthy_bool ⟨H, I, q⟩
  | int i =>
    obtain ⟨t, rfl⟩ := rx
    have e' : k = (i != 0) := e
    subst e'
    exact PySem.P.truthy_int ⟨H, I, q⟩
  | str y =>
    obtain ⟨t, rfl⟩ := rx
    obtain ⟨hy, e'⟩ : y.length ≤ sizeLine ∧ k = ((y.length : Int) != 0) := e
    subst e'
    exact PySem.P.truthy_str (by omega) ⟨H, I.tok _, q⟩
  | byt y =>
    obtain ⟨t, rfl⟩ := rx
    obtain ⟨hy, e'⟩ : y.size ≤ sizeLine ∧ k = ((y.size : Int) != 0) := e
    subst e'
    exact PySem.W.truthy_bytes (by omega) ⟨H, I.tok _, q⟩
  | ref p =>
    cases rx
    have e' : (∃ xs, SqL X.K H p xs ∧ k = !xs.isEmpty) ∨ (∃ xs, SqT X.K H p xs ∧ k = !xs.isEmpty) ∨ ∃ kvs, H p = some (.dK kvs) ∧ k = !kvs.isEmpty := e
    rcases e' with ⟨xs, hx, e'⟩ | ⟨xs, hx, e'⟩ | ⟨kvs, hx, e'⟩
    · subst e'
      obtain ⟨its, r, pl, hz⟩ := I.list hx
      have hlen := r.length
      exact wpAny_truthy_list pl.isList (by simp only [List.size_toArray]; omega) ⟨H, I.tok _, by rw [isEmpty_of r]; exact q⟩
    · subst e'
      obtain ⟨its, r, pl, hz⟩ := I.tuple hx
      have hlen := r.length
      exact truthy_tuple pl (by simp only [List.size_toArray]; omega) ⟨H, I.tok _, by rw [isEmpty_of r]; exact q⟩
    · subst e'
      obtain ⟨hz, hS, vs, r, m⟩ : kvs.length ≤ sizeLine ∧ (p == sysModules) = false ∧ ∃ vs, KV kvs vs ∧ s.heap.DictOf (mixKind X.prog X.w) p vs := I.hok p _ hx
      have hlen : kvs.length = vs.length := Paired.length r
      exact wpAny_truthy_dict hS m (by omega) ⟨H, I.tok _, by rw [isEmpty_kv r]; exact q⟩
  | _ => exact (show False from e).elim
theorem pt_truth (ha : PE X a ta) (he : ∀ whole, isTrue a X.env whole = (do let v ← whole; standAt a.pos; holding [v] (truthy v))) :
    PT X a (fun σ H Q => ta σ H fun x H' => ∃ k, TruV X.K x H' k ∧ Q k H') := by
  intro pins s σ H Q I h
  exact isTrue_plain (thn (ha pins s σ H _ I h) fun v s1 ⟨x, H1, I1, r1, q1⟩ => tru_ok pins s1 σ H1 x v Q I1 r1 q1) (he _)
theorem op_add_str : OpR X (binaryOp .Add) (fun x y H Q => ∃ i j, x = .str i ∧ y = .str j ∧ i.length + j.length ≤ sizeLine ∧ Q (.str (i ++ j)) H) := by
  intro pins s σ H x y v u Q I rx ry h
  obtain ⟨i, j, rfl, rfl, hz, q⟩ := h
  obtain ⟨t, rfl⟩ := rx
  obtain ⟨t', rfl⟩ := ry
  exact add_str (fun t' tk => ⟨.str (i ++ j), H, I.tok _, ⟨_, rfl⟩, q⟩) hz
theorem vals1 {x : V} {us : List Value} (r : Vals [x] us) : ∃ u, us = [u] ∧ RelV x u := by
  cases r with
  | cons r1 r2 => cases r2; exact ⟨_, rfl, r1⟩
theorem vals2 {x y : V} {us : List Value} (r : Vals [x, y] us) : ∃ u w', us = [u, w'] ∧ RelV x u ∧ RelV y w' := by
  cases r with
  | cons r1 r2 =>
    cases r2 with
    | cons r3 r4 => cases r4; exact ⟨_, _, rfl, r1, r3⟩
theorem call_min2 (hc : X.calm = true) : CallR X (.builtin "min") (fun xs H Q => ∃ i j, xs = [.int i, .int j] ∧ Q (.int (if j < i then j else i)) H) := by
  intro pins s σ H xs us Q I r h
  obtain ⟨i, j, rfl, q⟩ := h
  obtain ⟨u, w', rfl, ⟨t, rfl⟩, ⟨t', rfl⟩⟩ := vals2 r
  refine min_two_ints (I.ok.hd hc) fun h' tk k => ⟨_, H, I.kept k, ?_, q⟩
  by_cases hj : j < i
  · rw [if_pos hj, if_pos hj]; exact ⟨_, rfl⟩
  · rw [if_neg hj, if_neg hj]; exact ⟨_, rfl⟩
def LenV (K : PySem.W.Frag) (x : V) (H : Hp) (n : Nat) : Prop :=
  match x with
  | .str y => y.length ≤ sizeLine ∧ n = y.length
  | .byt y => y.size ≤ sizeLine ∧ n = y.size
  | .ref p => (∃ xs, SqL K H p xs ∧ n = xs.length) ∨ ∃ xs, SqT K H p xs ∧ n = xs.length
  | _ => False
theorem call_len : CallR X (.builtin "len") (fun xs H Q => ∃ x n, xs = [x] ∧ LenV X.K x H n ∧ Q (.int n) H) := by
  intro pins s σ H xs us Q I r h
  obtain ⟨x, n, rfl, e, q⟩ := h
  obtain ⟨u, rfl, rx⟩ := vals1 r
  have hl := line63
  have hs : sizeLine = 16777216 := sizeLine_eq
  cases x with
  | str y =>
    obtain ⟨t, rfl⟩ := rx
    obtain ⟨hy, e'⟩ : y.length ≤ sizeLine ∧ n = y.length := e
    subst e'
    exact len_str (by omega) ⟨.int _, H, I.tok _, ⟨_, rfl⟩, q⟩
  | byt y =>
    obtain ⟨t, rfl⟩ := rx
    obtain ⟨hy, e'⟩ : y.size ≤ sizeLine ∧ n = y.size := e
    subst e'
    exact PySem.W.len_bytes (by omega) ⟨.int _, H, I.tok _, ⟨_, rfl⟩, q⟩
  | ref p =>
    cases rx
    have e' : (∃ xs, SqL X.K H p xs ∧ n = xs.length) ∨ ∃ xs, SqT X.K H p xs ∧ n = xs.length := e
    rcases e' with ⟨xs, hx, e'⟩ | ⟨xs, hx, e'⟩
    · subst e'
      obtain ⟨its, r', pl, hz⟩ := I.list hx
      have hlen := r'.length
      exact Calls.call_len_list pl.isList (by simp only [List.size_toArray]; omega) ⟨.int xs.length, H, I.tok _, ⟨_, by simp only [List.size_toArray]; rw [hlen]⟩, q⟩
    · subst e'
      obtain ⟨its, r', pl, hz⟩ := I.tuple hx
      have hlen := r'.length
      exact len_tuple pl (by simp only [List.size_toArray]; omega) ⟨.int xs.length, H, I.tok _, ⟨_, by simp only [List.size_toArray]; rw [hlen]⟩, q⟩
  | _ => exact (show False from e).elim
end
end L2
namespace L2
open PySem PySem.Spec PyProof.Rows
structure ObjM (h : Heap) (x dx C : Addr) (mA : Str → Option Value) : Prop where
  obj : h.get? x = some (PySem.W.instObj C dx)
  ns : h.Ns1 dx mA
  ne : dx ≠ x
theorem lookIn_ns {h : Heap} {dx : Addr} {mA : Str → Option Value} (n : h.Ns1 dx mA) : ∃ od, h.get? dx = some od ∧ ∀ name, PySem.W.lookIn name od = some (mA name) := by
  obtain ⟨o, es, ep, ho, hd, hk, _, hm⟩ := n
  refine ⟨o, ho, fun name => ?_⟩
  have e := hm name
  unfold nsFind findBy at e
  rw [← Array.find?_toList] at e
  unfold PySem.W.lookIn
  rw [hd]
  dsimp only
  split
  · rename_i y q
    rw [q] at e
    exact congrArg some e
  · rename_i q
    rw [q] at e
    have a : es.toList.any (·.refKey) = false := by
      rw [List.any_eq_false]
      intro y hy
      obtain ⟨z, t, hkey⟩ := hk y (Array.mem_toList_iff.mp hy)
      simp [DictEntry.refKey, hkey]
    have a' : ¬ es.toList.any (·.refKey) = true := by rw [a]; exact Bool.false_ne_true
    rw [if_neg a']
    exact congrArg some e
theorem ObjM.look {h : Heap} {x dx C : Addr} {mA : Str → Option Value} (I : ObjM h x dx C mA) : ∃ od, PySem.W.InstAt h x (PySem.W.instObj C dx) C (some od) ∧ ∀ name, PySem.W.lookIn name od = some (mA name) :=
  let ⟨od, ho, hl⟩ := lookIn_ns I.ns
  ⟨od, ⟨I.obj, rfl, rfl, ho⟩, hl⟩
section
variable {prog : Program} {w : World} {A : Around} {E : Value → Shared → Prop} {s : Shared} {K : PySem.W.Frag} {x dx C f : Addr} {mA : Str → Option Value} {name : Str} {v : Value}
end
theorem RelO.some_of {v : V} {o : Option Value} (r : RelO (some v) o) : ∃ u, o = some u ∧ RelV v u := by
  cases o with
  | none => exact (show False from r).elim
  | some u => exact ⟨u, rfl, r⟩
theorem RelO.none_of {o : Option Value} (r : RelO none o) : o = none := by
  cases o with
  | none => rfl
  | some u => exact (show False from r).elim
section
variable {P : Program} {w : World} {H H' : Hp} {h h' : Heap} {a C dx : Addr} {fs fs' : List (Str × V)}
theorem ins_get (hok : HOk P w H h) (e : H a = some (.ins C dx fs)) : ∃ mA, ObjM h a dx C mA ∧ (∀ f, RelO (fs.lookup f) (mA f)) ∧ PySem.Within mA (fs.map (·.1)) ∧ fs.length ≤ 1000 ∧ H dx = some (.own a) := by
  obtain ⟨d, z, ne, ob, mA, n, r, q⟩ := (show ObjOk P w H h a (.ins C dx fs) from hok a _ e)
  exact ⟨mA, ⟨ob, n, ne⟩, r, q, z, d⟩
end
structure Cls (K : PySem.W.Frag) (C : Addr) : Prop where
  pg : PySem.W.plainGet K C Str.empty = true
  hd : PySem.W.hasDictIn K C = true
  po : PySem.W.plainOver K C = true
  sa : PySem.W.findIn K (.ref C) "__setattr__" = some (some (.builtin "object.__setattr__"))
theorem Cls.get {K : PySem.W.Frag} {C : Addr} (c : Cls K C) (f : Str) : PySem.W.plainGet K C f = true := c.pg
section
variable {X : Cx} {pins : List (Addr × Obj)} {σ : St} {H : Hp} {s : Shared} {a C dx : Addr} {fs : List (Str × V)} {f : Str} {v : V} {A : Around} {E : Value → Shared → Prop}
end
section
variable {X : Cx} {o e value : Expr} {f : Str} {pos pos' tpos : Pos} {ta tv : TE}
end
section
variable {X : Cx} {pins : List (Addr × Obj)} {σ : St} {H : Hp} {s : Shared} {A : Around} {E : Value → Shared → Prop} {Q : Value → Shared → Prop} {c : Value} {b : Bool}
inductive TyOf (K : PySem.W.Frag) (H : Hp) : V → Value → Prop where
  | non : TyOf K H .non (.type "NoneType")
  | bl (x : Bool) : TyOf K H (.bl x) (.type "bool")
  | int (i : Int) : TyOf K H (.int i) (.type "int")
  | str (x : Str) : TyOf K H (.str x) (.type "str")
  | flt (x : UInt64) : TyOf K H (.flt x) (.type "float")
  | lst {a : Addr} {xs : List V} (e : H a = some (.lst xs)) : TyOf K H (.ref a) (.type "list")
  | frz {a : Addr} {o : Obj} {xs : List V} (e : H a = some (.frz o (.lst xs))) : TyOf K H (.ref a) (.type "list")
  | tup {a : Addr} {xs : List V} (e : H a = some (.tup xs)) : TyOf K H (.ref a) (.type "tuple")
  | dK {a : Addr} {kvs : List (Key × V)} (e : H a = some (.dK kvs)) : TyOf K H (.ref a) (.type "dict")
  | dT {a : Addr} {kvs : List (List Key × V)} (e : H a = some (.dT kvs)) : TyOf K H (.ref a) (.type "dict")
  | ins {a C dx : Addr} {fs : List (Str × V)} (e : H a = some (.ins C dx fs)) (cl : Cls K C) (ha : PySem.W.findIn K (.ref C) "__class__" = some (some (.builtin "object.__class__")))
      (hn : PySem.W.specialIn K (.builtin "object.__class__") "__get__" = some (some (.builtin "getset_descriptor.__get__"))) (htk : PySem.W.takesIn K (.builtin "object.__class__") = some true)
      (hm : PySem.W.mroIn K C (.type "object") = some true) : TyOf K H (.ref a) (.ref C)
theorem isinst_ok {x : V} {u t : Value} (I : Inv X pins σ H s) (rx : RelV x u) (ty : TyOf X.K H x t) (e : PySem.W.kitOne X.K t c = some b) (h : ∀ tk, Q (.bool b) { s with toks := tk }) :
    wpAny (model X.prog X.w) A (call (.builtin "isinstance") [u, c]) Q E s := by
  cases ty with
  | non => cases (show u = Value.none from rx); exact PySem.W.kia_one PySem.W.kitx_none I.kIn True.intro e (fun z => nomatch z) h
  | bl y => cases (show u = Value.bool y from rx); exact PySem.W.kia_one PySem.W.kitx_bool I.kIn True.intro e (fun z => nomatch z) h
  | int i => obtain ⟨t, q⟩ := (show ∃ t, u = Value.int i t from rx); cases q; exact PySem.W.kia_one PySem.W.kitx_int I.kIn True.intro e (fun z => nomatch z) h
  | str y => obtain ⟨t, q⟩ := (show ∃ t, u = Value.str y t from rx); cases q; exact PySem.W.kia_one PySem.W.kitx_str I.kIn True.intro e (fun z => nomatch z) h
  | flt y => obtain ⟨t, q⟩ := (show ∃ t, u = Value.float y t from rx); cases q; exact PySem.W.kia_one PySem.W.kitx_float I.kIn True.intro e (fun z => nomatch z) h
  | @lst a xs ea =>
    cases (show u = Value.ref a from rx)
    obtain ⟨_, _, n, _, h1⟩ := (show ObjOk X.prog X.w H s.heap a (.lst xs) from I.hok a _ ea)
    exact PySem.W.kia_one PySem.W.kitx_list I.kIn ⟨_, h1, rfl⟩ e (fun z => nomatch z) h
  | @frz a ob xs ea =>
    cases (show u = Value.ref a from rx)
    obtain ⟨_, _, _, n, _, h1⟩ := (show ObjOk X.prog X.w H s.heap a (.frz ob (.lst xs)) from I.hok a _ ea)
    exact PySem.W.kia_one PySem.W.kitx_list I.kIn ⟨_, h1, rfl⟩ e (fun z => nomatch z) h
  | @tup a xs ea =>
    cases (show u = Value.ref a from rx)
    obtain ⟨_, _, _, p⟩ := (show ObjOk X.prog X.w H s.heap a (.tup xs) from I.hok a _ ea)
    obtain ⟨o, h1, h2, _⟩ := p
    exact PySem.W.kia_one PySem.W.kitx_tuple I.kIn ⟨o, h1, h2⟩ e (fun z => nomatch z) h
  | @dK a kvs ea =>
    cases (show u = Value.ref a from rx)
    obtain ⟨_, _, vs, _, p⟩ := (show ObjOk X.prog X.w H s.heap a (.dK kvs) from I.hok a _ ea)
    obtain ⟨o, es, ep, h1, h2, _⟩ := p
    exact PySem.W.kia_one PySem.W.kitx_dict I.kIn ⟨o, h1, h2.1⟩ e (fun z => nomatch z) h
  | @dT a kvs ea =>
    cases (show u = Value.ref a from rx)
    obtain ⟨_, _, xs, _, o, es, ep, h1, h2, _⟩ := (show ObjOk X.prog X.w H s.heap a (.dT kvs) from I.hok a _ ea)
    exact PySem.W.kia_one PySem.W.kitx_dict I.kIn ⟨o, h1, h2.1⟩ e (fun z => nomatch z) h
  | @ins a C dx fs ea cl ha hn htk hm =>
    cases (show u = Value.ref a from rx)
    obtain ⟨mA, O, _⟩ := ins_get I.hok ea
    obtain ⟨od, J, _⟩ := O.look
    exact PySem.W.kia_one (PySem.W.kitx_own (cl.get _) cl.hd ha hn htk hm) I.kIn J e (fun z => nomatch z) h
end
end L2
namespace L2
open PySem PySem.Spec PyProof.Rows
structure Room (k : Nat) (A : Around) : Prop where
  hd : A.handled = none
  dp : A.depth + 3 * k + 5 < recursionLimit
  un : A.units + 16 * k + 200 < cLine
theorem Room.mono {j k : Nat} {A : Around} (r : Room k A) (h : j ≤ k) : Room j A := ⟨r.hd, by have := r.dp; omega, by have := r.un; omega⟩
theorem Room.deeper {k : Nat} {A : Around} (r : Room (k + 1) A) (env : Env) : Room k (A.deeper env) :=
  ⟨r.hd, by have := r.dp; show A.depth + 1 + 3 * k + 5 < _; omega, by have := r.un; show A.units + 3 + 16 * k + 200 < _; omega⟩
theorem Room.depth {k : Nat} {A : Around} (r : Room k A) : A.depth < recursionLimit := by have := r.dp; omega
theorem Room.units {k : Nat} {A : Around} (r : Room k A) : A.units + 64 < cLine := by have := r.un; omega
theorem Room.units0 {k : Nat} {A : Around} (r : Room k A) : A.units < cLine := by have := r.un; omega
def tNil : TA := fun _ H Q => Q [] H
def tCons (ta : TE) (tr : TA) : TA := fun σ H Q => ta σ H fun x H1 => tr σ H1 fun xs H2 => Q (x :: xs) H2
section
variable {X : Cx} {e : Expr} {es : List Expr} {te : TE} {t : TA} {pos : Pos}
theorem pa_nil : PA X [] tNil := fun _ _ _ _ H Q I h => Calls.spliced_nil ⟨[], H, I, .nil, h⟩
theorem pa_cons (ha : PE X e te) (hr : PA X es t) (hs : starEach (e :: es) X.env = (false, eval e X.env) :: starEach es X.env := by rfl) : PA X (e :: es) (tCons te t) := by
  intro pos pins s σ H Q I h
  rw [hs]
  show wpAny _ _ (spliced ((false, eval e X.env) :: backTo pos (starEach es X.env))) _ _ s
  refine Calls.spliced_cons (thn (ha pins s σ H _ I h) fun u s1 ⟨x, H1, I1, r1, q1⟩ => ?_)
  exact thn (hr pos pins s1 σ H1 _ I1 q1) fun us s2 ⟨xs, H2, I2, r2, q2⟩ => ⟨x :: xs, H2, I2, .cons r1 r2, q2⟩
def tTup (t : TA) : TE := fun σ H Q => t σ H fun xs H1 => xs.length ≤ sizeLine ∧ ∀ p, H1 p = none → Q (.ref p) (upd H1 p (.tup xs))
def tLst (t : TA) : TE := fun σ H Q => t σ H fun xs H1 => xs.length ≤ sizeLine ∧ ∀ p, H1 p = none → Q (.ref p) (upd H1 p (.lst xs))
theorem pe_tup {x1} (h : PA X es t) : PE X (.Tuple es x1 pos) (tTup t) := by
  intro pins s σ H Q I hq
  refine wpAny_Tuple_spliced (thn (h pos pins s σ H _ I hq) fun us s1 ⟨xs, H1, I1, r, z, q⟩ => ⟨by rw [← r.length]; exact z, ?_⟩)
  have hf : H1 s1.heap.objs.size = none := I1.hok.fresh (Nat.le_refl _)
  refine ⟨.ref s1.heap.objs.size, upd H1 s1.heap.objs.size (.tup xs), I1.laid (t' := s1.toks) (fun b u e => Heap.get?_push_of_some _ e) (Nat.le_refl _) ?_, rfl, q _ hf⟩
  exact ⟨z, us, r, ⟨_, Heap.get?_push_size _ rfl, rfl, _, rfl⟩⟩
theorem pe_lst (h : PA X es t) : PE X (.List es pos) (tLst t) := by
  intro pins s σ H Q I hq
  refine wpAny_List_spliced (thn (h pos pins s σ H _ I hq) fun us s1 ⟨xs, H1, I1, r, z, q⟩ => ⟨by rw [← r.length]; exact z, ?_⟩)
  have hf : H1 s1.heap.objs.size = none := I1.hok.fresh (Nat.le_refl _)
  refine ⟨.ref s1.heap.objs.size, upd H1 s1.heap.objs.size (.lst xs), I1.laid (t' := s1.toks) (fun b u e => Heap.get?_push_of_some _ e) (Nat.le_refl _) ?_, rfl, q _ hf⟩
  exact ⟨z, us, 0, r, Heap.get?_push_size _ rfl⟩
end
abbrev Sp := List V → Hp → VK → XK → Prop
abbrev CXT := List Env → Hp → Shared → XK → Value → Shared → Prop
structure Env0 (P : Program) (w : World) (K : PySem.W.Frag) (mg : Str → Option Value) (base : Heap) (A : Around) (outer : List Env) (s : Shared) (H : Hp) : Prop where
  frames : A.frames = some outer
  mod : Mod K mg base
  bs : ∀ b o, base.get? b = some o → s.heap.get? b = some o ∧ H b = none
  bsz : base.objs.size ≤ s.heap.objs.size
  funs : s.heap.FunFrames base outer
  frf : ∀ b ∈ frs outer, H b = none
  hok : HOk P w H s.heap
  bare : AllBare s.gens
def CE (outer : List Env) (P : Program) (w : World) (H : Hp) (s : Shared) (Q : VK) (u : Value) (s' : Shared) : Prop :=
  ∃ v H', s'.os = s.os ∧ AllBare s'.gens ∧ Un (frs outer) [] H H' s.heap s'.heap ∧ HOk P w H' s'.heap ∧ RelV v u ∧ Q v H'
def CR (CX : CXT) (outer : List Env) (P : Program) (w : World) (H : Hp) (s : Shared) (Q : VK) (E : XK) (r : Result) (s' : Shared) : Prop :=
  match r with
  | .ok (.ret u) => CE outer P w H s Q u s'
  | .ok _ => False
  | .error e => CX outer H s E e s'
structure FnOk (P : Program) (w : World) (K : PySem.W.Frag) (mg : Str → Option Value) (base : Heap) (CX : CXT) (k : Nat) (f : Addr) (fd : FuncData) (ps : List Str) (sp : Sp) : Prop where
  len : ∀ vs H Q E, sp vs H Q E → vs.length = ps.length
  run : ∀ (A : Around) (outer : List Env) (s : Shared) (H : Hp) (args : Args) (us : List Value) (vs : List V) (Q : VK) (E : XK), Room k A → Env0 P w K mg base A outer s H → BindsTo s fd args (ps.zip us) → Vals vs us → sp vs H Q E →
    codeAny (model P w) A (.call (.ref f) args) (CR CX outer P w H s Q E) s
section
variable {X : Cx} {pins : List (Addr × Obj)} {σ : St} {H : Hp} {s s' : Shared}
theorem Inv.env0 (I : Inv X pins σ H s) : Env0 X.prog X.w X.K X.mg X.base X.A X.stack s H :=
  ⟨I.ok.frames, I.ok.mod, I.bs, Nat.le_trans I.ok.bsz I.sz, I.stack, I.stkFree, I.hok, I.bare⟩
theorem Inv.after {Q : VK} {u : Value} (I : Inv X pins σ H s) (h : CE X.stack X.prog X.w H s Q u s') : EP X pins σ Q u s' := by
  obtain ⟨v, H', os, bare, un, hok, r, q⟩ := h
  obtain ⟨hh, g, d, t, os'⟩ := s'
  obtain rfl : os' = s.os := os
  exact ⟨v, H', I.call (h' := hh) (g' := g) (d' := d) (t' := t) (ch := []) un hok bare (fun b z => absurd z (by simp)), r, q⟩
end
def tCall (sp : Sp) (dvs : List V) (E : XK) (t : TA) : TE := fun σ H Q => t σ H fun vs H1 => sp (vs ++ dvs) H1 Q E
def Binds (K : PySem.W.Frag) (fd : FuncData) (ps : List Str) (ds : List Value) : Prop :=
  ∀ (s : Shared) (us : List Value), K.In s.heap → (us ++ ds).length = ps.length → BindsTo s fd ⟨us, []⟩ (ps.zip (us ++ ds))
theorem Binds.all {K : PySem.W.Frag} {fd : FuncData} {ps : List Str} (h : ∀ us : List Value, us.length = ps.length → bindArgs fd ⟨us, []⟩ = pure (ps.zip us)) : Binds K fd ps [] := fun s us _ hl => by
  rw [List.append_nil] at hl ⊢
  exact .of_eq (h us hl)
def Passes (CX : CXT) (X : Cx) (E : XK) : Prop := ∀ (pins : List (Addr × Obj)) (σ : St) (H : Hp) (s : Shared) (e : Value) (s' : Shared), Inv X pins σ H s → CX X.stack H s E e s' → X.xe e s'
section
variable {X : Cx} {CX : CXT} {k : Nat} {f C : Addr} {fd : FuncData} {ps : List Str} {sp : Sp} {dvs : List V} {ds : List Value} {E : XK} {x m : Str} {p pos apos : Pos} {e o : Expr} {es : List Expr} {ta : TE} {t : TA}
theorem run_fn {pins : List (Addr × Obj)} {σ : St} {H : Hp} {s : Shared} {Q : VK} {us : List Value} {vs : List V} (F : FnOk X.prog X.w X.K X.mg X.base CX k f fd ps sp) (hr : Room k X.A) (hb : Binds X.K fd ps ds) (hd : Vals dvs ds) (hx : Passes CX X E)
    (I : Inv X pins σ H s) (r : Vals vs us) (h : sp (vs ++ dvs) H Q E) : wpAny (model X.prog X.w) X.A (call (.ref f) us) (EP X pins σ Q) X.xe s := by
  have r2 : Vals (vs ++ dvs) (us ++ ds) := r.append hd
  have hl : (us ++ ds).length = ps.length := by rw [← r2.length]; exact F.len _ _ _ _ h
  refine wpAny_call (codeAny_mono (F.run X.A X.stack s H ⟨us, []⟩ (us ++ ds) (vs ++ dvs) Q E hr I.env0 (hb s us I.kIn hl) r2 h) fun r s' hq => ?_)
  cases r with
  | error e => exact hx pins σ H s e s' I hq
  | ok fl =>
    cases fl with
    | ret u => exact I.after hq
    | next => exact False.elim hq
    | brk => exact False.elim hq
    | cont => exact False.elim hq
theorem pe_call (F : FnOk X.prog X.w X.K X.mg X.base CX k f fd ps sp) (hr : Room k X.A) (hg : Gl X x) (hm : X.mg x = some (.ref f)) (hk : PySem.W.keepIn X.K (.ref f) = true) (hb : Binds X.K fd ps ds) (hd : Vals dvs ds) (hx : Passes CX X E)
    (ha : PA X (e :: es) t) (hdb : (x == ("__debug__" : Str)) = false := by decide) (he : starEach (e :: es) X.env = (false, eval e X.env) :: starEach es X.env := by rfl) (hpl : (backTo pos (starEach es X.env)).any (·.1) = false := by rfl) :
    PE X (.Call (.Name x p) (e :: es) [] pos) (tCall sp dvs E t) := by
  intro pins s σ H Q I h
  refine wpAny_Call_Name_kw (ld_glob I hg hm ?_ hdb)
  refine PySem.W.callWith_K (h₀ := X.base) I.ok.mod.kin hk (thn (ha pos pins s σ H _ I h) fun us s1 ⟨vs, H1, I1, r, q⟩ => ⟨I1.kIn, ?_⟩) he hpl
  exact run_fn F hr hb hd hx I1 r q
end
section
variable {X : Cx} {CX : CXT} {k : Nat} {f C : Addr} {fd : FuncData} {ps ks : List Str} {sp : Sp} {E : XK} {x m : Str} {p pos apos kpos : Pos} {e o : Expr} {es : List Expr} {kws : List Keyword} {te ta : TE} {t tk : TA} {nm : Option Str}
variable {g : List Value → List Value → List Value} {gV : List V → List V → List V}
end
structure FnScope (N P : List Str) (sc : Scope) : Prop where
  kind : sc.kind = .function
  co : sc.isCoroutine = false
  gen : sc.isGenerator = false
  nd : N.Nodup
  pre : N.take P.length = P
  par : ∀ x ∈ P, sc.names.lookup x = some .local ∨ sc.names.lookup x = some .cell
  nofree : ∀ y ∈ sc.names, y.2 ≠ .free
theorem bindL_out {kindOf : Str → Option NameKind} {x : Str} : ∀ {binds : List (Str × Value)} {m : Str → Option Value}, (∀ v, (x, v) ∉ binds) → bindL kindOf binds m x = m x
  | [], _, _ => rfl
  | (n, v) :: r, m, h => by
    unfold bindL
    rw [bindL_out fun w hw => h w (List.mem_cons_of_mem _ hw)]
    split
    · have : x ≠ n := by rintro rfl; exact h v List.mem_cons_self
      simp [this]
    · rfl
theorem bindC_out {kindOf : Str → Option NameKind} {x : Str} : ∀ {binds : List (Str × Value)} {m : Str → Option Value}, (∀ v, (x, v) ∉ binds) → bindC kindOf binds m x = m x
  | [], _, _ => rfl
  | (n, v) :: r, m, h => by
    unfold bindC
    rw [bindC_out fun w hw => h w (List.mem_cons_of_mem _ hw)]
    split
    · rfl
    · have : x ≠ n := by rintro rfl; exact h v List.mem_cons_self
      simp [this]
theorem bindL_get {kindOf : Str → Option NameKind} {x : Str} {v : Value} : ∀ {P : List Str} {vs : List Value} {i : Nat} {m : Str → Option Value}, P.Nodup → P[i]? = some x → vs[i]? = some v → kindOf x = some .local →
    bindL kindOf (P.zip vs) m x = some v
  | [], _, _, _, _, h, _, _ => by simp at h
  | _ :: _, [], _, _, _, _, h, _ => by simp at h
  | p :: P, w :: vs, 0, m, nd, h1, h2, hk => by
    simp at h1 h2; subst h1; subst h2
    show bindL kindOf ((p, w) :: P.zip vs) m p = _
    unfold bindL
    rw [bindL_out fun v hv => (List.nodup_cons.mp nd).1 (List.of_mem_zip hv).1, if_pos hk]
    simp
  | p :: P, w :: vs, i + 1, m, nd, h1, h2, hk => by
    show bindL kindOf ((p, w) :: P.zip vs) m x = _
    unfold bindL
    exact bindL_get (i := i) (List.nodup_cons.mp nd).2 (by simpa using h1) (by simpa using h2) hk
theorem bindC_get {kindOf : Str → Option NameKind} {x : Str} {v : Value} : ∀ {P : List Str} {vs : List Value} {i : Nat} {m : Str → Option Value}, P.Nodup → P[i]? = some x → vs[i]? = some v → kindOf x ≠ some .local →
    bindC kindOf (P.zip vs) m x = some v
  | [], _, _, _, _, h, _, _ => by simp at h
  | _ :: _, [], _, _, _, _, h, _ => by simp at h
  | p :: P, w :: vs, 0, m, nd, h1, h2, hk => by
    simp at h1 h2; subst h1; subst h2
    show bindC kindOf ((p, w) :: P.zip vs) m p = _
    unfold bindC
    rw [bindC_out fun v hv => (List.nodup_cons.mp nd).1 (List.of_mem_zip hv).1, if_neg hk]
    simp
  | p :: P, w :: vs, i + 1, m, nd, h1, h2, hk => by
    show bindC kindOf ((p, w) :: P.zip vs) m x = _
    unfold bindC
    exact bindC_get (i := i) (List.nodup_cons.mp nd).2 (by simpa using h1) (by simpa using h2) hk
def start (N : List Str) (vs : List V) : St := vs.map some ++ List.replicate (N.length - vs.length) none
def cxOf (CX : CXT) (P : Program) (w : World) (K : PySem.W.Frag) (mg : Str → Option Value) (base : Heap) (N : List Str) (qual : Str) (scope : Scope) (f : Addr) (cd : Value) (A : Around) (outer : List Env) (s : Shared) (H : Hp) (E : XK) : Cx where
  prog := P
  w := w
  K := K
  mg := mg
  base := base
  A := A.deeper (envOfC qual scope s.heap.objs.size f cd)
  N := N
  s₀ := s
  H₀ := H
  env := envOfC qual scope s.heap.objs.size f cd
  outer := outer
  stack := envOfC qual scope s.heap.objs.size f cd :: outer
  ex := []
  calm := true
  fn := fun _ => true
  pn := []
  xe := fun e s' => wpAny (model P w) (A.deeper (envOfC qual scope s.heap.objs.size f cd)) (leaving (envOfC qual scope s.heap.objs.size f cd) e) (fun _ s'' => CX outer H s E e s'') (fun e' s'' => CX outer H s E e' s'') s'
theorem cell_has {sc : Scope} {n : Nat} {x : Str} (h : sc.names.lookup x = some .cell) : ∃ c, (cellsFrom n sc.names []).lookup x = some c := by
  have q := PySem.W.cellsFrom_some sc.names n [] (.inl h)
  exact Option.isSome_iff_exists.mp q
theorem inv_start {CX : CXT} {P : Program} {w : World} {K : PySem.W.Frag} {mg : Str → Option Value} {base : Heap} {N ps : List Str} {qual : Str} {scope : Scope} {f : Addr} {cd : Value} {A : Around} {outer : List Env} {s s1 : Shared} {H : Hp} {E : XK} {us : List Value} {vs : List V}
    (S : FnScope N ps scope) (hd : A.handled = none) (e0 : Env0 P w K mg base A outer s H) (hl : vs.length = ps.length) (r : Vals vs us)
    (x : InCallC s s.heap.objs.size (bindL (envOfC qual scope s.heap.objs.size f cd).kindOf (ps.zip us) fun _ => none) (cellsFrom (s.heap.objs.size + 1) scope.names []) (bindC (envOfC qual scope s.heap.objs.size f cd).kindOf (ps.zip us) fun _ => none) s1) :
    Inv (cxOf CX P w K mg base N qual scope f cd A outer s H E) [] (start N vs) H s1 := by
  have hpl : ps.length ≤ N.length := by have := congrArg List.length S.pre; rw [List.length_take] at this; omega
  obtain ⟨h1, tk, rfl, hk⟩ := x.done
  have noA : ∀ b : Addr, b ∉ (cxOf CX P w K mg base N qual scope f cd A outer s H E).ex := fun b z => absurd (show b ∈ ([] : List Addr) from z) (by simp)
  refine ⟨⟨e0.mod, S.kind, rfl, rfl, Nat.le_refl _, fun y z c h1 h2 => ?_, fun y hy => ?_, fun y c _ h => ?_, fun _ => hd, Around.frames_deeper e0.frames, .inr ⟨rfl, rfl⟩, fun b z => absurd z (noA b), e0.bs, e0.bsz, fun b _ _ => noA b, fun b z => absurd z (noA b), e0.funs, e0.frf⟩,
    rfl, e0.bare, Un.kept hk, ⟨_, x.toInCall.ns, fun i y v h1 h2 h3 => ?_⟩, fun y c h => ⟨_, x.cell y c h⟩, e0.hok.fresh (Nat.le_refl _), fun y c h => ?_, fun p hp => absurd (show p ∈ ([] : List (Addr × Obj)) from hp) (by simp), e0.hok.kept hk, ?_⟩
  · exact name_of_addr x.apart (PySem.mem_of_lookup h1) (PySem.mem_of_lookup h2)
  · have hy : scope.names.lookup y = some .cell ∨ scope.names.lookup y = some .free := hy
    rcases hy with hy | hy
    · exact cell_has hy
    · exact absurd rfl (S.nofree _ (PySem.mem_of_lookup hy))
  · exact Nat.le_of_lt (x.above y c (PySem.mem_of_lookup h))
  · have hi : i < vs.length := by
      unfold start at h2
      by_cases hi : i < vs.length
      · exact hi
      · rw [List.getElem?_append_right (by simpa using hi)] at h2
        rw [List.getElem?_replicate] at h2
        split at h2 <;> cases h2
    have ha : vs[i]? = some v := by
      unfold start at h2
      rw [List.getElem?_append_left (by simpa using hi), List.getElem?_map] at h2
      cases e : vs[i]? with
      | none => rw [e] at h2; cases h2
      | some a => rw [e] at h2; cases h2; rfl
    obtain ⟨u, hu, rv⟩ := r.get ha
    have hp : ps[i]? = some y := by
      rw [← S.pre, List.getElem?_take_of_lt (by omega)]; exact h1
    have ndP : ps.Nodup := by rw [← S.pre]; exact S.nd.sublist (List.take_sublist _ _)
    refine ⟨u, rv, ?_⟩
    rcases S.par y (List.mem_of_getElem? hp) with k | k
    · exact .inl ⟨k, bindL_get ndP hp hu k⟩
    · obtain ⟨c, e⟩ := cell_has (n := s.heap.objs.size + 1) k
      refine .inr ⟨.inl k, c, e, ?_⟩
      have q := x.cell y c e
      rw [bindC_get ndP hp hu (by show scope.names.lookup y ≠ _; rw [k]; decide)] at q
      exact q
  · exact e0.hok.fresh (Nat.le_of_lt (x.above y c (PySem.mem_of_lookup h)))
  · unfold start
    show _ = N.length
    rw [List.length_append, List.length_map, List.length_replicate]
    omega
theorem fn_of {CX : CXT} {P : Program} {w : World} {K : PySem.W.Frag} {mg : Str → Option Value} {base : Heap} {k : Nat} {f : Addr} {name qual : Str} {params : Arguments} {body : List Stmt} {scope : Scope} {dV kV doc pm cdv ct oc : Value} {an od : Option Addr}
    {osl : Array (Option Value)} {N ps : List Str} {sp : Sp} (lk : K.lookup f = some ⟨oc, od, .func (PySem.W.fnOf name qual params body scope dV kV doc pm an cdv ct), osl⟩) (hcd : PySem.W.codeIn K cdv qual = true) (S : FnScope N ps scope)
    (len : ∀ vs H Q E, sp vs H Q E → vs.length = ps.length)
    (hbody : ∀ (A : Around) (outer : List Env) (s : Shared) (H : Hp) (vs : List V) (Q : VK) (E : XK), Room k (A.deeper (envOfC qual scope s.heap.objs.size f cdv)) → sp vs H Q E →
      ∃ t, PSs (cxOf CX P w K mg base N qual scope f cdv A outer s H E) body t ∧ t { nx := fun _ H' => Q .non H', rt := Q } (start N vs) H) :
    FnOk P w K mg base CX (k + 1) f (PySem.W.fnOf name qual params body scope dV kV doc pm an cdv ct) ps sp := by
  refine ⟨len, fun A outer s H args us vs Q E hr e0 hb r hsp => ?_⟩
  have hl := len _ _ _ _ hsp
  have KX : K.In s.heap := e0.mod.kin.keeps fun b o e => (e0.bs b o e).1
  have lim : s.heap.NoLimit := e0.mod.nolimit.keeps fun b o e => (e0.bs b o e).1
  have hkind : ∀ y ∈ ps.zip us, scope.names.lookup y.1 = some .local ∨ (scope.names.lookup y.1 = some .cell ∧ ((cellsFrom (s.heap.objs.size + 1) scope.names []).lookup y.1).isSome = true) := fun ⟨n, v⟩ hy => by
    rcases S.par n (List.of_mem_zip hy).1 with q | q
    · exact .inl q
    · exact .inr ⟨q, PySem.W.cellsFrom_some _ _ _ (.inl q)⟩
  refine codeAny_call_function hr.depth (KX _ _ lk) rfl S.co S.gen rfl (PySem.W.codeRec_of KX hcd) (hb _ _ _ _ ?_)
  refine wpAny_newFunctionEnv_cells S.kind hkind fun env he s1 x => ?_
  subst he
  refine ⟨lim.keeps x.toInCall.keep, codeAny_func ?_⟩
  obtain ⟨t, ht, hq⟩ := hbody A outer s H vs Q E (hr.deeper _) hsp
  have I : Inv (cxOf CX P w K mg base N qual scope f cdv A outer s H E) [] (start N vs) H s1 := inv_start S hr.hd e0 hl r x
  refine wpAny_mono (ht [] s1 (start N vs) H _ I hq) (fun fl s' hs => ?_) fun e s' hs => hs
  have fin : ∀ {σ' : St} {H' : Hp} {v : V} {u : Value}, Inv (cxOf CX P w K mg base N qual scope f cdv A outer s H E) [] σ' H' s' → RelV v u → Q v H' → CE outer P w H s Q u s' :=
    fun {σ' H' v u} J rv q => ⟨v, H', J.os, J.bare, J.base, J.hok, rv, q⟩
  cases fl with
  | ret u =>
    obtain ⟨v, σ', H', J, rv, q⟩ := hs
    exact fin J rv q
  | next =>
    obtain ⟨σ', H', J, q⟩ := hs
    exact fin (v := V.non) (u := Value.none) J rfl q
  | brk =>
    obtain ⟨_, _, _, q⟩ := hs
    exact False.elim q
  | cont =>
    obtain ⟨_, _, _, q⟩ := hs
    exact False.elim q
end L2
namespace L2
open PySem PySem.Spec PyProof.Rows
section
variable {X : Cx} {x : Str} {p pos : Pos} {e : Expr} {es : List Expr} {t : TA} {id T : String} {r : List V → Hp → VK → Prop}
def tCB (r : List V → Hp → VK → Prop) (t : TA) : TE := fun σ H Q => t σ H fun vs H1 => r vs H1 Q
theorem pe_callB (hc : CallR X (.builtin id) r) (hg : Gl X x) (hm : X.mg x = none) (hv : bootBuiltins x = some (.builtin id)) (ha : PA X (e :: es) t) (hn : x ≠ "__name__" := by decide) (hdb : (x == ("__debug__" : Str)) = false := by decide)
    (he : starEach (e :: es) X.env = (false, eval e X.env) :: starEach es X.env := by rfl) (hpl : (backTo pos (starEach es X.env)).any (·.1) = false := by rfl) : PE X (.Call (.Name x p) (e :: es) [] pos) (tCB r t) := by
  intro pins s σ H Q I h
  refine wpAny_Call_Name_kw (ld_blt I hg hm hv ?_ hn hdb)
  exact PyProof.Rows.callWith_builtin1 (thn (ha pos pins s σ H _ I h) fun us s1 ⟨vs, H1, I1, r1, q1⟩ => hc pins s1 σ H1 vs us Q I1 r1 q1) he hpl
theorem pe_callTy (hc : CallR X (.type T) r) (hg : Gl X x) (hm : X.mg x = none) (hv : bootBuiltins x = some (.type T)) (ha : PA X (e :: es) t) (hn : x ≠ "__name__" := by decide) (hdb : (x == ("__debug__" : Str)) = false := by decide)
    (he : starEach (e :: es) X.env = (false, eval e X.env) :: starEach es X.env := by rfl) (hpl : (backTo pos (starEach es X.env)).any (·.1) = false := by rfl) : PE X (.Call (.Name x p) (e :: es) [] pos) (tCB r t) := by
  intro pins s σ H Q I h
  refine wpAny_Call_Name_kw (ld_blt I hg hm hv ?_ hn hdb)
  exact PyProof.Rows.callWith_type1 (thn (ha pos pins s σ H _ I h) fun us s1 ⟨vs, H1, I1, r1, q1⟩ => hc pins s1 σ H1 vs us Q I1 r1 q1) he hpl
end
end L2
namespace HT
open PySem PyProof.Rows
section
open PySem.SeqAt
open PySem.AutoSeq1 (wpAny_loadPart')
open PySem.MeetsSeq PySem.MeetsSeq2 PySem.MeetsSeq3
end
section
variable {prog : Program} {w : World} {A : Around} {E : Value → Shared → Prop} {s : Shared}
theorem cat_tup {t b : Addr} {vs ws : List Value} {Q : Value → Shared → Prop} (ht : IsTup s.heap t vs.toArray) (hb : IsTup s.heap b ws.toArray) (hv : vs ≠ [])
    (h1 : ws = [] → Q (.ref t) s) (h2 : ws ≠ [] → Q (.ref s.heap.objs.size) { s with heap := s.heap.push { cls := .type "tuple", data := .seq (vs ++ ws).toArray } })
    (hsz : vs.length + ws.length ≤ sizeLine) : wpAny (model prog w) A (binaryOp .Add (.ref t) (.ref b)) Q E s := by
  obtain ⟨⟨cls, dd, data, sl⟩, ho, hc, n, hd⟩ := id ht
  obtain ⟨⟨cls2, dd2, data2, sl2⟩, ho2, hc2, n2, hd2⟩ := id hb
  simp only at hc hd hc2 hd2
  subst hc hd hc2 hd2
  have e : vs.toArray ++ ws.toArray = (vs ++ ws).toArray := by simp
  by_cases hw : ws = []
  · exact concat_meets ⟨_, ho, rfl⟩ ⟨_, ho2, rfl⟩ noFill_tuple_add seq_tuple_add PySem.F.slot_tuple_add PySem.F.entry_tuple_add (PySem.F.args_tuple_add_2 _ _)
      (tuple_addW1 t b vs.toArray ws.toArray n n2 dd dd2 sl sl2 (by simpa using hv) (by simp [hw])) ⟨ho, ho2, h1 hw⟩
  · refine concat_meets ⟨_, ho, rfl⟩ ⟨_, ho2, rfl⟩ noFill_tuple_add seq_tuple_add PySem.F.slot_tuple_add PySem.F.entry_tuple_add (PySem.F.args_tuple_add_2 _ _)
      (tuple_addW2 t b vs.toArray ws.toArray n n2 dd dd2 sl sl2 (by simpa using hv) (by simpa using hw) (by rw [List.size_toArray, List.size_toArray]; exact hsz)) ⟨ho, ho2, ?_⟩
    rw [e]
    exact h2 hw
def sIx (n d : Nat) : Option Int → Nat
  | none => d
  | some v => if v < 0 then (v + (n : Int)).toNat else min v.toNat n
theorem sIx_le (n d : Nat) (hd : d ≤ n) (o : Option Int) : sIx n d o ≤ n := by
  cases o with
  | none => exact hd
  | some v =>
    show (if v < 0 then (v + (n : Int)).toNat else min v.toNat n) ≤ n
    by_cases hv : v < 0
    · rw [if_pos hv]; omega
    · rw [if_neg hv]; exact Nat.min_le_right _ _
theorem clip_eq (v : Int) (n d : Nat) : (if v < 0 then max (v + (n : Int)) 0 else min v (n : Int)) = ((sIx n d (some v) : Nat) : Int) := by
  show (if v < 0 then max (v + (n : Int)) 0 else min v (n : Int)) = (((if v < 0 then (v + (n : Int)).toNat else min v.toNat n) : Nat) : Int)
  by_cases hv : v < 0
  · simp only [if_pos hv]; omega
  · simp only [if_neg hv]; omega
theorem adjust_gen (lo hi : Option Int) (n : Nat) : Builtin.Slice.sliceAdjust lo hi 1 (n : Int) = (((sIx n 0 lo : Nat) : Int), ((sIx n n hi : Nat) : Int)) := by
  have h1 : ¬ ((1 : Int) < 0) := by omega
  unfold Builtin.Slice.sliceAdjust
  simp only [h1, if_false]
  refine Prod.ext ?_ ?_
  · cases lo with
    | none => rfl
    | some v => exact clip_eq v n 0
  · cases hi with
    | none => rfl
    | some v => exact clip_eq v n n
theorem places_gen (i j : Nat) : Builtin.Slice.slicePlaces (i : Int) (j : Int) 1 = j - i := by
  unfold Builtin.Slice.slicePlaces
  have h1 : (1 : Int) > 0 := by omega
  simp only [h1, if_true, Int.ediv_one]
  split <;> omega
theorem slicePart_ {v : Value} {o : Option Int} {Q : Option Int → Shared → Prop} (p : IsPart v o) (h : Q o s) : wpAny (model prog w) A (Builtin.Slice.slicePartIndex v) Q E s := by
  cases p with
  | none => exact slicePart_none h
  | int i t => exact slicePart_int h
theorem sliceApplied_gen {sl : Addr} {vl vu : Value} {lo hi : Option Int} {n : Nat} {Q : Int × Int × Nat → Shared → Prop} (hs : s.heap.IsSliceOf sl vl vu .none) (pl : IsPart vl lo) (pu : IsPart vu hi)
    (h : Q (((sIx n 0 lo : Nat) : Int), 1, sIx n n hi - sIx n 0 lo) s) : wpAny (model prog w) A (Builtin.Slice.sliceApplied (.ref sl) (pure (n : Int))) Q E s := by
  obtain ⟨os, hos, hcs, hds⟩ := id hs
  unfold Builtin.Slice.sliceApplied Builtin.Slice.sliceFields
  refine wpAny_bind (wpAny_bind (wpAny_field hos hds (x := vl) rfl (wpAny_bind (wpAny_field hos hds (x := vu) rfl (wpAny_bind (wpAny_field hos hds (x := .none) rfl (wpAny_pure ?_)))))))
  refine wpAny_bind (slicePart_none ?_)
  show wpAny _ _ (if ((1 : Int) == 0) = true then _ else _) _ _ s
  rw [if_neg (by decide)]
  refine wpAny_bind (slicePart_ pl (wpAny_bind (slicePart_ pu (wpAny_bind (wpAny_pure ?_)))))
  show wpAny _ _ (match Builtin.Slice.sliceAdjust lo hi 1 (n : Int) with | (lo, hi) => pure (lo, (1 : Int), Builtin.Slice.slicePlaces lo hi 1)) _ _ s
  rw [adjust_gen lo hi n]
  show wpAny _ _ (pure (((sIx n 0 lo : Nat) : Int), (1 : Int), Builtin.Slice.slicePlaces ((sIx n 0 lo : Nat) : Int) ((sIx n n hi : Nat) : Int) 1)) _ _ s
  rw [places_gen]
  exact wpAny_pure h
theorem pick_gen (xs : Array Value) (i k : Nat) : ((List.range k).filterMap fun (m : Nat) => xs[((i : Int) + (m : Int) * 1).toNat]?).toArray = ((xs.toList.drop i).take k).toArray := by
  have e : (fun (m : Nat) => xs[((i : Int) + (m : Int) * 1).toNat]?) = fun m => xs[i + m]? := by
    funext m
    have : ((i : Int) + (m : Int) * 1).toNat = i + m := by omega
    rw [this]
  rw [e]
  have := pick_run xs i k
  rw [List.filterMap_map] at this
  have e2 : ((fun x => xs[x]?) ∘ fun x => i + x) = fun m => xs[i + m]? := rfl
  rw [e2] at this
  rw [this]
theorem getItem_tuple_cut {t sl : Addr} {items : Array Value} {vl vu : Value} {lo hi : Option Int} {Q : Value → Shared → Prop} (ht : IsTup s.heap t items) (hs : s.heap.IsSliceOf sl vl vu .none) (pl : IsPart vl lo) (pu : IsPart vu hi)
    (hw : ¬ (sIx items.size 0 lo = 0 ∧ sIx items.size items.size hi = items.size))
    (h : Q (.ref s.heap.objs.size) { s with heap := s.heap.push { cls := .type "tuple", data := .seq ((items.toList.drop (sIx items.size 0 lo)).take (sIx items.size items.size hi - sIx items.size 0 lo)).toArray } })
    (hsz : items.size ≤ sizeLine) : wpAny (model prog w) A (getItem (.ref t) (.ref sl)) Q E s := by
  have htake : sizeOk (.seq ((items.toList.drop (sIx items.size 0 lo)).take (sIx items.size items.size hi - sIx items.size 0 lo)).toArray) := by
    show ((items.toList.drop (sIx items.size 0 lo)).take (sIx items.size items.size hi - sIx items.size 0 lo)).toArray.size ≤ sizeLine
    rw [List.size_toArray, List.length_take, List.length_drop, Array.length_toList]
    omega
  have hj : sIx items.size items.size hi ≤ items.size := sIx_le _ _ (Nat.le_refl _) hi
  obtain ⟨os, hos, hcs, hds⟩ := id hs
  have hTs : s.TypeIs (.ref sl) "slice" := ⟨os, hos, hcs⟩
  unfold getItem
  try with_reducible refine wpAny_holding ?_
  first | refine wpAny_bind (wpAny_pure ?_) | skip
  refine wpAny_bind (wpAny_sequenceKey ht.typeIs (by decide) ?_)
  refine wpAny_bind (wpAny_callSpecial?_slot (name := Str.ofString "__getitem__") ht.typeIs PyProof.Rows.slot_tuple_getitem
    (wpAny_call_entry PyProof.Rows.slot_tuple_getitem ht.typeIs entry_tuple_getitem ?_ (args_tuple_getitem _ _)))
  show wpAny _ _ (Builtin.Tuple.tupleItemsOf (.ref t) >>= _) _ _ s
  refine wpAny_bind (tupleItemsOf_ ht ?_)
  refine wpAny_bind (wpAny_typeOf hTs ?_)
  rw [if_pos (by decide)]
  refine wpAny_bind (sliceApplied_gen hs pl pu ?_)
  have hno : ¬ ((((sIx items.size 0 lo : Nat) : Int) == 0 && (1 : Int) == 1 && (sIx items.size items.size hi - sIx items.size 0 lo) == items.size) = true) := by
    intro q
    rw [Bool.and_eq_true, Bool.and_eq_true] at q
    have q1 : ((sIx items.size 0 lo : Nat) : Int) = 0 := eq_of_beq q.1.1
    have q2 : sIx items.size items.size hi - sIx items.size 0 lo = items.size := eq_of_beq q.2
    exact hw ⟨by omega, by omega⟩
  show wpAny _ _ (if (((sIx items.size 0 lo : Nat) : Int) == 0 && (1 : Int) == 1 && (sIx items.size items.size hi - sIx items.size 0 lo) == items.size) = true then _ else _) _ _ s
  rw [if_neg hno, pick_gen]
  first
    | exact wpAny_bind (m := Builtin.Tuple.tupleExact _) (wpAny_newObj_type (wpAny_pure ⟨_, rfl, wpAny_pure h⟩) htake)
    | exact wpAny_bind (m := Builtin.Tuple.tupleExact _) (wpAny_newObj_type (wpAny_bind (wpAny_pure (wpAny_pure ⟨_, rfl, wpAny_pure h⟩))) htake)
    | exact wpAny_bind (wpAny_bind (m := Builtin.Tuple.tupleExact _) (wpAny_newObj_type (wpAny_pure (wpAny_pure ⟨_, rfl, wpAny_pure h⟩)) htake))
    | exact wpAny_bind (wpAny_bind (m := Builtin.Tuple.tupleExact _) (wpAny_newObj_type (wpAny_pure ⟨_, rfl, wpAny_pure h⟩) htake))
end
end HT
namespace L2
open PySem PySem.Spec PyProof.Rows
abbrev TO := St → Hp → (Option Int → Hp → Prop) → Prop
def PO (X : Cx) (e : Option Expr) (t : TO) : Prop :=
  ∀ (pins : List (Addr × Obj)) (s : Shared) (σ : St) (H : Hp) (Q : Option Int → Hp → Prop), Inv X pins σ H s → t σ H Q →
    wpAny (model X.prog X.w) X.A (evalPart e X.env) (fun u s' => ∃ o H', Inv X pins σ H' s' ∧ IsPart u o ∧ Q o H') X.xe s
def tPart (t : TE) : TO := fun σ H Q => t σ H fun x H1 => ∃ i, x = .int i ∧ Q (some i) H1
section
variable {X : Cx} {e : Expr} {te : TE} {lo hi : Option Expr} {tl th : TO} {pos p2 : Pos}
theorem po_some (h : PE X e te) : PO X (some e) (tPart te) := by
  intro pins s σ H Q I hw
  rw [evalPart_some]
  refine thn (h pins s σ H _ I hw) fun u s1 ⟨x, H1, I1, r1, q1⟩ => ?_
  obtain ⟨i, rfl, q⟩ := q1
  obtain ⟨t, rfl⟩ := r1
  exact ⟨some i, H1, I1, .int i t, q⟩
def SlR (X : Cx) (r : V → Option Int → Option Int → Hp → VK → Prop) : Prop :=
  ∀ (pins : List (Addr × Obj)) (s : Shared) (σ : St) (H : Hp) (x : V) (v vl vu : Value) (lo hi : Option Int) (sl : Addr) (Q : VK), Inv X pins σ H s → RelV x v → s.heap.IsSliceOf sl vl vu .none → IsPart vl lo → IsPart vu hi → r x lo hi H Q →
    ∃ T id, typeLookup (.type T) "__getitem__" = pure (some (.builtin id)) ∧ s.TypeIs v T ∧ wpAny (model X.prog X.w) X.A (getItem v (.ref sl)) (EP X pins σ Q) X.xe s
theorem SlR.or {r r' : V → Option Int → Option Int → Hp → VK → Prop} (h : SlR X r) (h' : SlR X r') : SlR X (fun x lo hi H Q => r x lo hi H Q ∨ r' x lo hi H Q) := by
  intro pins s σ H x v vl vu lo hi sl Q I rx hs pl pu q
  rcases q with q | q
  · exact h pins s σ H x v vl vu lo hi sl Q I rx hs pl pu q
  · exact h' pins s σ H x v vl vu lo hi sl Q I rx hs pl pu q
def tSl (r : V → Option Int → Option Int → Hp → VK → Prop) (te : TE) (tl th : TO) : TE := fun σ H Q => te σ H fun x H1 => tl σ H1 fun l H2 => th σ H2 fun u H3 => r x l u H3 Q
theorem pe_slice {r : V → Option Int → Option Int → Hp → VK → Prop} (hr : SlR X r) (he : PE X e te) (hl : PO X lo tl) (hu : PO X hi th) : PE X (.Subscript e (.Slice lo hi none p2) pos) (tSl r te tl th) := by
  intro pins s σ H Q I h
  refine Subscript_ (thn (he pins s σ H _ I h) fun v s1 ⟨x, H1, I1, r1, q1⟩ => ?_)
  refine wpAny_Slice (thn (hl pins s1 σ H1 _ I1 q1) fun vl s2 ⟨l, H2, I2, pl, q2⟩ => thn (hu pins s2 σ H2 _ I2 q2) fun vu s3 ⟨u, H3, I3, pu, q3⟩ => ?_)
  rw [evalPart_none]
  refine wpAny_pure ?_
  have I4 : Inv X pins σ H3 { s3 with heap := s3.heap.push { cls := .type "slice", data := .fields #[vl, vu, .none] } } := I3.kept (t' := s3.toks) fun b ob q => Heap.get?_push_of_some _ q
  obtain ⟨T, id, hT, ht, hg⟩ := hr pins { s3 with heap := s3.heap.push { cls := .type "slice", data := .fields #[vl, vu, .none] } } σ H3 x v vl vu l u s3.heap.objs.size Q I4 r1 (Heap.IsSliceOf.new ..) pl pu q3
  show wpAny (model X.prog X.w) X.A (subscriptTail e (.Slice lo hi none p2) v (.ref s3.heap.objs.size)) (EP X pins σ Q) X.xe { s3 with heap := s3.heap.push { cls := .type "slice", data := .fields #[vl, vu, .none] } }
  exact tail_any (ops := [.ref s3.heap.objs.size, v]) ht hT hg (by with_unfolding_all rfl)
def cutV (xs : List V) (lo hi : Option Int) : List V := (xs.drop (HT.sIx xs.length 0 lo)).take (HT.sIx xs.length xs.length hi - HT.sIx xs.length 0 lo)
theorem cutV_length (xs : List V) (lo hi : Option Int) : (cutV xs lo hi).length ≤ xs.length := by
  unfold cutV
  rw [List.length_take, List.length_drop]
  omega
def rSlT (K : PySem.W.Frag) : V → Option Int → Option Int → Hp → VK → Prop := fun x lo hi H Q => ∃ a xs, x = .ref a ∧ SqT K H a xs ∧
  ¬ (HT.sIx xs.length 0 lo = 0 ∧ HT.sIx xs.length xs.length hi = xs.length) ∧ ∀ p, H p = none → Q (.ref p) (upd H p (.tup (cutV xs lo hi)))
theorem sl_tup : SlR X (rSlT X.K) := by
  intro pins s σ H x v vl vu lo hi sl Q I rx hs pl pu h
  obtain ⟨a, xs, rfl, hx, hw, q⟩ := h
  cases rx
  obtain ⟨its, r, ht, hz⟩ := I.tuple hx
  have hlen : its.toArray.size = xs.length := by rw [List.size_toArray]; exact r.length.symm
  refine ⟨"tuple", _, PyProof.Rows.slot_tuple_getitem.lookup, ht.typeIs, ?_⟩
  refine HT.getItem_tuple_cut ht hs pl pu (by rw [hlen]; exact hw) ?_ (by rw [hlen]; exact hz)
  rw [hlen]
  refine ⟨.ref s.heap.objs.size, _, I.laid (t' := s.toks) (o := .tup (cutV xs lo hi)) (fun b ob q => Heap.get?_push_of_some _ q) (Nat.le_refl _) ?_, rfl, q _ (I.hok.fresh (Nat.le_refl _))⟩
  exact ⟨Nat.le_trans (cutV_length xs lo hi) hz, _, (r.drop (HT.sIx xs.length 0 lo)).take (HT.sIx xs.length xs.length hi - HT.sIx xs.length 0 lo), IsTup.new _ _⟩
def rCatT (K : PySem.W.Frag) : R2 := fun x y H Q => ∃ a b xs ys, x = .ref a ∧ y = .ref b ∧ SqT K H a xs ∧ SqT K H b ys ∧ xs ≠ [] ∧ xs.length + ys.length ≤ sizeLine ∧
  (ys = [] → Q (.ref a) H) ∧ (ys ≠ [] → ∀ p, H p = none → Q (.ref p) (upd H p (.tup (xs ++ ys))))
theorem Vals.nil_iff {xs : List V} {us : List Value} (r : Vals xs us) : us = [] ↔ xs = [] := by
  cases r with
  | nil => simp
  | cons _ _ => simp
theorem op_catT : OpR X (binaryOp .Add) (rCatT X.K) := by
  intro pins s σ H x y v u Q I rx ry h
  obtain ⟨a, b, xs, ys, rfl, rfl, ha, hb, hx, hz, q1, q2⟩ := h
  cases rx
  cases ry
  obtain ⟨its, r1, p1, _⟩ := I.tuple ha
  obtain ⟨its2, r2, p2, _⟩ := I.tuple hb
  refine HT.cat_tup p1 p2 (fun z => hx (r1.nil_iff.mp z)) (fun z => ⟨.ref a, H, I, rfl, q1 (r2.nil_iff.mp z)⟩) (fun z => ?_) (by rw [← r1.length, ← r2.length]; exact hz)
  refine ⟨.ref s.heap.objs.size, _, I.laid (t' := s.toks) (o := .tup (xs ++ ys)) (fun b ob q => Heap.get?_push_of_some _ q) (Nat.le_refl _) ?_, rfl, q2 (fun w => z (r2.nil_iff.mpr w)) _ (I.hok.fresh (Nat.le_refl _))⟩
  exact ⟨by rw [List.length_append]; exact hz, _, r1.append r2, IsTup.new _ _⟩
end
end L2
namespace L2
open PySem PySem.Spec PyProof.Rows
def ixN (n : Nat) (i : Int) : Option Nat := if 0 ≤ i then (if i < n then some i.toNat else none) else if -(n : Int) ≤ i then some (i + n).toNat else none
def atI {α : Type} (xs : List α) (i : Int) : Option α := (ixN xs.length i).bind fun j => xs[j]?
theorem ixN_seq {n : Nat} {i : Int} {j : Nat} (h : ixN n i = some j) : seqIndex? i n = some j ∧ j < n ∧ -(n : Int) ≤ i ∧ i < n := by
  unfold ixN at h
  by_cases h0 : 0 ≤ i
  · rw [if_pos h0] at h
    by_cases h1 : i < n
    · rw [if_pos h1] at h
      have e : i.toNat = j := Option.some.inj h
      exact ⟨by rw [seqIndex_of h0 h1, e], by omega, by omega, h1⟩
    · rw [if_neg h1] at h; cases h
  · rw [if_neg h0] at h
    by_cases h1 : -(n : Int) ≤ i
    · rw [if_pos h1] at h
      have e : (i + n).toNat = j := Option.some.inj h
      exact ⟨by rw [seqIndex_neg (by omega) h1, e], by omega, h1, by omega⟩
    · rw [if_neg h1] at h; cases h
theorem atI_get {α : Type} {xs : List α} {i : Int} {v : α} (h : atI xs i = some v) : ∃ j, seqIndex? i xs.length = some j ∧ xs[j]? = some v ∧ j < xs.length ∧ -(xs.length : Int) ≤ i ∧ i < xs.length := by
  unfold atI at h
  cases e : ixN xs.length i with
  | none => rw [e] at h; cases h
  | some j =>
    rw [e] at h
    obtain ⟨h1, h2, h3, h4⟩ := ixN_seq e
    exact ⟨j, h1, h, h2, h3, h4⟩
theorem atI_nat {α : Type} {xs : List α} {j : Nat} {v : α} (h : xs[j]? = some v) : atI xs (j : Int) = some v := by
  have hj : j < xs.length := (List.getElem?_eq_some_iff.mp h).1
  have e : ixN xs.length (j : Int) = some j := by
    unfold ixN
    rw [if_pos (by omega), if_pos (by omega)]; simp
  unfold atI; rw [e]; exact h
theorem atI_last {α : Type} (xs : List α) (v : α) : atI (xs ++ [v]) (-1) = some v := by
  have hl : (xs ++ [v]).length = xs.length + 1 := by simp
  have e : ixN (xs ++ [v]).length (-1) = some xs.length := by
    unfold ixN
    rw [hl, if_neg (by decide), if_pos (by omega)]
    congr 1
    omega
  unfold atI
  rw [e]
  show (xs ++ [v])[xs.length]? = some v
  simp
def PlainIx (b : Expr) : Prop := ∀ o i, subscripted b false o i = operate [o, i] (getItem o i)
def IxR (X : Cx) (r : R2) : Prop :=
  ∀ (value slice : Expr) (pins : List (Addr × Obj)) (s : Shared) (σ : St) (H : Hp) (x y : V) (v u : Value) (Q : VK), Inv X pins σ H s → RelV x v → RelV y u → r x y H Q →
    subscripted slice false v u = operate [v, u] (getItem v u) → wpAny (model X.prog X.w) X.A (subscriptTail value slice v u) (EP X pins σ Q) X.xe s
def MtR (X : Cx) (id : String) (r : V → List V → Hp → VK → Prop) : Prop :=
  ∀ (pins : List (Addr × Obj)) (s : Shared) (σ : St) (H : Hp) (x : V) (xs : List V) (v : Value) (us : List Value) (Q : VK), Inv X pins σ H s → RelV x v → Vals xs us → r x xs H Q →
    wpAny (model X.prog X.w) X.A (call (.builtin id) (v :: us)) (EP X pins σ Q) X.xe s
section
variable {X : Cx} {a b : Expr} {ta tb : TE} {pos : Pos}
theorem IxR.or {r r' : R2} (h : IxR X r) (h' : IxR X r') : IxR X (fun x y H Q => r x y H Q ∨ r' x y H Q) := by
  intro value slice pins s σ H x y v u Q I rx ry q hs
  rcases q with q | q
  · exact h value slice pins s σ H x y v u Q I rx ry q hs
  · exact h' value slice pins s σ H x y v u Q I rx ry q hs
theorem pe_ix {r : R2} (hr : IxR X r) (ha : PE X a ta) (hb : PE X b tb) (hs : PlainIx b) : PE X (.Subscript a b pos) (tOp r ta tb) := by
  intro pins s σ H Q I h
  exact Subscript_ (binT ha hb I h fun v u s2 x y H2 I2 rx ry q => hr a b pins s2 σ H2 x y v u Q I2 rx ry q (hs _ _))
def rIxL (K : PySem.W.Frag) : R2 := fun x y H Q => ∃ p xs i v, x = .ref p ∧ y = .int i ∧ SqL K H p xs ∧ atI xs i = some v ∧ Q v H
def rIxT (K : PySem.W.Frag) : R2 := fun x y H Q => ∃ p xs i v, x = .ref p ∧ y = .int i ∧ SqT K H p xs ∧ atI xs i = some v ∧ Q v H
def rIxS : R2 := fun x y H Q => ∃ z i c, x = .str z ∧ y = .int i ∧ z.length ≤ sizeLine ∧ atI z.cps.toList i = some c ∧ Q (.str ⟨#[c]⟩) H
theorem ix_list : IxR X (rIxL X.K) := by
  intro value slice pins s σ H x y v u Q I rx ry h hs
  obtain ⟨p, xs, i, z, rfl, rfl, hq, he, q⟩ := h
  cases rx
  obtain ⟨t, rfl⟩ := ry
  obtain ⟨its, r, pl, hz⟩ := I.list hq
  obtain ⟨j, h1, h2, h3, h4, h5⟩ := atI_get he
  obtain ⟨w, ew, rw'⟩ := r.get h2
  have hl := r.length
  have hn := line63
  have fin : EP X pins σ Q w s := ⟨z, H, I, rw', q⟩
  by_cases h0 : 0 ≤ i
  · have hj : i.toNat = j := by
      rw [seqIndex_of h0 h5] at h1
      exact Option.some.inj h1
    exact item_listR pl.isList h0 (by omega) (by rw [hj]; simpa using ew) fin hs
  · have hj : (i + (its.toArray.size : Int)).toNat = j := by
      rw [seqIndex_neg (by omega) h4] at h1
      rw [List.size_toArray, ← hl]
      exact Option.some.inj h1
    exact subscriptTail_builtinR (x := w) pl.isList.typeIs slot_list_getitem.lookup
      (wpAny_getItem_list_neg (Q := fun r s' => r = w ∧ EP X pins σ Q r s') pl.isList (by omega) (by rw [List.size_toArray] <;> omega) (by omega) (by rw [hj]; simpa using ew) ⟨rfl, fin⟩) hs
theorem ix_tup : IxR X (rIxT X.K) := by
  intro value slice pins s σ H x y v u Q I rx ry h hs
  obtain ⟨p, xs, i, z, rfl, rfl, hq, he, q⟩ := h
  cases rx
  obtain ⟨t, rfl⟩ := ry
  obtain ⟨its, r, pl, hz⟩ := I.tuple hq
  obtain ⟨j, h1, h2, h3, h4, h5⟩ := atI_get he
  obtain ⟨w, ew, rw'⟩ := r.get h2
  have hl := r.length
  have hn := line63
  have fin : EP X pins σ Q w s := ⟨z, H, I, rw', q⟩
  exact subscriptTail_builtinR (x := w) pl.typeIs slot_tuple_getitem.lookup
    (getItem_tuple (j := j) (Q := fun r s' => r = w ∧ EP X pins σ Q r s') pl (by omega) (by omega) (by rw [List.size_toArray, ← hl]; exact h1) (by simpa using ew) ⟨rfl, fin⟩) hs
theorem ix_str : IxR X rIxS := by
  intro value slice pins s σ H x y v u Q I rx ry h hs
  obtain ⟨z, i, c, rfl, rfl, hz, he, q⟩ := h
  obtain ⟨t, rfl⟩ := rx
  obtain ⟨t', rfl⟩ := ry
  obtain ⟨j, h1, h2, h3, h4, h5⟩ := atI_get he
  have hl : z.cps.toList.length = z.length := by simp [Str.length]
  rw [hl] at h1 h4 h5
  have hn := line63
  exact tail_any (typeIs_str s z t) slot_str_getitem.lookup (getItem_str (c := c) (by
    have e1 : decide (i < -(2 ^ 63 : Int)) = false := decide_eq_false (by omega)
    have e2 : decide (i ≥ 2 ^ 63) = false := decide_eq_false (by omega)
    rw [e1, e2, Bool.or_false]) (by rw [h1]; simpa using h2) ⟨.str ⟨#[c]⟩, H, I.tok _, ⟨_, rfl⟩, q⟩) hs
theorem mapSeq_set (its : List Value) (n j : Nat) (u : Value) : Obj.mapSeq (·.setIfInBounds j u) { cls := .type "list", data := .seq its.toArray n } = { cls := .type "list", data := .seq (its.set j u).toArray n } := by
  simp [Obj.mapSeq]
theorem Inv.lst {pins : List (Addr × Obj)} {σ : St} {H : Hp} {s : Shared} {p : Addr} {xs : List V} (I : Inv X pins σ H s) (h : H p = some (.lst xs)) :
    ∃ (its : List Value) (n : Nat), Vals xs its ∧ s.heap.get? p = some { cls := .type "list", data := .seq its.toArray n } ∧ xs.length ≤ sizeLine := by
  obtain ⟨z, its, n, r, e⟩ := I.hok p _ h
  exact ⟨its, n, r, e, z⟩
theorem Inv.lstUpd {pins : List (Addr × Obj)} {σ : St} {H : Hp} {s : Shared} {p : Addr} {xs ys : List V} {its its' : List Value} {n n' : Nat} {f : Obj → Obj} (I : Inv X pins σ H s) (h : H p = some (.lst xs))
    (ho : s.heap.get? p = some { cls := .type "list", data := .seq its.toArray n }) (hf : f { cls := .type "list", data := .seq its.toArray n } = { cls := .type "list", data := .seq its'.toArray n' }) (r : Vals ys its') (hz : ys.length ≤ sizeLine) (t : Nat) :
    Inv X pins σ (upd H p (.lst ys)) { s with heap := s.heap.update p f, toks := t } := by
  have e : (s.heap.update p f).get? p = some { cls := .type "list", data := .seq its'.toArray n' } := by
    rw [Heap.get?_update_self f ho (by rw [hf] <;> rfl), hf]
  refine I.write (x := p) (e := p) (by rw [h]; trivial) (.inl rfl) (fun b u hb q => (Heap.get?_update_other _ _ (Ne.symm hb)).trans q) ⟨_, e⟩ ?_
  exact ⟨hz, its', n', r, e⟩
def rSetL : V → V → V → Hp → (Hp → Prop) → Prop := fun o i v H Q => ∃ p xs k j, o = .ref p ∧ i = .int k ∧ H p = some (.lst xs) ∧ ixN xs.length k = some j ∧ Q (upd H p (.lst (xs.set j v)))
theorem set_list : PSet X rSetL := by
  intro pins s σ H o i v ov iv u Q I ro ri rv h
  obtain ⟨p, xs, k, j, rfl, rfl, hp, hj, q⟩ := h
  cases ro
  obtain ⟨t, rfl⟩ := ri
  obtain ⟨its, n, r, ho, hz⟩ := I.lst hp
  obtain ⟨h1, h2, h3, h4⟩ := ixN_seq hj
  have hl := r.length
  have hn := line63
  have I' : Inv X pins σ (upd H p (.lst (xs.set j v))) { s with heap := s.heap.update p (Obj.mapSeq (·.setIfInBounds j u)) } :=
    I.lstUpd hp ho (mapSeq_set its n j u) (r.set rv j) (by rw [List.length_set]; exact hz) s.toks
  by_cases h0 : 0 ≤ k
  · have hk : k.toNat = j := by
      rw [seqIndex_of h0 h4] at h1
      exact Option.some.inj h1
    exact PySem.W.ki_setAt ho h0 (by omega) (by rw [List.size_toArray, ← hl]; exact h4) (by rw [hk]; exact ⟨_, I', q⟩)
  · have hk : (k + (its.toArray.size : Int)).toNat = j := by
      rw [seqIndex_neg (by omega) h3] at h1
      rw [List.size_toArray, ← hl]
      exact Option.some.inj h1
    exact PySem.W.ki_setBack ho (by omega) (by rw [List.size_toArray, ← hl]; exact h3) (by omega) (by rw [hk]; exact ⟨_, I', q⟩)
theorem slice_bounds (lo hi : Option Int) (n : Nat) : (sliceBounds lo hi none n).1 = ((HT.sIx n 0 lo : Nat) : Int) ∧ (sliceBounds lo hi none n).2.1 = ((HT.sIx n n hi : Nat) : Int) ∧ (sliceBounds lo hi none n).2.2 = 1 := by
  refine ⟨?_, ?_, rfl⟩
  · cases lo with
    | none => simp [sliceBounds, HT.sIx]
    | some i =>
      simp only [sliceBounds, HT.sIx, Option.getD_none, show (1 : Int) > 0 by decide, if_true]
      by_cases h : i < 0
      · simp only [h, if_true] <;> omega
      · simp only [h, if_false] <;> omega
  · cases hi with
    | none => simp [sliceBounds, HT.sIx]
    | some i =>
      simp only [sliceBounds, HT.sIx, Option.getD_none, show (1 : Int) > 0 by decide, if_true]
      by_cases h : i < 0
      · simp only [h, if_true] <;> omega
      · simp only [h, if_false] <;> omega
theorem slicePick_cut (its : List Value) (lo hi : Option Int) : slicePick its.toArray lo hi none = ((its.drop (HT.sIx its.length 0 lo)).take (HT.sIx its.length its.length hi - HT.sIx its.length 0 lo)).toArray := by
  obtain ⟨h1, h2, h3⟩ := slice_bounds lo hi its.toArray.size
  unfold slicePick
  rw [h1, h2, h3]
  simp only [sliceRange_one, pick_run, List.size_toArray] <;> rfl
def rSlL (K : PySem.W.Frag) : V → Option Int → Option Int → Hp → VK → Prop := fun x lo hi H Q => ∃ a xs, x = .ref a ∧ SqL K H a xs ∧ ∀ p, H p = none → Q (.ref p) (upd H p (.lst (cutV xs lo hi)))
theorem sl_list : SlR X (rSlL X.K) := by
  intro pins s σ H x v vl vu lo hi sl Q I rx hs pl pu h
  obtain ⟨a, xs, rfl, hx, q⟩ := h
  cases rx
  obtain ⟨its, r, ht, hz⟩ := I.list hx
  have hlen := r.length
  refine ⟨"list", _, slot_list_getitem.lookup, ht.isList.typeIs, ?_⟩
  refine wpAny_getItem_list_slice ht.isList hs pl pu .none (by simp) ?_ (by rw [List.size_toArray] <;> omega)
  rw [slicePick_cut, ← hlen]
  refine ⟨.ref s.heap.objs.size, _, I.laid (t' := s.toks) (o := .lst (cutV xs lo hi)) (fun b ob q => Heap.get?_push_of_some _ q) (Nat.le_refl _) ?_, rfl, q _ (I.hok.fresh (Nat.le_refl _))⟩
  exact ⟨Nat.le_trans (cutV_length xs lo hi) hz, _, 0, (r.drop (HT.sIx xs.length 0 lo)).take (HT.sIx xs.length xs.length hi - HT.sIx xs.length 0 lo), Heap.get?_push_size _ rfl⟩
def flatV : V → Bool
  | .non => true
  | .bl _ => true
  | .int _ => true
  | .str _ => true
  | _ => false
def eqV : V → V → Bool
  | .non, .non => true
  | .bl a, .bl b => a == b
  | .bl a, .int b => (if a then 1 else 0) == b
  | .int a, .bl b => a == (if b then 1 else 0)
  | .int a, .int b => a == b
  | .str a, .str b => a == b
  | _, _ => false
theorem eqAt_V {A : Around} {s : Shared} {y x : V} {u v : Value} (ry : RelV y u) (rx : RelV x v) (fy : flatV y = true) (fx : flatV x = true) : SeqAt.EqAt A s u v (eqV y x) := by
  cases y with
  | non =>
    cases ry
    cases x with
    | non => cases rx; exact SeqAt.EqAt.same _
    | bl b => cases rx; exact SeqAt.EqAt.none_bool b
    | int b => obtain ⟨t, rfl⟩ := rx; exact SeqAt.EqAt.none_int b t
    | str b => obtain ⟨t, rfl⟩ := rx; exact SeqAt.EqAt.none_str b t
    | _ => exact absurd (show false = true from fx) Bool.false_ne_true
  | bl a =>
    cases ry
    cases x with
    | non => cases rx; exact SeqAt.EqAt.bool_none a
    | bl b => cases rx; exact SeqAt.EqAt.bool_bool a b
    | int b => obtain ⟨t, rfl⟩ := rx; exact SeqAt.EqAt.bool_int a b t
    | str b => obtain ⟨t, rfl⟩ := rx; exact SeqAt.EqAt.bool_str a b t
    | _ => exact absurd (show false = true from fx) Bool.false_ne_true
  | int a =>
    obtain ⟨t', rfl⟩ := ry
    cases x with
    | non => cases rx; exact SeqAt.EqAt.int_none a t'
    | bl b => cases rx; exact SeqAt.EqAt.int_bool a t' b
    | int b => obtain ⟨t, rfl⟩ := rx; exact SeqAt.EqAt.int_int a t' b t
    | str b => obtain ⟨t, rfl⟩ := rx; exact SeqAt.EqAt.int_str a t' b t
    | _ => exact absurd (show false = true from fx) Bool.false_ne_true
  | str a =>
    obtain ⟨t', rfl⟩ := ry
    cases x with
    | non => cases rx; exact SeqAt.EqAt.str_none a t'
    | bl b => cases rx; exact SeqAt.EqAt.str_bool a t' b
    | int b => obtain ⟨t, rfl⟩ := rx; exact SeqAt.EqAt.str_int a t' b t
    | str b => obtain ⟨t, rfl⟩ := rx; exact SeqAt.EqAt.str_str a t' b t
    | _ => exact absurd (show false = true from fx) Bool.false_ne_true
  | _ => exact absurd (show false = true from fy) Bool.false_ne_true
def eqU (x : V) (u : Value) : Bool := match u with
  | .none => eqV .non x
  | .bool b => eqV (.bl b) x
  | .int i _ => eqV (.int i) x
  | .str z _ => eqV (.str z) x
  | _ => false
theorem eqU_of {x y : V} {u : Value} (r : RelV y u) (f : flatV y = true) : eqU x u = eqV y x := by
  cases y with
  | non => cases r; rfl
  | bl b => cases r; rfl
  | int i => obtain ⟨t, rfl⟩ := r; rfl
  | str z => obtain ⟨t, rfl⟩ := r; rfl
  | _ => exact absurd (show false = true from f) Bool.false_ne_true
theorem any_eqU {x : V} : ∀ {xs : List V} {us : List Value}, Vals xs us → xs.all flatV = true → us.any (eqU x) = xs.any fun y => eqV y x
  | _, _, .nil, _ => rfl
  | y :: xs, u :: us, .cons r t, f => by
    rw [List.all_cons, Bool.and_eq_true] at f
    rw [List.any_cons, List.any_cons, eqU_of r f.1, any_eqU t f.2]
theorem mem_eqAt {A : Around} {s : Shared} {x : V} {v : Value} (rx : RelV x v) (fx : flatV x = true) : ∀ {xs : List V} {us : List Value}, Vals xs us → xs.all flatV = true → ∀ u ∈ us, SeqAt.EqAt A s u v (eqU x u)
  | _, _, .nil, _ => fun u hu => by cases hu
  | y :: xs, u :: us, .cons r t, f => fun u' hu => by
    rw [List.all_cons, Bool.and_eq_true] at f
    rcases List.mem_cons.mp hu with rfl | hu
    · rw [eqU_of r f.1]; exact eqAt_V r rx f.1 fx
    · exact mem_eqAt rx fx t f.2 u' hu
def inV (x : V) (xs : List V) : Bool := xs.any fun y => eqV y x
def rIn (K : PySem.W.Frag) (neg : Bool) : R2 := fun x y H Q => ∃ p xs, y = .ref p ∧ (SqL K H p xs ∨ SqT K H p xs) ∧ flatV x = true ∧ xs.all flatV = true ∧ Q (.bl (if neg then !inV x xs else inV x xs)) H
theorem op_in_seq : OpR X (compareOp .In) (rIn X.K false) := by
  intro pins s σ H x y v u Q I rx ry h
  obtain ⟨p, xs, rfl, hq, fx, fs, q⟩ := h
  cases ry
  rcases hq with hq | hq
  · obtain ⟨its, r, pl, hz⟩ := I.list hq
    refine SeqAt.in_listAt (eqU x) pl.isList (fun w hw => mem_eqAt rx fx r fs w (by simpa using hw)) ⟨.bl _, H, I, rfl, ?_⟩
    rw [show its.toArray.any (eqU x) = its.any (eqU x) by simp, any_eqU r fs]
    exact q
  · obtain ⟨its, r, pl, hz⟩ := I.tuple hq
    refine SeqAt.in_tupleAt (eqU x) pl (fun w hw => mem_eqAt rx fx r fs w (by simpa using hw)) ⟨.bl _, H, I, rfl, ?_⟩
    rw [show its.toArray.any (eqU x) = its.any (eqU x) by simp, any_eqU r fs]
    exact q
theorem op_notIn_seq : OpR X (compareOp .NotIn) (rIn X.K true) := by
  intro pins s σ H x y v u Q I rx ry h
  obtain ⟨p, xs, rfl, hq, fx, fs, q⟩ := h
  cases ry
  rcases hq with hq | hq
  · obtain ⟨its, r, pl, hz⟩ := I.list hq
    refine SeqAt.notIn_listAt (eqU x) pl.isList (fun w hw => mem_eqAt rx fx r fs w (by simpa using hw)) ⟨.bl _, H, I, rfl, ?_⟩
    rw [show its.toArray.any (eqU x) = its.any (eqU x) by simp, any_eqU r fs]
    exact q
  · obtain ⟨its, r, pl, hz⟩ := I.tuple hq
    refine SeqAt.notIn_tupleAt (eqU x) pl (fun w hw => mem_eqAt rx fx r fs w (by simpa using hw)) ⟨.bl _, H, I, rfl, ?_⟩
    rw [show its.toArray.any (eqU x) = its.any (eqU x) by simp, any_eqU r fs]
    exact q
theorem op_notIn_str : OpR X (compareOp .NotIn) (fun x y H Q => ∃ i j, x = .str i ∧ y = .str j ∧ Q (.bl (!(!(Builtin.Str.occurrences j i 0 j.length 1).isEmpty))) H) := by
  intro pins s σ H x y v u Q I rx ry h
  obtain ⟨i, j, rfl, rfl, q⟩ := h
  obtain ⟨t, rfl⟩ := rx
  obtain ⟨t', rfl⟩ := ry
  exact notIn_str ⟨.bl _, H, I, rfl, q⟩
theorem call_tuple_of : CallR X (.type "tuple") (fun xs H Q => ∃ p ys, xs = [.ref p] ∧ ((SqL X.K H p ys ∧ ∀ l, H l = none → Q (.ref l) (upd H l (.tup ys))) ∨ (SqT X.K H p ys ∧ Q (.ref p) H))) := by
  intro pins s σ H xs us Q I r h
  obtain ⟨p, ys, rfl, h⟩ := h
  obtain ⟨u, rfl, rx⟩ := vals1 r
  cases rx
  rcases h with ⟨hq, q⟩ | ⟨hq, q⟩
  · obtain ⟨its, r', pl, hz⟩ := I.list hq
    have hlen := r'.length
    refine call_tuple_list pl.isList (fun h' kp => ?_) (by simp only [List.size_toArray] <;> omega)
    have I1 : Inv X pins σ H { s with heap := h' } := I.kept (t' := s.toks) kp
    have I2 : Inv X pins σ (upd H h'.objs.size (.tup ys)) { s with heap := h'.push { cls := .type "tuple", data := .seq its.toArray } } :=
      I1.laid (t' := s.toks) (fun b o e => Heap.get?_push_of_some _ e) (Nat.le_refl _) (show ObjOk X.prog X.w _ _ _ (.tup ys) from ⟨hz, its, r', IsTup.new _ _⟩)
    exact ⟨.ref h'.objs.size, _, I2, rfl, q _ (I1.hok.fresh (Nat.le_refl _))⟩
  · obtain ⟨its, r', pl, hz⟩ := I.tuple hq
    exact call_tuple_same pl ⟨.ref p, H, I, rfl, q⟩
def tyV (K : PySem.W.Frag) (T : String) (x : V) (H : Hp) : Prop := match x with
  | .str _ => T = "str"
  | .int _ => T = "int"
  | .ref p => (T = "list" ∧ ∃ xs, SqL K H p xs) ∨ (T = "tuple" ∧ ∃ o, K.lookup p = some o ∧ o.cls = .type "tuple" ∧ o.dict = none) ∨
      (T = "dict" ∧ ((∃ kvs, H p = some (.dK kvs)) ∨ ∃ kvs, H p = some (.dT kvs))) ∨ (T = "set" ∧ ∃ S n, H p = some (.set S n))
  | _ => False
theorem tyV_is {pins : List (Addr × Obj)} {σ : St} {H : Hp} {s : Shared} {T : String} {x : V} {v : Value} (I : Inv X pins σ H s) (r : RelV x v) (ty : tyV X.K T x H) :
    s.TypeIs v T ∧ ∀ a, v = .ref a → ∃ ob, s.heap.get? a = some ob ∧ ob.dict = none := by
  cases x with
  | str z =>
    obtain ⟨t, rfl⟩ := r
    cases (show T = "str" from ty)
    exact ⟨typeIs_str s z t, fun _ e => nomatch e⟩
  | int i =>
    obtain ⟨t, rfl⟩ := r
    cases (show T = "int" from ty)
    exact ⟨typeIs_int s i t, fun _ e => nomatch e⟩
  | ref p =>
    cases r
    rcases ty with ⟨rfl, xs, hq⟩ | ⟨rfl, o, hk, hc, hd⟩ | ⟨rfl, hk⟩ | ⟨rfl, S, n, hk⟩
    · obtain ⟨its, _, pl, _⟩ := I.list hq
      refine ⟨pl.isList.typeIs, fun a e => ?_⟩
      cases e
      obtain ⟨o, n, e, c, hd, _⟩ := pl
      exact ⟨o, e, hd⟩
    · refine ⟨⟨o, I.kIn p o hk, hc⟩, fun a e => ?_⟩
      cases e
      exact ⟨o, I.kIn _ o hk, hd⟩
    · have z : ∃ o, s.heap.get? p = some o ∧ o.ExactDict := by
        rcases hk with ⟨kvs, hk⟩ | ⟨kvs, hk⟩
        · obtain ⟨_, _, _, _, o, _, _, e, ex, _⟩ := I.hok p _ hk
          exact ⟨o, e, ex⟩
        · obtain ⟨_, _, _, _, o, _, _, e, ex, _⟩ := I.hok p _ hk
          exact ⟨o, e, ex⟩
      obtain ⟨o, e, ex⟩ := z
      refine ⟨⟨o, e, ex.1⟩, fun a e2 => ?_⟩
      cases e2
      exact ⟨o, e, ex.2.1⟩
    · obtain ⟨o, _, _, _, e, ex, _⟩ := I.hok p _ hk
      refine ⟨⟨o, e, ex.1⟩, fun a e2 => ?_⟩
      cases e2
      exact ⟨o, e, ex.2.1⟩
  | _ => exact False.elim ty
def tBM (K : PySem.W.Frag) (T : String) (r : V → List V → Hp → VK → Prop) (to : TE) (t : TA) : TE := fun σ H Q => to σ H fun x H1 => tyV K T x H1 ∧ t σ H1 fun xs H2 => r x xs H2 Q
variable {o e : Expr} {es : List Expr} {to : TE} {t : TA} {name : Str} {apos cpos : Pos} {T id : String} {r : V → List V → Hp → VK → Prop}
theorem pe_bm (pa : PlainAttrs T) (slot : Slot T name id) (hty : typeOf (.builtin id) = pure (.type "method_descriptor")) (hm : MtR X id r) (ho : PE X o to) (ha : PA X (e :: es) t)
    (hbase : attributeBase o name X.env (eval o X.env) = eval o X.env := by rfl)
    (hfew : ((backTo cpos (starEach (e :: es) X.env)).all (fun x => !x.1) && (backToKw cpos (keywordEach [] X.env)).all (fun x => x.1.isSome)
      && decide ((e :: es).length + ([] : List Keyword).length + (if ([] : List Keyword).isEmpty then 0 else 1) < 30)) = true := by rfl)
    (hline : (apos.endLine == cpos.line) = true := by rfl) (hs : starEach (e :: es) X.env = (false, eval e X.env) :: starEach es X.env := by rfl) (hplain : (backTo cpos (starEach es X.env)).any (·.1) = false := by rfl) :
    PE X (.Call (.Attribute o name apos) (e :: es) [] cpos) (tBM X.K T r to t) := by
  intro pins s σ H Q I h
  refine wpAny_Call_method_late hbase hfew hline rfl (thn (ho pins s σ H _ I h) fun v s1 ⟨x, H1, I1, r1, ty, q1⟩ => ?_)
  obtain ⟨h1, h2⟩ := tyV_is I1 r1 ty
  refine ⟨T, id, pa, slot, hty, h1, h2, ?_⟩
  have hA := ha cpos pins s1 σ H1 _ I1 q1
  rw [hs] at hA ⊢
  refine Calls.callWith_builtin (by show (false || (backTo cpos (starEach es X.env)).any (·.1)) = false; rw [hplain] <;> rfl) (Calls.evalArgs_plain ?_)
  exact thn hA fun us s2 ⟨vs, H2, I2, r2, q2⟩ => hm pins s2 σ H2 x vs v us Q I2 r1 r2 q2
end
end L2
namespace L2
open PySem PySem.Spec PyProof.Rows
def MtM (X : Cx) (id : String) (r : V → List V → Hp → VK → Prop) : Prop :=
  ∀ (pins : List (Addr × Obj)) (s : Shared) (σ : St) (H : Hp) (x : V) (xs : List V) (v : Value) (us : List Value) (Q : VK), Inv X pins σ H s → RelV x v → Vals xs us → r x xs H Q →
    wpAny (model X.prog X.w) X.A (call (.builtin id) (v :: us)) (EP X pins σ Q) X.xe s
theorem Vals.one : ∀ {x : V} {us : List Value}, Vals [x] us → ∃ u, us = [u] ∧ RelV x u
  | _, _, .cons r .nil => ⟨_, rfl, r⟩
section
variable {X : Cx} {pins : List (Addr × Obj)} {σ : St} {H : Hp} {s : Shared} {l b : Addr} {xs ys zs : List V}
theorem Inv.lset {its its' : List Value} {n : Nat} {f : Array Value → Array Value} {t' : Nat} (I : Inv X pins σ H s) (hH : H l = some (.lst xs))
    (e : s.heap.get? l = some { cls := .type "list", data := .seq its.toArray n }) (hf : f its.toArray = its'.toArray) (hv : Vals ys its') (hz : ys.length ≤ sizeLine) :
    Inv X pins σ (upd H l (.lst ys)) { s with heap := s.heap.update l (Obj.mapSeq f), toks := t' } := by
  have q := PySem.IsL.update e f
  rw [hf] at q
  refine I.write (x := l) (e := l) (by rw [hH]; exact trivial) (.inl rfl) (fun b' u hb hu => (Heap.get?_update_other s.heap (Obj.mapSeq f) (Ne.symm hb)).trans hu) ⟨_, q⟩ ?_
  exact ⟨hz, its', _, hv, q⟩
theorem Inv.lnew {its : List Value} {t' : Nat} (I : Inv X pins σ H s) (hv : Vals ys its) (hz : ys.length ≤ sizeLine) :
    Inv X pins σ (upd H s.heap.objs.size (.lst ys)) { s with heap := s.heap.push { cls := .type "list", data := .seq its.toArray }, toks := t' } :=
  I.laid (fun _ _ q => Heap.get?_push_of_some _ q) (Nat.le_refl _) ⟨hz, its, 0, hv, Heap.get?_push_size _ rfl⟩
theorem Inv.fresh (I : Inv X pins σ H s) : H s.heap.objs.size = none := I.hok.fresh (Nat.le_refl _)
theorem Inv.lstM (I : Inv X pins σ H s) (hH : H l = some (.lst xs)) : xs.length ≤ sizeLine ∧ ∃ (its : List Value) (n : Nat), Vals xs its ∧ xs.length = its.length ∧ s.heap.get? l = some { cls := .type "list", data := .seq its.toArray n } := by
  obtain ⟨z, its, n, r, e⟩ := I.hok l _ hH
  exact ⟨z, its, n, r, r.length, e⟩
end
section
variable {X : Cx}
def rAppend : V → List V → Hp → VK → Prop := fun x vs H Q => ∃ l xs y, x = .ref l ∧ vs = [y] ∧ H l = some (.lst xs) ∧ xs.length < sizeLine ∧ Q .non (upd H l (.lst (xs ++ [y])))
theorem mt_append : MtM X "list.append" rAppend := by
  intro pins s σ H x vs v us Q I rx rv h
  obtain ⟨l, xs, y, rfl, rfl, hH, hz, q⟩ := h
  cases rx
  obtain ⟨u, rfl, ru⟩ := rv.one
  obtain ⟨z, its, n, r, hl, e⟩ := I.lstM hH
  refine call_meets F.slot_list_append ⟨_, e, rfl⟩ F.entry_list_append (F.args_list_append_2 _ _) (PySem.list_append l its.toArray n u (by rw [List.size_toArray]; omega)) ⟨e, ?_⟩
  refine ⟨.non, _, I.lset (its' := its ++ [u]) hH e (by simp) (r.append (.cons ru .nil)) ?_, rfl, q⟩
  rw [List.length_append, List.length_singleton]
  omega
def rCat : R2 := fun x y H Q => ∃ l b xs zs, x = .ref l ∧ y = .ref b ∧ H l = some (.lst xs) ∧ H b = some (.lst zs) ∧ xs.length + zs.length ≤ sizeLine ∧ ∀ p, H p = none → Q (.ref p) (upd H p (.lst (xs ++ zs)))
theorem op_cat : OpR X (binaryOp .Add) rCat := by
  intro pins s σ H x y v u Q I rx ry h
  obtain ⟨l, b, xs, zs, rfl, rfl, hH, hB, hz, q⟩ := h
  cases rx
  cases ry
  obtain ⟨z, its, n, r, hl, e⟩ := I.lstM hH
  obtain ⟨z2, its2, n2, r2, hl2, e2⟩ := I.lstM hB
  refine PySem.P.add_list e e2 ?_ (by rw [List.size_toArray, List.size_toArray]; omega)
  have ea : its.toArray ++ its2.toArray = (its ++ its2).toArray := by simp
  rw [ea]
  exact ⟨.ref _, _, I.lnew (t' := s.toks) (r.append r2) (by rw [List.length_append]; omega), rfl, q _ I.fresh⟩
end
section
variable {prog : Program} {w : World} {A : Around} {E : Value → Shared → Prop} {s : Shared}
end
section
variable {X : Cx}
end
end L2
namespace Att
open PySem PySem.W PySem.Calls PyProof.Rows
theorem ints_of_wellAll {P : Params} {h : Heap} : ∀ (ns : List Int) (vs : List Value), WellAll P h vs (ns.map WData.int) → IntsAre vs ns := by
  intro ns
  induction ns with
  | nil =>
    intro vs w
    rw [List.map_nil] at w
    cases w
    exact .nil
  | cons n ns ih =>
    intro vs w
    rw [List.map_cons] at w
    cases w with
    | cons a b =>
      cases a
      exact .cons _ _ (ih _ b)
theorem script_of {l : OpenLaw} {n : Nat} (hn : l.most = some n) {P : Params} {h : Heap} {args : List WData} {vals : List Value}
    (hpre : l.row.toRowW.claim.pre args = true) (hwl : WellAll P h vals args) :
    ∃ a vs ns, vals = [Value.ref a] ∧ args = [WData.list (ns.map WData.int)] ∧ h.get? a = some { cls := .type "list", data := .seq vs.toArray } ∧ IntsAre vs ns ∧ ns.length ≤ n := by
  have hsh : WShape.hasAll [] args [.list .int] = true := (pre_splitW hpre).1
  have hc : l.pre.holds [] { args := args } = true := (pre_splitW hpre).2
  obtain ⟨d, r, rfl, h1, h2⟩ := hasAllW_cons hsh
  obtain rfl := hasAllW_nil h2
  obtain ⟨xs, rfl, h3⟩ := hasW_list h1
  obtain ⟨ns, rfl⟩ := items_int h3
  have hlen : ns.length ≤ n := by
    unfold OpenLaw.pre at hc
    have h4 : (WTm.not (.lt (.lit (.int (n : Int))) (.len (.arg 0)))).holds [] { args := [.list (ns.map .int)] } = true := by
      have h4 := (holds_andW hc).1
      rw [hn] at h4
      exact h4
    have h5 := condW_of h4 (w_not (w_lt w_lit (w_len_list (w_arg rfl))))
    rw [List.length_map] at h5
    refine Nat.le_of_not_lt fun q => ?_
    have q' : (n : Int) < ((ns.length : Nat) : Int) := by omega
    first
      | (rw [decide_eq_true q'] at h5; exact absurd h5 (by decide))
      | (simp at h5; omega)
  cases hwl with
  | cons w1 w2 =>
    cases w2
    cases w1 with
    | list ho hall => exact ⟨_, _, ns, rfl, rfl, ho, ints_of_wellAll ns _ hall, hlen⟩
theorem post_true (l : OpenLaw) (args : List WData) : l.row.toRowW.claim.post args (.bool true) args = true :=
  postW_of (r := l.row.toRowW) (X := (true == true))
    (show WShape.has [] (.bool true) .bool = true by first | rfl | decide | simp [WShape.has, WShape.arms, WShape.armsAll])
    (show (WTm.eq .res (.lit (.bool true))).value [] { args := args, res := some (.bool true), after := args } = some (.bool (true == true)) from w_eq_bool (w_res rfl) w_lit) rfl
theorem attach_call {l : OpenLaw} {n : Nat} {q : Program} {loose : List Str} {XP : (Str → Option Value) → Heap → Prop} {YP : World → Heap → Prop} {d : DefRec}
    (hn : l.most = some n) (hdf : d.params.defaults = [])
    (call : ∀ (w : World) (s₀ s₁ : Shared) (mg mb : Str → Option Value) (fa : Addr) (o : Obj) (pm cd doc : Value) (a : Addr) (vs : List Value) (ns : List Int),
      Ground q loose [] XP w s₀ mg mb s₁.heap → YP w s₁.heap →
      s₁.heap.get? fa = some o → o.data = .func (docDef d.name d.params d.body d.scope pm cd doc) → s₁.heap.CodeRec cd d.name → mg d.name = some (.ref fa) →
      s₁.heap.get? a = some { cls := .type "list", data := .seq vs.toArray } → IntsAre vs ns → ns.length ≤ n → s₁.gens = #[] →
      codeAny (model l.prog w) callerA (.call (.ref fa) ⟨[.ref a], []⟩) (fun r s' => r = .ok (.ret (.bool true)) ∧ OldK s₁.heap s'.heap ∧ s'.os = s₁.os ∧ AllBare s'.gens) s₁) :
    WalkO q loose XP YP l.row.toRowW d [] (fun f vs => PySem.call f vs) := by
  intro w s₀ s₁ mg mb G Y fa o pm cd doc dV kV ho hd hcd hD hmg hg args vals as hpre hlay hrd hwl hlo
  obtain rfl : dV = .none := Dflts.none hD hdf
  obtain rfl : kV = .none := Dflts.noKw hD
  obtain ⟨a, vs, ns, rfl, rfl, hobj, hints, hlen⟩ := script_of hn hpre hwl
  refine enter_call (codeAny_mono (call w s₀ s₁ mg mb fa o pm cd doc a vs ns G Y ho (fd_plain hd) hcd hmg hobj hints hlen hg) fun r s' hq => ?_)
  obtain ⟨rfl, h2, h3, h4⟩ := hq
  exact ⟨.inl ⟨.bool true, .bool true, [], rfl, fun _ => rfl, .bool true, post_true l _, fun _ => ⟨List.Pairwise.nil, fun _ hm => (nomatch hm)⟩⟩, h2, h3, h4⟩
section
variable {prog : Program} {w : World} {A : Around} {E : Value → Shared → Prop} {s : Shared} {K : Frag}
end
end Att
namespace L2
open PySem PySem.Spec PyProof.Rows
theorem vals_ints : ∀ {vs : List Value} {ns : List Int}, IntsAre vs ns → Vals (ns.map V.int) vs
  | _, _, .nil => .nil
  | _, _, .cons n t h => .cons ⟨t, rfl⟩ (vals_ints h)
def Only (H : Hp) : Prop := ∀ b, H b = none ∨ ∃ o xs, H b = some (.frz o (.lst xs))
theorem law_call {P : Program} {w : World} {K : PySem.W.Frag} {mg mb : Str → Option Value} {CX : CXT} {k : Nat} {fa a : Addr} {fd : FuncData} {x : Str} {sp : Sp} {s₁ : Shared} {vs : List Value} {ns : List Int}
    (KX : K.In s₁.heap) (hns : s₁.heap.Ns mainGlobals mg) (hb : s₁.heap.Ns builtinsNs mb) (hbb : ∀ x : Str, x ≠ "__name__" → mb x = bootBuiltins x) (hlim : s₁.heap.NoLimit) (hg : s₁.gens = #[])
    (ha : s₁.heap.get? a = some { cls := .type "list", data := .seq vs.toArray }) (hi : IntsAre vs ns) (hl : ns.length ≤ sizeLine) (hr : Room k callerA)
    (F : ∀ base : Heap, K.In base → base.Ns mainGlobals mg → FnOk P w K mg base CX k fa fd [x] sp) (hbind : ∀ (s : Shared) (u : Value), BindsTo s fd ⟨[u], []⟩ [(x, u)])
    (hsp : ∀ H : Hp, Only H → SqL K H a (ns.map V.int) → sp [.ref a] H (fun v _ => v = .bl true) fun _ _ _ => False)
    (hCX : ∀ H e s', CX [] H s₁ (fun _ _ _ => False) e s' → False) :
    codeAny (model P w) callerA (.call (.ref fa) ⟨[.ref a], []⟩) (fun r s' => r = .ok (.ret (.bool true)) ∧ OldK s₁.heap s'.heap ∧ s'.os = s₁.os ∧ AllBare s'.gens) s₁ := by
  have rv := vals_ints hi
  have lenV := hi.length
  have core : ∀ H : Hp, Only H → SqL K H a (ns.map V.int) → HOk P w H s₁.heap → (∀ b, H b ≠ none → b = a) → (H a ≠ none → K.lookup a = none) →
      codeAny (model P w) callerA (.call (.ref fa) ⟨[.ref a], []⟩) (fun r s' => r = .ok (.ret (.bool true)) ∧ OldK s₁.heap s'.heap ∧ s'.os = s₁.os ∧ AllBare s'.gens) s₁ := by
    intro H hO hS hok hA hK
    have base_of : ∀ {b : Addr} {o : Obj}, s₁.heap.get? b = some o → H b = none → (hidT s₁.heap H).get? b = some o := fun e n => hidT_get e n
    have noA : ∀ {b : Addr} {o : Obj} {es : Array DictEntry} {ep : Nat}, s₁.heap.get? b = some o → o.data = .dict es ep → H b = none := fun {b o es ep} e d => by
      cases q : H b with
      | none => rfl
      | some u =>
        have e' : b = a := hA b (by rw [q]; simp)
        subst e'
        rw [ha] at e; cases e
        have d' : Data.seq vs.toArray _ = Data.dict es ep := d
        cases d'
    have nsK : ∀ {b : Addr} {m : Str → Option Value}, s₁.heap.Ns b m → (hidT s₁.heap H).Ns b m := fun {b m} ⟨o, es, ep, e, d, r⟩ => ⟨o, es, ep, base_of e (noA e d), d, r⟩
    have hKb : K.In (hidT s₁.heap H) := fun b o e => base_of (KX b o e) (by
      cases q : H b with
      | none => rfl
      | some u =>
        have e' : b = a := hA b (by rw [q]; simp)
        subst e'
        rw [hK (by rw [q]; simp)] at e; cases e)
    have hM : Mod K mg (hidT s₁.heap H) := ⟨hKb, nsK hns, ⟨mb, nsK hb, hbb⟩, let ⟨mc, h1, h2⟩ := hlim; ⟨mc, nsK h1, h2⟩⟩
    have e0 : Env0 P w K mg (hidT s₁.heap H) callerA [] s₁ H := ⟨rfl, hM, fun b o e => of_hidT e, Nat.le_of_eq (hidT_size _ _), trivial, fun b hb => absurd (show b ∈ ([] : List Addr) from hb) (by simp), hok, .of_eq hg⟩
    refine codeAny_mono ((F _ hKb (nsK hns)).run callerA [] s₁ H ⟨[.ref a], []⟩ [.ref a] [.ref a] _ _ hr e0 (hbind s₁ (.ref a)) (.cons rfl .nil) (hsp H hO hS)) fun r s' h => ?_
    cases r with
    | error e => exact (hCX H e s' h).elim
    | ok fl =>
      cases fl with
      | next => exact False.elim h
      | brk => exact False.elim h
      | cont => exact False.elim h
      | ret u =>
        obtain ⟨v, H', os, bare, un, hok', r', q⟩ := h
        have q' : v = .bl true := q
        subst q'
        obtain rfl : u = Value.bool true := r'
        refine ⟨rfl, OldK.of_keep fun b o e => ?_, os, bare⟩
        cases q : H b with
        | none => exact un.keep b o e q (by intro z; exact absurd (show b ∈ ([] : List Addr) from z) (by simp)) (by simp)
        | some u =>
          rcases hO b with z | ⟨ob, xs, z⟩
          · rw [q] at z; cases z
          · have z2 := un.frzs b ob _ z
            obtain ⟨e1, _⟩ := hok b _ z
            obtain ⟨e2, _⟩ := hok' b _ z2
            rw [e] at e1; cases e1
            exact e2
  cases hk : K.lookup a with
  | some o =>
    have e := KX a o hk
    rw [ha] at e
    cases e
    refine core (fun _ => none) (fun _ => .inl rfl) (.inr ⟨_, vs.toArray, _, hk, rfl, rfl, rfl, by rw [List.size_toArray, lenV]; exact hl, by simpa using rv⟩) (fun b u z => by have z' : (none : Option HO) = some u := z; cases z') (fun b z => absurd rfl z) fun z => absurd rfl z
  | none =>
    refine core (fun b => if b = a then some (.frz { cls := .type "list", data := .seq vs.toArray } (.lst (ns.map V.int))) else none) (fun b => ?_) (.inl (.inr ⟨{ cls := .type "list", data := .seq vs.toArray }, if_pos rfl⟩)) (fun b u z => ?_) (fun b z => ?_) fun _ => hk
    · by_cases hb : b = a
      · exact .inr ⟨_, _, if_pos hb⟩
      · exact .inl (if_neg hb)
    · by_cases hb : b = a
      · have z' := (if_pos hb).symm.trans z
        cases z'
        subst hb
        exact ⟨ha, by rw [List.length_map]; exact hl, vs, _, rv, ha⟩
      · have z' := (if_neg hb).symm.trans z
        cases z'
    · by_cases hb : b = a
      · exact hb
      · exact absurd (if_neg hb) z
end L2
namespace L2
open PySem PySem.Spec PyProof.Rows
theorem walk_of {l : PySem.W.OpenLaw} {n k : Nat} {q : Program} {loose : List Str} {XP : (Str → Option Value) → Heap → Prop} {YP : World → Heap → Prop} {d : DefRec} {K : Params → PySem.W.Frag} {CX : World → CXT} {sp : World → Sp} {x : Str}
    (hn : l.most = some n) (hn2 : n ≤ sizeLine) (hdf : d.params.defaults = []) (hr : Room k callerA)
    (hY : ∀ (w : World) (h : Heap), YP w h → (K w.params).In h)
    (F : ∀ (w : World) (mg : Str → Option Value) (fa : Addr) (h : Heap), (K w.params).In h → h.Ns mainGlobals mg → mg d.name = some (.ref fa) →
      ∃ fd : FuncData, (∀ (s : Shared) (u : Value), BindsTo s fd ⟨[u], []⟩ [(x, u)]) ∧
        ∀ base : Heap, (K w.params).In base → base.Ns mainGlobals mg → FnOk l.prog w (K w.params) mg base (CX w) k fa fd [x] (sp w))
    (hsp : ∀ (w : World) (H : Hp) (a : Addr) (ns : List Int), ns.length ≤ n → Only H → SqL (K w.params) H a (ns.map V.int) → sp w [.ref a] H (fun v _ => v = .bl true) fun _ _ _ => False)
    (hCX : ∀ (w : World) (H : Hp) (s : Shared) (e : Value) (s' : Shared), CX w [] H s (fun _ _ _ => False) e s' → False) :
    PySem.W.WalkO q loose XP YP l.row.toRowW d [] (fun f vs => PySem.call f vs) := by
  refine Att.attach_call hn hdf fun w s₀ s₁ mg mb fa o pm cd doc a vs ns G Y ho hd hcd hmg hobj hints hlen hg => ?_
  have KX := hY w _ Y
  obtain ⟨fd, hb, hF⟩ := F w mg fa _ KX G.T.g hmg
  exact law_call KX G.T.g G.T.b G.T.builtins G.T.nolimit hg hobj hints (Nat.le_trans hlen hn2) hr hF hb (fun H hO hS => hsp w H a ns hlen hO hS) fun H e s' => hCX w H s₁ e s'
end L2
namespace L2
open PySem PySem.Spec PyProof.Rows
def defArgs (s : Stmt) : Arguments := match s with
  | .FunctionDef _ a _ _ _ _ _ _ _ _ => a
  | _ => { posonlyargs := [], args := [], vararg := none, kwonlyargs := [], kw_defaults := [], kwarg := none, defaults := [] }
def defBody (s : Stmt) : List Stmt := match s with
  | .FunctionDef _ _ b _ _ _ _ _ _ _ => b
  | _ => []
def defScope (s : Stmt) : Scope := match s with
  | .FunctionDef _ _ _ _ _ _ sc _ _ _ => sc
  | _ => { kind := .function, names := [], isGenerator := false, isCoroutine := false }
abbrev CX0 : CXT := fun _ _ _ _ _ _ => False
abbrev E0 : XK := fun _ _ _ => False
theorem pass0 {X : Cx} : Passes CX0 X E0 := fun _ _ _ _ _ _ _ h => h.elim
structure Fun (K : PySem.W.Frag) (x qual : Str) (st : Stmt) (f : Addr) (fd : FuncData) : Prop where
  ex : ∃ (oc : Value) (od : Option Addr) (kV doc pm : Value) (an : Option Addr) (cdv ct : Value) (osl : Array (Option Value)),
    fd = PySem.W.fnOf x qual (defArgs st) (defBody st) (defScope st) .none kV doc pm an cdv ct ∧ K.lookup f = some ⟨oc, od, .func fd, osl⟩ ∧ PySem.W.codeIn K cdv qual = true
  kp : PySem.W.keepIn K (.ref f) = true
section
variable {P : Program} {w : World} {K : PySem.W.Frag} {mg : Str → Option Value} {base : Heap}
theorem Fun.ok {x qual : Str} {st : Stmt} {f : Addr} {fd : FuncData} {N ps : List Str} {k : Nat} {sp : Sp} (F : Fun K x qual st f fd) (S : FnScope N ps (defScope st)) (len : ∀ vs H Q E, sp vs H Q E → vs.length = ps.length)
    (hbody : ∀ (cdv : Value) (A : Around) (outer : List Env) (s : Shared) (H : Hp) (vs : List V) (Q : VK) (E : XK), Room k (A.deeper (envOfC qual (defScope st) s.heap.objs.size f cdv)) → sp vs H Q E →
      ∃ t, PSs (cxOf CX0 P w K mg base N qual (defScope st) f cdv A outer s H E).nox (defBody st) t ∧ t { nx := fun _ H' => Q .non H', rt := Q } (start N vs) H) : FnOk P w K mg base CX0 (k + 1) f fd ps sp := by
  obtain ⟨oc, od, kV, doc, pm, an, cdv, ct, osl, rfl, lk, hcd⟩ := F.ex
  refine fn_of lk hcd S len fun A outer s H vs Q E hr hsp => ?_
  obtain ⟨t, h, q⟩ := hbody cdv A outer s H vs Q E hr hsp
  exact ⟨t, h.nox, q⟩
theorem Fun.binds {x qual : Str} {st : Stmt} {f : Addr} {fd : FuncData} {ps : List Str} (F : Fun K x qual st f fd)
    (h : ∀ (kV doc pm : Value) (an : Option Addr) (cdv ct : Value) (us : List Value), us.length = ps.length → bindArgs (PySem.W.fnOf x qual (defArgs st) (defBody st) (defScope st) .none kV doc pm an cdv ct) ⟨us, []⟩ = pure (ps.zip us)) : Binds K fd ps [] := by
  obtain ⟨oc, od, kV, doc, pm, an, cdv, ct, osl, rfl, lk, hcd⟩ := F.ex
  exact .all (h kV doc pm an cdv ct)
theorem fun_mk {x qual : Str} {st : Stmt} {f : Addr} {oc : Value} {od an : Option Addr} {osl : Array (Option Value)} {kV doc pm cdv ct : Value} (l : K.lookup f = some ⟨oc, od, .func (PySem.W.fnOf x qual (defArgs st) (defBody st) (defScope st) .none kV doc pm an cdv ct), osl⟩)
    (c : PySem.W.codeIn K cdv qual = true) (k : PySem.W.keepIn K (.ref f) = true) : Fun K x qual st f (PySem.W.fnOf x qual (defArgs st) (defBody st) (defScope st) .none kV doc pm an cdv ct) := ⟨⟨oc, od, kV, doc, pm, an, cdv, ct, osl, rfl, l, c⟩, k⟩
end
section
variable {X : Cx}
theorem pv (i : Nat) {x : Str} {pos : Pos} (hN : X.N[i]? = some x := by rfl) (hv : Vis X.env.scope x := by first | exact Or.inl rfl | exact Or.inr (Or.inl rfl) | exact Or.inr (Or.inr rfl)) (hd : (x == ("__debug__" : Str)) = false := by decide)
    (hcd : (x == ("__classdict__" : Str)) = false := by decide) : PE X (.Name x pos) (tVar i) := pe_var hN hv hd hcd
end
theorem ite2 {c A B : Prop} [Decidable c] (h1 : c → A) (h2 : ¬ c → B) : if c then A else B := by
  by_cases h : c
  · rw [if_pos h]
    exact h1 h
  · rw [if_neg h]
    exact h2 h
def Same (H H' : Hp) : Prop := ∀ b o, H b = some o → H' b = some o
theorem Same.refl (H : Hp) : Same H H := fun _ _ h => h
theorem Same.trans {H H1 H2 : Hp} (a : Same H H1) (b : Same H1 H2) : Same H H2 := fun c o h => b c o (a c o h)
theorem Same.free {H H' : Hp} (e : Same H H') {l : Addr} (h : H' l = Option.none) : H l = Option.none := by
  cases q : H l with
  | none => rfl
  | some o =>
    rw [e l o q] at h
    cases h
theorem Same.seq {K : PySem.W.Frag} {H H' : Hp} {a : Addr} {xs : List V} (e : Same H H') (h : SqL K H a xs) : SqL K H' a xs := by
  rcases h with (h | ⟨o, h⟩) | h
  · exact .inl (.inl (e _ _ h))
  · exact .inl (.inr ⟨o, e _ _ h⟩)
  · exact .inr h
end L2
namespace L2
open PySem PySem.Spec PyProof.Rows
theorem wpAny_unpure {α β : Type} {M : Model} {A : Around} {a : α} {Q : α → Shared → Prop} {E : Value → Shared → Prop} {s : Shared} {t2 : Sem β} {Q2 : β → Shared → Prop} {E2 : Value → Shared → Prop}
    (h : wpAny M A (pure a : Sem α) Q E s) (k : Q a s → wpAny M A t2 Q2 E2 s) : wpAny M A t2 Q2 E2 s := fun Γ p hΓ => k (h Γ p hΓ) Γ p hΓ
def PTs (X : Cx) (ifs : List Expr) (t : TT) : Prop :=
  ∀ (pins : List (Addr × Obj)) (s : Shared) (σ : St) (H : Hp) (Q : Bool → Hp → Prop), Inv X pins σ H s → t σ H Q →
    wpAny (model X.prog X.w) X.A (forIn ifs true fun c r => if r = true then do let ok ← isTrue c X.env (eval c X.env); pure (ForInStep.yield ok) else pure (ForInStep.yield r)) (TP X pins σ Q) X.xe s
def tNoTest : TT := fun _ H Q => Q true H
theorem pts_nil {X : Cx} : PTs X [] tNoTest := fun _ _ _ H _ I h => wpAny_tests_nil ⟨H, I, h⟩
theorem pts_one {X : Cx} {c : Expr} {t : TT} (h : PT X c t) : PTs X [c] t := fun pins s σ H Q I hq => wpAny_tests_one (h pins s σ H Q I hq)
def clOf (cells : List (Str × Addr)) (names : List (Str × NameKind)) (acc : List (Str × Addr)) : List (Str × Addr) :=
  match names with
  | [] => acc
  | (n, k) :: r => clOf cells r (if k == .free then (n, (cells.lookup n).getD 0) :: acc else acc)
theorem closure_loop {env : Env} : ∀ (names : List (Str × NameKind)) (acc : List (Str × Addr)), (∀ y ∈ names, y.2 = .free → ∃ c, env.cells.lookup y.1 = some c) →
    (forIn names acc fun (x : Str × NameKind) (r : List (Str × Addr)) => if (x.2 == .free) = true then (do let a ← cellOf env x.1; pure (ForInStep.yield ((x.1, a) :: r)) : Sem (ForInStep (List (Str × Addr)))) else pure (ForInStep.yield r)) = (pure (clOf env.cells names acc) : Sem (List (Str × Addr)))
  | [], acc, _ => rfl
  | (n, k) :: r, acc, h => by
    have ih := closure_loop (env := env) r
    rw [List.forIn_cons]
    by_cases hk : (k == NameKind.free) = true
    · obtain ⟨c, hc⟩ := h (n, k) List.mem_cons_self (by simpa using hk)
      have hc' : cellOf env n = pure c := by unfold cellOf; rw [hc]
      dsimp only
      rw [if_pos hk, hc']
      have e : clOf env.cells ((n, k) :: r) acc = clOf env.cells r ((n, c) :: acc) := by
        show clOf env.cells r (if (k == NameKind.free) = true then (n, (env.cells.lookup n).getD 0) :: acc else acc) = _
        rw [if_pos hk, hc]; rfl
      rw [e, ← ih ((n, c) :: acc) fun y hy => h y (List.mem_cons_of_mem _ hy)]
      rfl
    · dsimp only
      rw [if_neg hk]
      have e : clOf env.cells ((n, k) :: r) acc = clOf env.cells r acc := by
        show clOf env.cells r (if (k == NameKind.free) = true then (n, (env.cells.lookup n).getD 0) :: acc else acc) = _
        rw [if_neg hk]
      rw [e, ← ih acc fun y hy => h y (List.mem_cons_of_mem _ hy)]
      rfl
theorem closureFor_some {scope : Scope} {env : Env} (h : ∀ y ∈ scope.names, y.2 = .free → ∃ c, env.cells.lookup y.1 = some c) : closureFor scope env = pure (clOf env.cells scope.names []) := by
  unfold closureFor
  have e := closure_loop (env := env) scope.names [] h
  first
    | exact e
    | (simp only [bind_pure_comp, map_pure] at *; exact e)
    | (rw [← e]; simp)
theorem clOf_mem {cells : List (Str × Addr)} : ∀ (names : List (Str × NameKind)) (acc : List (Str × Addr)) (p : Str × Addr), (∀ y ∈ names, y.2 = .free → ∃ c, cells.lookup y.1 = some c) → p ∈ clOf cells names acc → p ∈ acc ∨ (cells.lookup p.1 = some p.2 ∧ (p.1, NameKind.free) ∈ names)
  | [], acc, p, _, h => .inl h
  | (n, k) :: r, acc, p, hn, h => by
    have h' : p ∈ clOf cells r (if (k == NameKind.free) = true then (n, (cells.lookup n).getD 0) :: acc else acc) := h
    rcases clOf_mem r _ p (fun y hy => hn y (List.mem_cons_of_mem _ hy)) h' with q | ⟨q1, q2⟩
    · by_cases hk : (k == NameKind.free) = true
      · rw [if_pos hk] at q
        rcases List.mem_cons.mp q with e | q
        · have hk' : k = .free := by simpa using hk
          obtain ⟨c, hc⟩ := hn (n, k) List.mem_cons_self hk'
          subst e
          refine .inr ⟨?_, ?_⟩
          · show cells.lookup n = some ((cells.lookup n).getD 0)
            have hc' : cells.lookup n = some c := hc
            rw [hc']; rfl
          · rw [← hk']; exact List.mem_cons_self
        · exact .inl q
      · rw [if_neg hk] at q
        exact .inl q
    · exact .inr ⟨q1, List.mem_cons_of_mem _ q2⟩
theorem clOf_has {cells : List (Str × Addr)} : ∀ (names : List (Str × NameKind)) (acc : List (Str × Addr)) (n : Str), ((n, NameKind.free) ∈ names ∨ ∃ c, (n, c) ∈ acc) → ∃ c, (n, c) ∈ clOf cells names acc
  | [], acc, n, h => by
    rcases h with h | h
    · cases h
    · exact h
  | (m, k) :: r, acc, n, h => by
    show ∃ c, (n, c) ∈ clOf cells r (if (k == NameKind.free) = true then (m, (cells.lookup m).getD 0) :: acc else acc)
    refine clOf_has r _ n ?_
    rcases h with h | ⟨c, h⟩
    · rcases List.mem_cons.mp h with e | h
      · injection e with e1 e2
        subst e1; subst e2
        exact .inr ⟨_, by rw [if_pos (show (NameKind.free == NameKind.free) = true from rfl)]; exact List.mem_cons_self⟩
      · exact .inl h
    · refine .inr ⟨c, ?_⟩
      split
      · exact List.mem_cons_of_mem _ h
      · exact h
theorem lookup_of_mem {α : Type} {n : Str} {c : α} : ∀ {l : List (Str × α)}, (n, c) ∈ l → ∃ d, l.lookup n = some d ∧ (n, d) ∈ l
  | (m, d) :: r, h => by
    by_cases e : n = m
    · subst e
      exact ⟨d, by simp [List.lookup_cons], List.mem_cons_self⟩
    · rcases List.mem_cons.mp h with q | q
      · injection q with q1 _
        exact absurd q1 e
      · obtain ⟨d', h1, h2⟩ := lookup_of_mem q
        refine ⟨d', ?_, List.mem_cons_of_mem _ h2⟩
        rw [List.lookup_cons]
        have : (n == m) = false := beq_eq_false_iff_ne.mpr e
        rw [this]; exact h1
structure CompScope (N : List Str) (sc scope : Scope) (x : Str) (caps : List Nat) (ns : List Str) : Prop where
  cell : ∀ y ∈ scope.names, y.2 ≠ .cell
  kind : scope.kind = .function
  names : ∀ y ∈ scope.names, y.2 = .local → scope.names.lookup y.1 = some .local
  var : scope.names.lookup x = some .local
  free : ∀ y ∈ scope.names, y.2 = .free → sc.names.lookup y.1 = some .cell ∨ sc.names.lookup y.1 = some .free
  at_ : caps.map (fun j => N[j]?) = ns.map some
  nsf : ∀ y ∈ ns, scope.names.lookup y = some .free
  nd : (x :: ns).Nodup
def Cx.comp (X : Cx) (N' : List Str) (scope : Scope) (cl : List (Str × Addr)) (C : Addr) (s : Shared) (H : Hp) (fp : List Addr) : Cx :=
  { X with N := N', s₀ := s, H₀ := H, env := compEnvC scope cl C X.env, outer := X.stack, ex := fp, fn := fun _ => false, xe := fun _ _ => False }
def capσ (caps : List Nat) (σ : St) (v : Option V) : St := v :: caps.map fun j => (σ[j]?).getD none
def tCompR (wi : TI) (caps : List Nat) (tt : TT) (te : TE) (σ : St) (H : Hp) (R : List V → Hp → Prop) : Prop := wi σ H fun J H1 => ∃ W : Nat → Nat → List V → Hp → Prop, (∃ m, W 0 m [] H1) ∧ ∀ i m ys H, W i m ys H →
  ys.length ≤ sizeLine ∧ ((J.stop i H ∧ R ys H) ∨ (J.go i H ∧ ∃ N : List V → Hp → Prop, (∀ ys' H', N ys' H' → ∃ m', m' < m ∧ W (i + 1) m' ys' H') ∧ ∀ v H', J.yld i H v H' → tt (capσ caps σ (some v)) H' fun b H2 =>
    if b = true then te (capσ caps σ (some v)) H2 fun y H3 => N (ys ++ [y]) H3 else N ys H2))
def tComp (wi : TI) (caps : List Nat) (tt : TT) (te : TE) : TE := fun σ H Q => tCompR wi caps tt te σ H fun ys H1 => ∀ D, H1 D = none → Q (.ref D) (upd H1 D (.lst ys))
theorem kindOf_relabel {scope : Scope} {env : Env} {y : Str} (h : ((relabel scope env).names.lookup y = some .cell ∨ (relabel scope env).names.lookup y = some .free)) (hc : ∀ y ∈ scope.names, y.2 ≠ .cell) : (y, NameKind.free) ∈ scope.names := by
  have h' : ∃ k, (k = .cell ∨ k = .free) ∧ (y, k) ∈ (relabel scope env).names := by
    rcases h with h | h
    · exact ⟨_, .inl rfl, PySem.mem_of_lookup h⟩
    · exact ⟨_, .inr rfl, PySem.mem_of_lookup h⟩
  obtain ⟨k, hk, hm⟩ := h'
  unfold relabel at hm
  obtain ⟨⟨n, k0⟩, hm0, e⟩ := List.mem_map.mp hm
  dsimp only at e
  split at e
  · rename_i hcond
    injection e with e1 e2
    subst e1
    have : k0 = .free := by
      simp only [Bool.and_eq_true] at hcond
      simpa using hcond.1.1
    subst this
    exact hm0
  · injection e with e1 e2
    subst e1; subst e2
    rcases hk with rfl | rfl
    · exact absurd rfl (hc _ hm0)
    · exact hm0
theorem lookup_relabel_free {env : Env} : ∀ {names : List (Str × NameKind)} {x : Str}, names.lookup x = some .free →
    (names.map fun (n, k) => if (k == NameKind.free && env.scope.kind == .function && env.kindOf n == some .cell) then (n, NameKind.cell) else (n, k)).lookup x = some .cell ∨
    (names.map fun (n, k) => if (k == NameKind.free && env.scope.kind == .function && env.kindOf n == some .cell) then (n, NameKind.cell) else (n, k)).lookup x = some .free
  | [], _, h => by simp at h
  | (n, k) :: r, x, h => by
    have ih := @lookup_relabel_free env r x
    show (List.lookup x ((if (k == NameKind.free && env.scope.kind == .function && env.kindOf n == some .cell) = true then (n, NameKind.cell) else (n, k)) :: _) = _) ∨ (List.lookup x ((if (k == NameKind.free && env.scope.kind == .function && env.kindOf n == some .cell) = true then (n, NameKind.cell) else (n, k)) :: _) = _)
    cases hx : x == n with
    | true =>
      simp only [List.lookup_cons, hx] at h
      cases h
      split
      · left; simp [List.lookup_cons, hx]
      · right; simp [List.lookup_cons, hx]
    | false =>
      simp only [List.lookup_cons, hx] at h
      by_cases hc : (k == NameKind.free && env.scope.kind == .function && env.kindOf n == some .cell) = true
      · rw [if_pos hc]; simp only [List.lookup_cons, hx]; exact ih h
      · rw [if_neg hc]; simp only [List.lookup_cons, hx]; exact ih h
section
variable {X : Cx}
theorem comp_core {x : Str} {px : Pos} {iter elt : Expr} {ifs : List Expr} {scope : Scope} {pos pos' : Pos} {wi : TI} {tt : TT} {te : TE} {caps : List Nat} {ns : List Str} {use : Option (Value → Sem Unit)} {Q : Value → Shared → Prop}
    {pins : List (Addr × Obj)} {s : Shared} {σ : St} {H : Hp} {R : List V → Hp → Prop}
    (CS : CompScope X.N X.env.scope scope x caps ns) (hc : X.calm = true) (hi : PI X (.Name x px) iter wi)
    (ht : ∀ cl C s H fp, PTs (X.comp (x :: ns) scope cl C s H fp) ifs tt) (he : ∀ cl C s H fp, PE (X.comp (x :: ns) scope cl C s H fp) elt te)
    (hs : ∀ v, foldedSetIterable iter X.env v = pure v)
    (I : Inv X pins σ H s) (h : tCompR wi caps tt te σ H R)
    (hend : ∀ D C s' H' ys, Inv X pins σ (upd H' D (.lst ys)) s' → H' D = none → R ys H' → (∃ m, s'.heap.Ns C m) → (upd H' D (.lst ys)) C = none → C ≠ X.env.locals → X.s₀.heap.objs.size ≤ C → (∀ y c, X.env.cells.lookup y = some c → c ≠ C) → (∀ p ∈ X.pn ++ pins, p.1 ≠ C) →
      compPost (model X.prog X.w) X.A X.xe use Q (.ref D) C (.ok .next) s') :
    wpAny (model X.prog X.w) X.A (comprehension (.ListComp elt [⟨.Name x px, iter, ifs, 0⟩] scope pos) scope X.env pos' (newList []) false (eval iter X.env) use) Q X.xe s := by
  have hcells : ∀ y ∈ scope.names, y.2 = .free → ∃ c, X.env.cells.lookup y.1 = some c := fun y hy hf => I.ok.has y.1 (CS.free y hy hf)
  refine wpAny_comprehension_free (use := use) rfl hs (closureFor_some hcells) CS.kind CS.names ?_
  refine thn (hi pins s σ H _ I h) fun v s1 h1 => thn h1 fun itv s2 h2 => ?_
  obtain ⟨it, fp, tn, J, H2, e, I2, T, st2, f2, W, ⟨m0, w0⟩, turn⟩ := h2
  subst e
  refine wpAny_newObj_type (wpAny_newFunctionEnv CS.cell (by intro y hy; simp at hy) (fun h₁ hns₁ hsb₁ => ?_) CS.kind)
  dsimp only at hns₁ hsb₁ ⊢
  generalize hHH : s2.heap.push { cls := .type "list", dict := none, data := .seq ([] : List Value).toArray } = HH at hns₁ hsb₁ ⊢
  have hC : HH.objs.size = s2.heap.objs.size + 1 := by rw [← hHH, Heap.size_push]
  generalize hCe : HH.objs.size = C at hns₁ hsb₁ hC ⊢
  have hDC : s2.heap.objs.size ≠ C := by rw [hC]; exact Nat.ne_of_lt (Nat.lt_succ_self _)
  have below : ∀ b, b < s2.heap.objs.size → b ≠ C ∧ b ≠ s2.heap.objs.size := fun b hb => ⟨by rw [hC]; exact Nat.ne_of_lt (Nat.lt_succ_of_lt hb), Nat.ne_of_lt hb⟩
  have old : ∀ b o, s2.heap.get? b = some o → h₁.get? b = some o := fun b o e => hsb₁.extBut b o (below b (Heap.lt_size e)).1 (Heap.get?_push_of_some _ (hHH ▸ Heap.get?_push_of_some _ e))
  have hacc : h₁.get? s2.heap.objs.size = some (LCg.lst []) := hsb₁.extBut _ _ hDC (Heap.get?_push_of_some _ (hHH ▸ Heap.get?_push_size _ rfl))
  have nfp : ∀ b ∈ fp, b < s2.heap.objs.size := fun b hb => let ⟨o, e, _⟩ := T.obj _ _ st2 b hb; Heap.lt_size e
  have clsub : ∀ y c, (clOf X.env.cells scope.names []).lookup y = some c → X.env.cells.lookup y = some c := fun y c e => by
    rcases clOf_mem scope.names [] (y, c) hcells (PySem.mem_of_lookup e) with q | q
    · cases q
    · exact q.1
  have fresh2 : ∀ a, s2.heap.objs.size ≤ a → H2 a = none := fun a ha => I2.hok.fresh ha
  generalize hcl : clOf X.env.cells scope.names [] = cl at clsub ⊢
  have clhas : ∀ y, (y, NameKind.free) ∈ scope.names → ∃ c, cl.lookup y = some c := fun y hy => by
    obtain ⟨c, q⟩ := clOf_has (cells := X.env.cells) scope.names [] y (.inl hy)
    rw [hcl] at q
    obtain ⟨d, q1, _⟩ := lookup_of_mem q
    exact ⟨d, q1⟩
  have ltC : ∀ y c, X.env.cells.lookup y = some c → c < s2.heap.objs.size := fun y c e => let ⟨v, z⟩ := I2.cell y c e; z.lt
  have ok' : (X.comp (x :: ns) scope cl C s2 H2 fp).Ok := by
    refine ⟨I2.ok.mod, CS.kind, I2.ok.glob, I2.ok.blt, (by show s2.heap.objs.size ≤ C; rw [hC]; exact Nat.le_succ _), fun y z c a b => I2.ok.inj y z c (clsub y c a) (clsub z c b), fun y hy => clhas y (kindOf_relabel hy CS.cell), fun y c z => (by cases z), I2.ok.hd, I2.ok.frames, .inl rfl,
      fun b hb => ⟨(below b (nfp b hb)).1, fun y c e z => (f2 b hb).2.2.2.2.1 y c (clsub y c e) z⟩, fun b o e => I2.bs b o e, Nat.le_trans I2.ok.bsz I2.sz, fun b o e hb => ?_, fun b hb hf => ?_, I2.stack, I2.stkFree⟩
    · rcases (f2 b hb).2.2.2.1 with z | z
      · exact I2.ok.noex b o e z
      · exact absurd (Nat.lt_of_lt_of_le (Heap.lt_size e) (Nat.le_trans I2.ok.bsz z)) (Nat.lt_irrefl _)
    · rcases List.mem_cons.mp (I2.stkSub b hf) with z | z
      · exact (f2 b hb).2.1 z
      · exact (f2 b hb).2.2.1 z
  have capget : ∀ (k : Nat) (y : Str) (v : V), (x :: ns)[k]? = some y → (capσ caps σ none)[k]? = some (some v) → ∃ j, X.N[j]? = some y ∧ σ[j]? = some (some v) ∧ scope.names.lookup y = some .free := fun k y v e1 e2 => by
    cases k with
    | zero => cases e2
    | succ k =>
      have e1' : ns[k]? = some y := by simpa using e1
      have e2' : (caps.map fun j => (σ[j]?).getD none)[k]? = some (some v) := by simpa [capσ] using e2
      have e3 : (ns.map some)[k]? = some (some y) := by rw [List.getElem?_map, e1']; rfl
      rw [← CS.at_, List.getElem?_map] at e3
      rw [List.getElem?_map] at e2'
      cases hj : caps[k]? with
      | none => rw [hj] at e3; cases e3
      | some j =>
        rw [hj] at e3 e2'
        have e4 : X.N[j]? = some y := Option.some.inj e3
        have e5 : (σ[j]?).getD none = some v := Option.some.inj e2'
        refine ⟨j, e4, ?_, CS.nsf y (List.mem_of_getElem? e1')⟩
        cases hσ : σ[j]? with
        | none => rw [hσ] at e5; cases e5
        | some z => rw [hσ] at e5; have e6 : z = some v := e5; rw [e6]
  have visfree : ∀ y, scope.names.lookup y = some .free → X.env.kindOf y = some .cell ∨ X.env.kindOf y = some .free := fun y hy => CS.free (y, .free) (PySem.mem_of_lookup hy) rfl
  have I0 : Inv (X.comp (x :: ns) scope cl C s2 H2 fp) (pins ++ [(s2.heap.objs.size, LCg.lst [])]) (capσ caps σ none) H2 { s2 with heap := h₁, toks := s2.toks + ([] : List (Str × Value)).length } := by
    obtain ⟨m2, hn2, hl2⟩ := I2.loc
    refine ⟨ok', rfl, I2.bare, Un.kept old, ⟨_, hns₁, fun k y v e1 e2 e3 => ?_⟩, fun y c e => ?_, fresh2 C (by rw [hC]; exact Nat.le_succ _), fun y c e => I2.freeC y c (clsub y c e), fun p hp => ?_, I2.hok.kept old, ?_⟩
    · obtain ⟨j, q1, q2, q3⟩ := capget k y v e1 e2
      have vf := visfree y q3
      obtain ⟨u, ru, lk⟩ := hl2 j y v q1 q2 (vf.elim (fun z => .inr (.inl z)) fun z => .inr (.inr z))
      refine ⟨u, ru, .inr ⟨lookup_relabel_free q3, ?_⟩⟩
      obtain ⟨c, hcl'⟩ := clhas y (PySem.mem_of_lookup q3)
      refine ⟨c, hcl', ?_⟩
      rcases lk with ⟨k1, _⟩ | ⟨_, c', e', z⟩
      · rcases vf with vf | vf <;> (rw [k1] at vf; cases vf)
      · have q := clsub y c hcl'
        rw [e'] at q
        cases q
        exact z.keeps old
    · obtain ⟨v, z⟩ := I2.cell y c (clsub y c e)
      exact ⟨v, z.keeps old⟩
    · rcases List.mem_append.mp hp with hp | hp
      · obtain ⟨a1, a2, a3, a4, a5⟩ := I2.pin p (List.mem_append_left _ hp)
        refine ⟨old _ _ a1, a2, (below _ (Heap.lt_size a1)).1, fun z => ?_, a5⟩
        rcases List.mem_cons.mp (I2.stkSub _ z) with z | z
        · exact a3 z
        · exact a4 z
      · rcases List.mem_append.mp hp with hp | hp
        · obtain ⟨a1, a2, a3, a4, a5⟩ := I2.pin p (List.mem_append_right _ hp)
          refine ⟨old _ _ a1, a2, (below _ (Heap.lt_size a1)).1, fun z => ?_, a5⟩
          rcases List.mem_cons.mp (I2.stkSub _ z) with z | z
          · exact a3 z
          · exact a4 z
        · have e : p = (s2.heap.objs.size, LCg.lst []) := by simpa using hp
          subst e
          refine ⟨hacc, fresh2 _ (Nat.le_refl _), hDC, fun z => ?_, fun v z => by cases z⟩
          rcases List.mem_cons.mp (I2.stkSub _ z) with z | z
          · exact absurd I2.lt (by rw [← z]; exact Nat.lt_irrefl _)
          · exact I2.nofs (Nat.le_refl _) z
    · show (capσ caps σ none).length = (x :: ns).length
      have := congrArg List.length CS.at_
      simp only [List.length_map] at this
      simp [capσ, this]
  have loop : ∀ s₃ : Shared, s₃ = { s2 with heap := h₁, toks := s2.toks + ([] : List (Str × Value)).length } →
      codeAny (model X.prog X.w) X.A (.compLoop (.ListComp elt [⟨.Name x px, iter, ifs, 0⟩] scope pos) 0 (.ref it) (.ref s2.heap.objs.size) (compEnvC scope cl C X.env))
        (compPost (model X.prog X.w) X.A X.xe use Q (.ref s2.heap.objs.size) C) s₃ := by
    rintro s₃ rfl
    refine codeAny_compLoop_tests (fun n s' => ∃ i ys us H', Inv (X.comp (x :: ns) scope cl C s2 H2 fp) (pins ++ [(s2.heap.objs.size, LCg.lst us)]) (capσ caps σ none) H' s' ∧ Vals ys us ∧ tn i s'.heap ∧ (∀ b ∈ fp, H' b = none) ∧ W i n ys H') ?_ m0
      ⟨0, [], [], H2, I0, .nil, T.keep _ _ _ st2 (fun b _ o e => old b o e), fun b hb => (f2 b hb).1, w0⟩
    rintro n s3 ⟨i, ys, us, H3, I3, rv, st3, fr3, w3⟩
    obtain ⟨hle, hstep⟩ := turn i n ys H3 w3
    have pinlt : ∀ p ∈ X.pn ++ pins, p.1 < s2.heap.objs.size := fun p hp => Heap.lt_size (I2.pin p hp).1
    have stat : ∀ {H' : Hp}, (∀ b ∈ fp, H' b = none) → ∀ b ∈ fp, FpOk (X.comp (x :: ns) scope cl C s2 H2 fp) (pins ++ [(s2.heap.objs.size, LCg.lst us)]) H' b := fun hn b hb =>
      ⟨hn b hb, (below b (nfp b hb)).1, ok'.exfs b hb, .inl hb, fun y c e z => (f2 b hb).2.2.2.2.1 y c (clsub y c e) z, fun p hp => by
        rcases List.mem_append.mp hp with hp | hp
        · exact (f2 b hb).2.2.2.2.2 p (List.mem_append_left _ hp)
        · rcases List.mem_append.mp hp with hp | hp
          · exact (f2 b hb).2.2.2.2.2 p (List.mem_append_right _ hp)
          · have e : p = (s2.heap.objs.size, LCg.lst us) := by simpa using hp
            subst e
            exact Ne.symm (below b (nfp b hb)).2⟩
    have memD : ∀ (l : List (Addr × Obj)), (s2.heap.objs.size, LCg.lst us) ∈ (X.comp (x :: ns) scope cl C s2 H2 fp).pn ++ ((pins ++ [(s2.heap.objs.size, LCg.lst us)]) ++ l) := fun l =>
      List.mem_append_right _ (List.mem_append_left _ (List.mem_append_right _ List.mem_cons_self))
    rcases hstep with ⟨stop, r⟩ | ⟨go, Nx, hNx, step⟩
    · refine thn (T.done (X.comp (x :: ns) scope cl C s2 H2 fp) rfl rfl rfl hc i _ s3 _ H3 _ I3 (stat fr3) st3 stop) fun r' s4 ⟨hr, I4⟩ => ?_
      subst hr
      have pD := I4.pin (s2.heap.objs.size, LCg.lst us) (List.mem_append_right _ (List.mem_append_right _ List.mem_cons_self))
      have hDn : H3 s2.heap.objs.size = none := pD.2.1
      have hCn : H3 C = none := I4.free
      have b4 : Un (frs X.stack) fp H2 H3 s2.heap s4.heap := I4.base
      have u4 : Un (frs X.stack) fp H2 (upd H3 s2.heap.objs.size (.lst ys)) s2.heap s4.heap :=
        ⟨b4.keep, b4.slot, fun b o e n hx => by rw [upd_ne (below b (Heap.lt_size e)).2]; exact b4.free b o e n hx, b4.there,
          fun b xs q => by rw [upd_ne (ne_of_none (b4.tups b xs q) hDn)]; exact b4.tups b xs q, fun b o u q => by rw [upd_ne (ne_of_none (b4.frzs b o u q) hDn)]; exact b4.frzs b o u q,
          fun b ps q => by
            obtain ⟨m1, e1⟩ := b4.tbls b ps q
            exact ⟨m1, by rw [upd_ne (ne_of_none e1 hDn)]; exact e1⟩⟩
      have k4 : HOk X.prog X.w (upd H3 s2.heap.objs.size (.lst ys)) s4.heap := fun b u e => by
        by_cases hb : b = s2.heap.objs.size
        · subst hb
          rw [upd_same] at e
          cases e
          exact ⟨hle, us, _, rv, pD.1⟩
        · rw [upd_ne hb] at e
          exact (I4.hok b u e).stay (fun c v _ q => q) (fun c q => by rw [upd_ne (ne_of_none q hDn)]; exact q) fun c xs q => by rw [upd_ne (ne_of_none q hDn)]; exact q
      have J4 : Inv X pins σ (upd H3 s2.heap.objs.size (.lst ys)) s4 := I2.call' (ch := fp) I4.os u4 k4 I4.bare fun b hb => ⟨(f2 b hb).2.2.2.1, (f2 b hb).2.1, (f2 b hb).2.2.2.2.1, (f2 b hb).2.2.2.2.2⟩
      obtain ⟨mC, hnC, _⟩ := I4.loc
      exact hend _ C s4 H3 ys J4 hDn r ⟨mC, hnC⟩ (by rw [upd_ne (Ne.symm hDC)]; exact hCn) (Ne.symm (below _ I2.lt).1) (by rw [hC]; exact Nat.le_succ_of_le I2.sz) (fun y c e => (below c (ltC y c e)).1) fun p hp => (below _ (pinlt p hp)).1
    · refine thn (T.item (X.comp (x :: ns) scope cl C s2 H2 fp) rfl rfl rfl hc i _ s3 _ H3 _ I3 (stat fr3) st3 go) fun r' s4 ⟨u, hr, h4⟩ => ?_
      subst hr
      refine wpAny_unpure h4 fun ⟨v, H5, I5, r5, y5, st5, fr5⟩ => ?_
      have I5' := I5.pinned (stat fr5) (T.obj _ _ st5)
      refine wpAny_assign_Name (store_ok (X := X.comp (x :: ns) scope cl C s2 H2 fp) (i := 0) I5' CS.nd rfl (.inl (lookup_relabel_local CS.var)) r5 (fun s6 I6 => ?_) (.inr (lookup_relabel_local CS.var)))
      have I6' : Inv (X.comp (x :: ns) scope cl C s2 H2 fp) ((pins ++ [(s2.heap.objs.size, LCg.lst us)]) ++ pinsAt fp s4.heap) (capσ caps σ (some v)) H5 s6 := I6
      refine wpAny_mono (ht cl C s2 H2 fp _ s6 _ H5 _ I6' (step v H5 y5)) (fun b s7 ⟨H7, I7, q7⟩ => ?_) (fun _ _ e => e.elim)
      have weak : ∀ {H' : Hp} {s' : Shared} {pl : List (Addr × Obj)}, Inv (X.comp (x :: ns) scope cl C s2 H2 fp) pl (capσ caps σ (some v)) H' s' → Inv (X.comp (x :: ns) scope cl C s2 H2 fp) pl (capσ caps σ none) H' s' := fun {H' s' pl} J' =>
        J'.weak rfl fun k z e => by
          cases k with
          | zero => cases e
          | succ k => exact e
      have keepT : ∀ {H' : Hp} {s' : Shared}, Inv (X.comp (x :: ns) scope cl C s2 H2 fp) ((pins ++ [(s2.heap.objs.size, LCg.lst us)]) ++ pinsAt fp s4.heap) (capσ caps σ (some v)) H' s' → tn (i + 1) s'.heap ∧ ∀ b ∈ fp, H' b = none := fun {H' s'} J' => by
        refine ⟨T.keep _ _ _ st5 fun b hb o e => (J'.pin (b, o) (List.mem_append_right _ (List.mem_append_right _ (mem_pinsAt hb e)))).1, fun b hb => ?_⟩
        obtain ⟨o, e, d⟩ := T.obj _ _ st5 b hb
        exact (J'.pin (b, o) (List.mem_append_right _ (List.mem_append_right _ (mem_pinsAt hb e)))).2.1
      cases b with
      | false =>
        rw [if_neg Bool.false_ne_true] at q7 ⊢
        obtain ⟨m', hm, w7⟩ := hNx _ _ q7
        exact ⟨m', hm, i + 1, ys, us, H7, weak I7.unpinned, rv, (keepT I7).1, (keepT I7).2, w7⟩
      | true =>
        rw [if_pos rfl] at q7 ⊢
        refine wpAny_mono (he cl C s2 H2 fp _ s7 _ H7 _ I7 q7) (fun yv s8 ⟨y, H8, I8, ry, n8⟩ => ?_) (fun _ _ e => e.elim)
        obtain ⟨m', hm, w8⟩ := hNx _ _ n8
        have pD := I8.pin (s2.heap.objs.size, LCg.lst us) (memD _)
        have hul : us.length = ys.length := rv.length.symm
        refine append_at (hsz := by show us.toArray.size ≤ sizeLine; rw [List.size_toArray, hul]; exact hle) pD.1 fun h9 hs9 hD9 => ?_
        have I8p : Inv (X.comp (x :: ns) scope cl C s2 H2 fp) pins (capσ caps σ none) H8 s8 := weak I8.unpinned.unpinned
        have I9 : Inv (X.comp (x :: ns) scope cl C s2 H2 fp) pins (capσ caps σ none) H8 { s8 with heap := h9 } := I8p.turned (t' := s8.toks) (it := s2.heap.objs.size) (fun b o hb e => (hs9.2 b hb).trans e) pD.2.1 hDC (.inr (Nat.le_refl _)) (fun y c e z => Nat.ne_of_lt (ltC y c (clsub y c e)) z) fun p hp => Nat.ne_of_lt (pinlt p hp)
        have I9' : Inv (X.comp (x :: ns) scope cl C s2 H2 fp) (pins ++ [(s2.heap.objs.size, LCg.lst (us ++ [yv]))]) (capσ caps σ none) H8 { s8 with heap := h9 } := I9.pins_of fun p hp => by
          rcases List.mem_append.mp hp with hp | hp
          · exact I9.pin p (List.mem_append_right _ hp)
          · have e : p = (s2.heap.objs.size, LCg.lst (us ++ [yv])) := by simpa using hp
            subst e
            exact ⟨hD9.trans (congrArg some (LCg.lst_snoc us yv)), pD.2.1, hDC, pD.2.2.2.1, fun v z => by cases z⟩
        refine ⟨m', hm, i + 1, ys ++ [y], us ++ [yv], H8, I9', rv.append (.cons ry .nil), ?_, (keepT I8).2, w8⟩
        exact T.keep _ _ _ (keepT I8).1 fun b hb o e => (hs9.2 b (below b (nfp b hb)).2).trans e
  exact codeAny_compStart_list (loop _ rfl) (T.self X.A 0 _ _ _ (T.keep _ _ _ st2 (fun b _ o e => old b o e)) (loop _ rfl))
theorem comp_list {K : PySem.W.Frag} {a : Addr} {xs : List V} {caps : List Nat} {tt : TT} {te : TE} {σ : St} {H : Hp} {R : List V → Hp → Prop} (Pv : Nat → List V → Hp → Prop) (h0 : Pv 0 [] H) (hl : ∀ i ys H, i ≤ xs.length → Pv i ys H → SqL K H a xs ∧ ys.length ≤ sizeLine)
    (hs : ∀ i x ys H, xs[i]? = some x → Pv i ys H → tt (capσ caps σ (some x)) H fun b H2 => if b = true then te (capσ caps σ (some x)) H2 fun y H3 => Pv (i + 1) (ys ++ [y]) H3 else Pv (i + 1) ys H2) (hd : ∀ ys H, Pv xs.length ys H → R ys H) :
    ∃ W : Nat → Nat → List V → Hp → Prop, (∃ m, W 0 m [] H) ∧ ∀ i m ys H, W i m ys H → ys.length ≤ sizeLine ∧ (((Itl K a).stop i H ∧ R ys H) ∨ ((Itl K a).go i H ∧ ∃ N : List V → Hp → Prop, (∀ ys' H', N ys' H' → ∃ m', m' < m ∧ W (i + 1) m' ys' H') ∧ ∀ v H', (Itl K a).yld i H v H' →
      tt (capσ caps σ (some v)) H' fun b H2 => if b = true then te (capσ caps σ (some v)) H2 fun y H3 => N (ys ++ [y]) H3 else N ys H2)) := by
  refine ⟨fun i m ys H => m = xs.length - i ∧ i ≤ xs.length ∧ Pv i ys H, ⟨xs.length, by simp, Nat.zero_le _, h0⟩, ?_⟩
  rintro i m ys H ⟨rfl, hi, p⟩
  obtain ⟨q, hz⟩ := hl i ys H hi p
  refine ⟨hz, ?_⟩
  by_cases hlt : i < xs.length
  · refine .inr ⟨⟨xs, xs[i], q, by simp [hlt]⟩, Pv (i + 1), fun ys' H' p' => ⟨xs.length - (i + 1), by omega, rfl, hlt, p'⟩, fun x H' y => ?_⟩
    obtain ⟨e, y⟩ := y
    subst e
    exact hs i x ys _ (y xs q) p
  · have e : i = xs.length := by omega
    subst e
    exact .inl ⟨⟨xs, q, Nat.le_refl _⟩, hd ys H p⟩
theorem comp_range {lo : Int} {n : Nat} {caps : List Nat} {tt : TT} {te : TE} {σ : St} {H : Hp} {R : List V → Hp → Prop} (Pv : Nat → List V → Hp → Prop) (h0 : Pv 0 [] H) (hl : ∀ i ys H, i ≤ n → Pv i ys H → ys.length ≤ sizeLine)
    (hs : ∀ i ys H, i < n → Pv i ys H → tt (capσ caps σ (some (.int (lo + i)))) H fun b H2 => if b = true then te (capσ caps σ (some (.int (lo + i)))) H2 fun y H3 => Pv (i + 1) (ys ++ [y]) H3 else Pv (i + 1) ys H2) (hd : ∀ ys H, Pv n ys H → R ys H) :
    ∃ W : Nat → Nat → List V → Hp → Prop, (∃ m, W 0 m [] H) ∧ ∀ i m ys H, W i m ys H → ys.length ≤ sizeLine ∧ (((Itr lo n).stop i H ∧ R ys H) ∨ ((Itr lo n).go i H ∧ ∃ N : List V → Hp → Prop, (∀ ys' H', N ys' H' → ∃ m', m' < m ∧ W (i + 1) m' ys' H') ∧ ∀ v H', (Itr lo n).yld i H v H' →
      tt (capσ caps σ (some v)) H' fun b H2 => if b = true then te (capσ caps σ (some v)) H2 fun y H3 => N (ys ++ [y]) H3 else N ys H2)) := by
  refine ⟨fun i m ys H => m = n - i ∧ i ≤ n ∧ Pv i ys H, ⟨n, by simp, Nat.zero_le _, h0⟩, ?_⟩
  rintro i m ys H ⟨rfl, hi, p⟩
  refine ⟨hl i ys H hi p, ?_⟩
  by_cases hlt : i < n
  · refine .inr ⟨hlt, Pv (i + 1), fun ys' H' p' => ⟨n - (i + 1), by omega, rfl, hlt, p'⟩, fun x H' y => ?_⟩
    obtain ⟨e, y⟩ := y
    subst e y
    exact hs i ys _ hlt p
  · have e : i = n := by omega
    subst e
    exact .inl ⟨Nat.le_refl _, hd ys H p⟩
theorem pe_comp {x : Str} {px : Pos} {iter elt : Expr} {ifs : List Expr} {scope sc : Scope} {N : List Str} {pos : Pos} {wi : TI} {tt : TT} {te : TE} {caps : List Nat} {ns : List Str}
    (CS : CompScope N sc scope x caps ns) (hN' : X.N = N) (hsc : X.env.scope = sc) (hc : X.calm = true) (hi : PI X (.Name x px) iter wi)
    (ht : ∀ cl C s H fp, PTs (X.comp (x :: ns) scope cl C s H fp) ifs tt) (he : ∀ cl C s H fp, PE (X.comp (x :: ns) scope cl C s H fp) elt te)
    (hs : ∀ v, foldedSetIterable iter X.env v = pure v := by intro _; rfl) :
    PE X (.ListComp elt [⟨.Name x px, iter, ifs, 0⟩] scope pos) (tComp wi caps tt te) := by
  intro pins s σ H Q I h
  subst hN'; subst hsc
  rw [eval_ListComp]
  refine comp_core CS hc hi ht he hs I h ?_
  rintro D C s' H' ys I' hD r ⟨m, hn⟩ c1 c2 c3 c4 c5
  exact ⟨m, hn, fun h' hs' => ⟨.ref D, _, I'.turned (t' := s'.toks) (fun b o hb e => (hs'.2 b hb).trans e) c1 c2 (.inr c3) c4 c5, rfl, r D hD⟩⟩
theorem ps_setComp {i : Nat} {x y : Str} {px py : Pos} {iter elt : Expr} {ifs : List Expr} {scope sc : Scope} {N : List Str} {pos spos : Pos} {wi : TI} {tt : TT} {te : TE} {caps : List Nat} {ns : List Str} (hN : X.N.Nodup) (hi : X.N[i]? = some y)
    (hy : X.env.scope.names.lookup y = some .local) (CS : CompScope N sc scope x caps ns) (hN' : X.N = N) (hsc : X.env.scope = sc) (hc : X.calm = true) (hit : PI X (.Name x px) iter wi)
    (ht : ∀ cl C s H fp, PTs (X.comp (x :: ns) scope cl C s H fp) ifs tt) (he : ∀ cl C s H fp, PE (X.comp (x :: ns) scope cl C s H fp) elt te)
    (hsw : swapsWith (.ListComp elt [⟨.Name x px, iter, ifs, 0⟩] scope pos) (some (.Name y py)) spos.line X.env = pure true := by rfl)
    (hs : ∀ v, foldedSetIterable iter X.env v = pure v := by intro _; rfl) :
    PS X (.Assign [.Name y py] (.ListComp elt [⟨.Name x px, iter, ifs, 0⟩] scope pos) spos) (tAsg (tComp wi caps tt te) (gName i)) := by
  intro pins s σ H D I h
  subst hN'; subst hsc
  rw [exec_Assign_Name_used _ _ _ _ hsw]
  refine wpAny_bind (wpAny_standAt (wpAny_bind ?_))
  show wpAny _ X.A (do let _ ← comprehension (.ListComp elt [⟨.Name x px, iter, ifs, 0⟩] scope pos) scope X.env _ (newList []) false (eval iter X.env) (some (assign (.Name y py) X.env))) _ _ s
  refine wpAny_bind (wpAny_mono (comp_core (use := some (assign (.Name y py) X.env)) (Q := fun _ s' => SP X pins D .next s') CS hc hit ht he hs I h ?_) (fun _ s' hq => wpAny_pure (wpAny_pure hq)) fun _ _ e => e)
  rintro D' C s' H' ys I' hD r ⟨m, hn⟩ c1 c2 c3 c4 c5
  show wpAny _ _ (assign (.Name y py) X.env (.ref D')) _ _ s'
  refine wpAny_assign_Name (store_ok2 (v := .ref D') I' hN hi (.inl hy) rfl (fun s'' I'' ⟨a, sb, ha⟩ => ?_) (.inr hy))
  have hCa : C ≠ a := by
    rcases ha with e | e
    · rw [e]; exact c2
    · exact Ne.symm (c4 y a e)
  exact ⟨m, hn.sameBut sb hCa, fun h' hs' => ⟨_, _, I''.turned (t' := s''.toks) (fun b o hb e => (hs'.2 b hb).trans e) c1 c2 (.inr c3) c4 c5, r D' hD⟩⟩
end
end L2
namespace L2
open PySem PySem.Spec PyProof.Rows
theorem bt_len : bootBuiltins "len" = some (.builtin "len") := by decide +kernel
theorem bt_min : bootBuiltins "min" = some (.builtin "min") := by decide +kernel
theorem bt_isinstance : bootBuiltins "isinstance" = some (.builtin "isinstance") := by decide +kernel
theorem bt_list : bootBuiltins "list" = some (.type "list") := by decide +kernel
theorem bt_tuple : bootBuiltins "tuple" = some (.type "tuple") := by decide +kernel
theorem bt_int : bootBuiltins "int" = some (.type "int") := by decide +kernel
theorem bt_bool : bootBuiltins "bool" = some (.type "bool") := by decide +kernel
theorem bt_dict : bootBuiltins "dict" = some (.type "dict") := by decide +kernel
section
variable {X : Cx}
def plainV : V → Bool
  | .byt _ => false
  | .flt _ => false
  | _ => true
theorem eqAt_same {A : Around} {s : Shared} {x : V} {u v : Value} (r : RelV x u) (r' : RelV x v) (hx : plainV x = true) : SeqAt.EqAt A s u v true := by
  cases x with
  | non => cases r; cases r'; exact SeqAt.EqAt.same _
  | bl b => cases r; cases r'; exact SeqAt.EqAt.same _
  | int i =>
    obtain ⟨t, rfl⟩ := r; obtain ⟨t', rfl⟩ := r'
    have := SeqAt.EqAt.int_int (A := A) (s := s) i t i t'
    simpa using this
  | str i =>
    obtain ⟨t, rfl⟩ := r; obtain ⟨t', rfl⟩ := r'
    have := SeqAt.EqAt.str_str (A := A) (s := s) i t i t'
    simpa using this
  | ref a => cases r; cases r'; exact SeqAt.EqAt.same _
  | ty n => cases r; cases r'; exact SeqAt.EqAt.same _
  | byt b => cases hx
  | flt b => cases hx
theorem vals_same {A : Around} {s : Shared} {xs : List V} {us vs : List Value} (r : Vals xs us) (r' : Vals xs vs) (hx : xs.all plainV = true) (j : Nat) (h1 : j < us.toArray.size) (h2 : j < vs.toArray.size) : SeqAt.EqAt A s us.toArray[j] vs.toArray[j] true := by
  have hj : j < xs.length := by rw [r.length]; simpa using h1
  obtain ⟨u, hu, ru⟩ := r.get (i := j) (x := xs[j]) (by simp [hj])
  obtain ⟨v, hv, rv⟩ := r'.get (i := j) (x := xs[j]) (by simp [hj])
  have e1 : us.toArray[j] = u := by
    have : us[j]? = some us.toArray[j] := by simp
    rw [hu] at this; exact (Option.some.inj this).symm
  have e2 : vs.toArray[j] = v := by
    have : vs[j]? = some vs.toArray[j] := by simp
    rw [hv] at this; exact (Option.some.inj this).symm
  rw [e1, e2]
  have hp := List.all_eq_true.mp hx xs[j] (List.getElem_mem hj)
  exact eqAt_same ru rv hp
def rEqL (K : PySem.W.Frag) (k : Bool) : R2 := fun x y H Q => ∃ a b xs, x = .ref a ∧ y = .ref b ∧ SqL K H a xs ∧ SqL K H b xs ∧ xs.all plainV = true ∧ Q (.bl k) H
theorem op_eqL (hu : X.A.units < cLine) : OpR X (compareOp .Eq) (rEqL X.K true) := by
  intro pins s σ H x y v u Q I rx ry h
  obtain ⟨a, b, xs, rfl, rfl, ha, hb, hp, q⟩ := h
  cases rx; cases ry
  obtain ⟨its, r, pl, _⟩ := I.list ha
  obtain ⟨its2, r2, pl2, _⟩ := I.list hb
  have hl : its.length = its2.length := by rw [← r.length, ← r2.length]
  refine SeqAt.eq_listAt (e := fun _ => true) pl.isList pl2.isList (by simpa using hl) hu (fun j h1 h2 => vals_same r r2 hp j h1 h2) ⟨.bl true, H, I, ?_, q⟩
  have : ((List.range its.toArray.size).all fun _ => true) = true := by simp
  rw [this]; rfl
theorem op_neL (hu : X.A.units < cLine) : OpR X (compareOp .NotEq) (rEqL X.K false) := by
  intro pins s σ H x y v u Q I rx ry h
  obtain ⟨a, b, xs, rfl, rfl, ha, hb, hp, q⟩ := h
  cases rx; cases ry
  obtain ⟨its, r, pl, _⟩ := I.list ha
  obtain ⟨its2, r2, pl2, _⟩ := I.list hb
  have hl : its.length = its2.length := by rw [← r.length, ← r2.length]
  refine SeqAt.RcNeAt.lists (e := fun _ => true) pl.isList pl2.isList (by simpa using hl) hu (fun j h1 h2 => vals_same r r2 hp j h1 h2) X.prog X.w X.xe _ ⟨.bl false, H, I, ?_, q⟩
  have : ((List.range its.toArray.size).all fun _ => true) = true := by simp
  rw [this]; rfl
theorem call_isi : CallR X (.builtin "isinstance") (fun xs H Q => ∃ x c t b, xs = [x, .ty c] ∧ TyOf X.K H x t ∧ PySem.W.kitOne X.K t (.type c) = some b ∧ Q (.bl b) H) := by
  intro pins s σ H xs us Q I r h
  obtain ⟨x, c, t, b, rfl, ty, hk, q⟩ := h
  obtain ⟨u, v, rfl, ru, rv⟩ := vals2 r
  cases rv
  exact isinst_ok I ru ty hk fun tk => ⟨.bl b, H, I.tok _, rfl, q⟩
structure TopD (w : World) (K : PySem.W.Frag) (a : Addr) (kvs : List (Str × V)) : Prop where
  ex : ∃ (es : Array DictEntry) (n : Nat), K.lookup a = some ⟨.type "dict", none, .dict es n, #[]⟩ ∧ PySem.W.KeysLit w.params es.toList ∧ Paired (fun (p : Str × V) (e : DictEntry) => (∃ t, e.key = .str p.1 t) ∧ RelV p.2 e.val) kvs es.toList
  lo : (a == sysModules) = false
theorem find_paired {x : Str} : ∀ {kvs : List (Str × V)} {es : List DictEntry}, Paired (fun (p : Str × V) (e : DictEntry) => (∃ t, e.key = .str p.1 t) ∧ RelV p.2 e.val) kvs es →
    RelO (kvs.lookup x) ((es.find? fun e => Value.isStrOf x e.key).map (·.val))
  | _, _, .nil => trivial
  | (k, v) :: kvs, e :: es, .cons ⟨⟨t, hk⟩, rv⟩ r => by
    have hk' : e.key = .str k t := hk
    rw [List.lookup_cons, List.find?_cons, hk']
    by_cases hx : x = k
    · subst hx
      have h1 : Value.isStrOf x (.str x t) = true := by simp [Value.isStrOf]
      rw [h1, beq_self_eq_true]
      exact rv
    · have h1 : Value.isStrOf x (.str k t) = false := by
        cases h : Value.isStrOf x (.str k t) with
        | false => rfl
        | true =>
          obtain ⟨t', e'⟩ := Value.isStrOf_shape (x := x) (v := .str k t) h
          injection e' with e1 _
          exact absurd e1.symm hx
      have h2 : (x == k) = false := beq_eq_false_iff_ne.mpr hx
      rw [h1, h2]
      exact find_paired r
theorem TopD.map {w : World} {K : PySem.W.Frag} {a : Addr} {kvs : List (Str × V)} (T : TopD w K a kvs) {prog : Program} {h : Heap} (KX : K.In h) :
    ∃ f : Str → Option Value, h.MapOf (strKind prog w) a f ∧ ∀ x, RelO (kvs.lookup x) (f x) := by
  obtain ⟨es, n, hl, hk, hp⟩ := T.ex
  refine ⟨fun k => findBy Value.isStrOf es k, PySem.W.mapOf_K KX hl hk, fun x => ?_⟩
  have q := find_paired (x := x) hp
  show RelO (List.lookup x kvs) ((es.find? fun e => Value.isStrOf x e.key).map (·.val))
  rw [← Array.find?_toList]
  exact q
def rIxTop (w : World) (K : PySem.W.Frag) : R2 := fun x y H Q => ∃ a k kvs v, x = .ref a ∧ y = .str k ∧ TopD w K a kvs ∧ kvs.lookup k = some v ∧ Q v H
theorem ix_top : IxR X (rIxTop X.w X.K) := by
  intro value slice pins s σ H x y v u Q I rx ry h hs
  obtain ⟨a, k, kvs, z, rfl, rfl, T, hz, q⟩ := h
  cases rx
  obtain ⟨t, rfl⟩ := ry
  obtain ⟨f, hm, hf⟩ := T.map (prog := X.prog) I.kIn
  have hr := hf k
  rw [hz] at hr
  obtain ⟨w', e, r⟩ := hr.some_of
  exact tail_any hm.typeIs slot_dict_getitem.lookup (wpAny_getItem_of (strKind_is X.prog X.w k t) hm e ⟨z, H, I.tok _, r, q⟩) hs
theorem op_in_top : OpR X (compareOp .In) (fun x y H Q => ∃ k a kvs, x = .str k ∧ y = .ref a ∧ TopD X.w X.K a kvs ∧ Q (.bl (kvs.lookup k).isSome) H) := by
  intro pins s σ H x y v u Q I rx ry h
  obtain ⟨k, a, kvs, rfl, rfl, T, q⟩ := h
  cases ry
  obtain ⟨t, rfl⟩ := rx
  obtain ⟨f, hm, hf⟩ := T.map (prog := X.prog) I.kIn
  have hr := hf k
  have e : (f k).isSome = (kvs.lookup k).isSome := by
    cases h1 : kvs.lookup k with
    | none => rw [h1] at hr; rw [hr.none_of]; rfl
    | some z => rw [h1] at hr; obtain ⟨w', e, _⟩ := hr.some_of; rw [e]; rfl
  exact wpAny_in_of (strKind_is X.prog X.w k t) T.lo hm ⟨.bl _, H, I.tok _, by rw [e]; rfl, q⟩
theorem uAdd : OpR X (binaryOp .Add) (fun x y H Q => rI0 (fun i j => .int (i + j)) x y H Q ∨ (∃ i j, x = .str i ∧ y = .str j ∧ i.length + j.length ≤ sizeLine ∧ Q (.str (i ++ j)) H) ∨ rCat x y H Q) := op_add.or (op_add_str.or op_cat)
theorem uEq (hu : X.A.units < cLine) : OpR X (compareOp .Eq) (fun x y H Q => rEq x y H Q ∨ rEqL X.K true x y H Q) := op_eq.or (op_eqL hu)
theorem uNe (hu : X.A.units < cLine) : OpR X (compareOp .NotEq) (fun x y H Q => rNe x y H Q ∨ rEqL X.K false x y H Q) := op_ne.or (op_neL hu)
theorem uIn : OpR X (compareOp .In) (fun x y H Q => (∃ i j, x = .str i ∧ y = .str j ∧ Q (.bl (!(Builtin.Str.occurrences j i 0 j.length 1).isEmpty)) H) ∨ rIn X.K false x y H Q ∨ (∃ k a kvs, x = .str k ∧ y = .ref a ∧ TopD X.w X.K a kvs ∧ Q (.bl (kvs.lookup k).isSome) H)) := op_in_str.or (op_in_seq.or op_in_top)
theorem uNotIn : OpR X (compareOp .NotIn) (fun x y H Q => (∃ i j, x = .str i ∧ y = .str j ∧ Q (.bl (!(!(Builtin.Str.occurrences j i 0 j.length 1).isEmpty))) H) ∨ rIn X.K true x y H Q) := op_notIn_str.or op_notIn_seq
theorem ix_any : IxR X (fun x y H Q => rIxL X.K x y H Q ∨ rIxT X.K x y H Q ∨ rIxS x y H Q ∨ rIxTop X.w X.K x y H Q) := ix_list.or (ix_tup.or (ix_str.or ix_top))
theorem sl_any : SlR X (fun x lo hi H Q => rSlL X.K x lo hi H Q ∨ rSlT X.K x lo hi H Q) := sl_list.or sl_tup
def tCut (t : TS) : TS := fun D σ H => ∃ R : St → Hp → Prop, t { D with nx := R } σ H ∧ ∀ σ' H', R σ' H' → D.nx σ' H'
theorem ps_cut {st : Stmt} {t : TS} (h : PS X st t) : PS X st (tCut t) := fun pins s σ H D I ⟨R, q, hR⟩ => thn (h pins s σ H _ I q) fun f s' hs => by
  cases f with
  | next => obtain ⟨σ', H', I', r⟩ := hs; exact ⟨σ', H', I', hR σ' H' r⟩
  | brk => exact hs
  | cont => exact hs
  | ret v => exact hs
end
end L2
namespace L2
open PySem PySem.Spec PyProof.Rows
section
variable {X : Cx} {K : PySem.W.Frag} {w : World}
theorem kEq (hu : X.A.units < cLine) (hK : X.K = K := by rfl) : OpR X (compareOp .Eq) (fun x y H Q => rEq x y H Q ∨ rEqL K true x y H Q) := by subst hK; exact uEq hu
theorem kNe (hu : X.A.units < cLine) (hK : X.K = K := by rfl) : OpR X (compareOp .NotEq) (fun x y H Q => rNe x y H Q ∨ rEqL K false x y H Q) := by subst hK; exact uNe hu
theorem kIn (hK : X.K = K := by rfl) (hw : X.w = w := by rfl) : OpR X (compareOp .In) (fun x y H Q => (∃ i j, x = .str i ∧ y = .str j ∧ Q (.bl (!(Builtin.Str.occurrences j i 0 j.length 1).isEmpty)) H) ∨ rIn K false x y H Q ∨ (∃ k a kvs, x = .str k ∧ y = .ref a ∧ TopD w K a kvs ∧ Q (.bl (kvs.lookup k).isSome) H)) := by
  subst hK; subst hw; exact uIn
theorem kNotIn (hK : X.K = K := by rfl) : OpR X (compareOp .NotIn) (fun x y H Q => (∃ i j, x = .str i ∧ y = .str j ∧ Q (.bl (!(!(Builtin.Str.occurrences j i 0 j.length 1).isEmpty))) H) ∨ rIn K true x y H Q) := by subst hK; exact uNotIn
theorem kIx (hK : X.K = K := by rfl) (hw : X.w = w := by rfl) : IxR X (fun x y H Q => rIxL K x y H Q ∨ rIxT K x y H Q ∨ rIxS x y H Q ∨ rIxTop w K x y H Q) := by subst hK; subst hw; exact ix_any
theorem kSl (hK : X.K = K := by rfl) : SlR X (fun x lo hi H Q => rSlL K x lo hi H Q ∨ rSlT K x lo hi H Q) := by subst hK; exact sl_any
theorem k_len (hK : X.K = K := by rfl) : CallR X (.builtin "len") (fun xs H Q => ∃ x n, xs = [x] ∧ LenV K x H n ∧ Q (.int n) H) := by subst hK; exact call_len
theorem k_tuple (hK : X.K = K := by rfl) : CallR X (.type "tuple") (fun xs H Q => ∃ p ys, xs = [.ref p] ∧ ((SqL K H p ys ∧ ∀ l, H l = none → Q (.ref l) (upd H l (.tup ys))) ∨ SqT K H p ys ∧ Q (.ref p) H)) := by subst hK; exact call_tuple_of
theorem k_isi (hK : X.K = K := by rfl) : CallR X (.builtin "isinstance") (fun xs H Q => ∃ x c t b, xs = [x, .ty c] ∧ TyOf K H x t ∧ PySem.W.kitOne K t (.type c) = some b ∧ Q (.bl b) H) := by subst hK; exact call_isi
variable {o e st l c : Expr} {es : List Expr} {to te ts tl : TE} {t : TA} {name : Str} {apos cpos pos p2 : Pos} {T id : String} {r : V → List V → Hp → VK → Prop} {tg : Expr}
theorem k_bm (pa : PlainAttrs T) (slot : Slot T name id) (hty : typeOf (.builtin id) = pure (.type "method_descriptor")) (hm : MtR X id r) (ho : PE X o to) (ha : PA X (e :: es) t) (hK : X.K = K := by rfl)
    (hbase : attributeBase o name X.env (eval o X.env) = eval o X.env := by rfl)
    (hfew : ((backTo cpos (starEach (e :: es) X.env)).all (fun x => !x.1) && (backToKw cpos (keywordEach [] X.env)).all (fun x => x.1.isSome)
      && decide ((e :: es).length + ([] : List Keyword).length + (if ([] : List Keyword).isEmpty then 0 else 1) < 30)) = true := by rfl)
    (hline : (apos.endLine == cpos.line) = true := by rfl) (hs : starEach (e :: es) X.env = (false, eval e X.env) :: starEach es X.env := by rfl) (hplain : (backTo cpos (starEach es X.env)).any (·.1) = false := by rfl) :
    PE X (.Call (.Attribute o name apos) (e :: es) [] cpos) (tBM K T r to t) := by
  subst hK; exact pe_bm pa slot hty hm ho ha hbase hfew hline hs hplain
theorem k_ilist (hl : PE X l tl) (hK : X.K = K := by rfl) : PI X tg l (iList K tl) := by subst hK; exact pi_list hl
def tTru (K : PySem.W.Frag) (ta : TE) : TT := fun σ H Q => ta σ H fun x H' => ∃ k, TruV K x H' k ∧ Q k H'
theorem k_truth (ha : PE X e te) (he : ∀ whole, isTrue e X.env whole = (do let v ← whole; standAt e.pos; holding [v] (truthy v))) (hK : X.K = K := by rfl) : PT X e (tTru K te) := by subst hK; exact pt_truth ha he
end
theorem noTest {σ : St} {H : Hp} {A B : Hp → Prop} (h : A H) : tNoTest σ H (fun b H2 => if b = true then A H2 else B H2) := by
  show if true = true then A H else B H
  rw [if_pos rfl]; exact h
def strsOf : List Expr → Option (List Str)
  | [] => some []
  | .Constant (.str x) _ _ :: r => (strsOf r).map (x :: ·)
  | _ => none
def tStrs (zs : List Str) : TA := fun _ H Q => Q (zs.map V.str) H
theorem pa_strs {X : Cx} : ∀ {es : List Expr} {zs : List Str}, strsOf es = some zs → PA X es (tStrs zs)
  | [], zs, h => by
    have e : zs = [] := by cases h; rfl
    subst e
    exact pa_nil
  | e :: r, zs, h => by
    have hx : ∃ x a b, e = .Constant (.str x) a b ∧ ∃ ys, strsOf r = some ys ∧ zs = x :: ys := by
      unfold strsOf at h
      split at h
      · rename_i h1; cases h1
      · rename_i x a b r' h1
        injection h1 with h1 h2
        subst h1; subst h2
        cases q : strsOf r with
        | none => rw [q] at h; cases h
        | some ys => rw [q] at h; cases h; exact ⟨x, a, b, rfl, ys, rfl, rfl⟩
      · cases h
    obtain ⟨x, a, b, rfl, ys, hr, rfl⟩ := hx
    exact pa_cons pe_str (pa_strs hr)
end L2
namespace L2
open PySem PySem.Spec PyProof.Rows
section
variable {M : Model} {A : Around} {E : Value → Shared → Prop} {s : Shared}
end
section
variable {X : Cx} {pins : List (Addr × Obj)} {σ : St} {H1 H2 : Hp} {s1 : Shared} {h1 h2 : Heap}
end
section
variable {P : Program} {w : World} {K : PySem.W.Frag} {mg : Str → Option Value} {base : Heap} {N : List Str} {qual : Str} {scope : Scope} {f : Addr} {cd : Value} {A : Around} {outer : List Env} {s : Shared} {H : Hp} {E : XK}
  {pins : List (Addr × Obj)} {σ : St} {H1 : Hp} {s1 : Shared}
end
end L2
namespace L2
open PySem PySem.Spec PyProof.Rows
section
variable {P : Program} {w : World} {K : PySem.W.Frag} {mg : Str → Option Value} {base : Heap} {N : List Str} {qual : Str} {scope : Scope} {f : Addr} {cd : Value} {A : Around} {outer : List Env} {s : Shared} {H : Hp} {E : XK}
end
end L2
namespace L2
open PySem PySem.Spec PyProof.Rows
section
variable {h g : Heap} {H : Hp} {a : Addr} {C : Value}
end
section
variable {fs : List Addr} {H1 H2 : Hp} {h0 h1 h2 : Heap}
end
section
variable {X : Cx} {pins : List (Addr × Obj)} {σ : St} {H1 H2 : Hp} {s1 s2 : Shared} {a : Addr} {C : Value}
end
end L2
namespace L2
open PySem PySem.Spec PyProof.Rows
section
variable {X : Cx} {pins : List (Addr × Obj)} {σ : St} {H : Hp} {s : Shared}
end
section
variable {M : Model} {A : Around} {E : Value → Shared → Prop} {h : Heap} {g : Array GenState} {d : Drawn} {t : Nat} {os : OsState}
end
section
variable {X : Cx} {pins : List (Addr × Obj)} {σ : St} {H : Hp} {s : Shared} {e : Value}
end
end L2
namespace L2
open PySem PySem.Spec PyProof.Rows
section
variable {X : Cx} {pins : List (Addr × Obj)} {σ : St} {H : Hp} {s : Shared} {xe : Value → Shared → Prop}
end
abbrev TEX := St → Hp → VK → XK → Prop
abbrev TSX := Ends → (St → XK) → St → Hp → Prop
section
variable {X : Cx} {k : Nat} {f C : Addr} {fd : FuncData} {ps : List Str} {sp : Sp} {dvs : List V} {ds : List Value} {x m : Str} {p pos apos : Pos} {e o : Expr} {es : List Expr} {ta : TE} {t : TA}
end
section
variable {X : Cx} {e : Expr} {pos : Pos} {t : TEX} {st : Stmt} {rest : List Stmt} {a b : List Stmt} {ta tb : TSX}
end
end L2
namespace L2
open PySem PySem.Spec PyProof.Rows
section
variable {X : Cx} {x n : Str} {np hpos pos : Pos} {body suite : List Stmt} {b₀ : Stmt} {i : Nat} {tb : TSX} {ts : TS} {D0 : Addr} {Ok : Addr → Prop}
end
end L2
namespace L2
open PySem PySem.Spec PyProof.Rows
section
variable {prog : Program} {w : World} {A : Around} {E : Value → Shared → Prop} {h : Heap} {g : Array GenState} {d : Drawn} {t : Nat} {os : OsState} {a C : Addr} {o : Obj} {bm bmB : List Value} {nid : String}
end
section
variable {X : Cx} {pins : List (Addr × Obj)} {σ : St} {H : Hp} {s : Shared}
end
end L2
namespace L2
open PySem PySem.Spec PyProof.Rows
section
variable {X : Cx} {tg : Expr}
end
end L2
namespace L2
open PySem PySem.Spec PyProof.Rows
section
variable {X : Cx}
variable {e v1 v2 : Expr} {es : List Expr} {te : TE} {tp t : St → Hp → (Hp → Prop) → Prop} {pos : Pos}
end
end L2
namespace L2
open PySem PySem.Spec PyProof.Rows
section
variable {X : Cx} {K : PySem.W.Frag}
end
abbrev tx (l : List Nat) : Str := ⟨l.toArray⟩
end L2
namespace PySem
end PySem
namespace L2
open PySem PySem.Spec PyProof.Rows
section
variable {X : Cx}
variable {o e f : Expr} {td : TE} {t : TA} {apos cpos : Pos} {K : PySem.W.Frag} {w : World}
end
end L2
namespace L2
open PySem PySem.Spec PyProof.Rows
section
variable {X : Cx} {K : PySem.W.Frag}
end
end L2
namespace L2
open PySem PySem.Spec PyProof.Rows
theorem Inv.turnedL {X : Cx} {pins : List (Addr × Obj)} {σ : St} {H : Hp} {s : Shared} {h' : Heap} {t' : Nat} {ch : List Addr} (I : Inv X pins σ H s) (k : ∀ b o, b ∉ ch → s.heap.get? b = some o → h'.get? b = some o) (hf : ∀ b ∈ ch, FpOk X pins H b) :
    Inv X pins σ H { s with heap := h', toks := t' } := by
  have nit : ∀ b u, H b = some u → b ∉ ch := fun b u e z => by rw [(hf b z).1] at e; cases e
  refine I.step (g' := s.gens) (d' := s.drawn) (ch := ch) (fun b hb => ?_) (fun b o _ _ hc e _ => k b o hc e) (fun b o _ _ hc e _ => ⟨o.slots, k b o hc e⟩) (fun _ _ _ _ n => n)
    (fun b o hc e => ⟨o, k b o hc e⟩) (fun _ _ e => e) (fun _ _ _ e => e) (fun b ps e => ⟨#[], by rw [e]; simp⟩) (fun m hm => ?_) (fun b u e => ?_) I.bare
  · obtain ⟨_, f1, _, f3, f4, f5⟩ := hf b hb
    exact ⟨f3, f1, f4, f5⟩
  · obtain ⟨o, es, ep, ho, r⟩ := hm
    exact ⟨o, es, ep, k _ o (fun z => (hf _ z).2.1 rfl) ho, r⟩
  · refine (I.hok b u e).stay (fun c v hc q => k c v ?_ q) (fun _ q => q) fun _ _ q => q
    rcases hc with z | z
    · rw [z]; exact nit b u e
    · exact nit c _ z
section
variable {X : Cx} {P : Program} {w : World} {K : PySem.W.Frag} {mg : Str → Option Value} {base : Heap} {A : Around} {CX : CXT} {E : XK} {x : Str} {p pos : Pos} {e : Expr} {es : List Expr} {tf : TE} {t : TA}
end
section
variable {X : Cx} {tg : Expr} {K : PySem.W.Frag}
end
end L2
namespace PySem
namespace F
end F
section
variable {prog : Program} {w : World} {A : Around} {E : Value → Shared → Prop} {s : Shared}
end
end PySem
namespace L2
open PySem PySem.Spec PyProof.Rows
section
variable {X : Cx} {K : PySem.W.Frag}
end
end L2
namespace L2
open PySem PySem.Spec PyProof.Rows
section
variable {X : Cx} {K : PySem.W.Frag} {elts : List Expr} {kt : Nat} {pt : Pos}
end
theorem compLoop_own {prog : Program} {w : World} {A : Around} {R : Result → Shared → Prop} {s : Shared} {elt target iter : Expr} {ifs : List Expr} {scope : Scope} {pos : Pos} {it acc : Value} {env : Env} (I : Nat → Shared → Prop)
    (turn : ∀ n s, I n s → wpAny (model prog w) A (pyNext it) (fun r s₁ => match r with
      | none => R (.ok .next) s₁
      | some v => wpAny (model prog w) A (letOwnedTupleGo target it v) (fun _ s₀ => wpAny (model prog w) A (assign target env v) (fun _ s₂ =>
          wpAny (model prog w) A (forIn ifs true fun c r => if r = true then do let ok ← isTrue c env (eval c env); pure (ForInStep.yield ok) else pure (ForInStep.yield r)) (fun ok s₃ =>
            if ok = true then wpAny (model prog w) A (eval elt env) (fun x s₄ =>
              wpAny (model prog w) A (call (.builtin "list.append") [acc, x]) (fun _ s₅ => ∃ m, m < n ∧ I m s₅) (notedBy (model prog w) A env fun e s' => R (.error e) s') s₄) (notedBy (model prog w) A env fun e s' => R (.error e) s') s₃
            else ∃ m, m < n ∧ I m s₃) (notedBy (model prog w) A env fun e s' => R (.error e) s') s₂) (notedBy (model prog w) A env fun e s' => R (.error e) s') s₀) (notedBy (model prog w) A env fun e s' => R (.error e) s') s₁)
      (notedBy (model prog w) A env fun e s' => R (.error e) s') s)
    (n : Nat) (h : I n s) : codeAny (model prog w) A (.compLoop (.ListComp elt [⟨target, iter, ifs, 0⟩] scope pos) 0 it acc env) R s := by
  refine codeAny_loop rfl I (fun n s hI => ?_) n h
  show wpAny _ A ((compTurn (.ListComp elt [⟨target, iter, ifs, 0⟩] scope pos) 0 it acc env).onRaise (fun x => do noteFrame x env; theTreesLotGoes x)) _ _ s
  refine wpAny_noted ?_
  rw [compTurn_list]
  refine wpAny_bind (wpAny_standAt (wpAny_bind (thn (turn n s hI) fun r s₁ h₁ => ?_)))
  cases r with
  | none => exact wpAny_pure h₁
  | some v =>
    refine wpAny_bind (thn h₁ fun _ s₀ h₀ => wpAny_bind (thn h₀ fun _ s₂ h₂ => wpAny_bind (thn h₂ fun ok s₃ h₃ => ?_)))
    cases ok with
    | false => exact wpAny_pure ⟨rfl, h₃⟩
    | true => exact wpAny_bind (wpAny_bind (thn h₃ fun x s₄ h₄ => wpAny_bind (thn h₄ fun _ s₅ h₅ => wpAny_pure (wpAny_pure ⟨rfl, h₅⟩))))
structure CompScope2 (N : List Str) (sc scope : Scope) (x1 x2 : Str) (caps : List Nat) (ns : List Str) : Prop where
  cell : ∀ y ∈ scope.names, y.2 ≠ .cell
  kind : scope.kind = .function
  names : ∀ y ∈ scope.names, y.2 = .local → scope.names.lookup y.1 = some .local
  var1 : scope.names.lookup x1 = some .local
  var2 : scope.names.lookup x2 = some .local
  free : ∀ y ∈ scope.names, y.2 = .free → sc.names.lookup y.1 = some .cell ∨ sc.names.lookup y.1 = some .free
  at_ : caps.map (fun j => N[j]?) = ns.map some
  nsf : ∀ y ∈ ns, scope.names.lookup y = some .free
  nd : (x1 :: x2 :: ns).Nodup
def capσ2 (caps : List Nat) (σ : St) (u v : Option V) : St := u :: v :: caps.map fun j => (σ[j]?).getD none
def tCompR2 (K : PySem.W.Frag) (wi : TI) (caps : List Nat) (tt : TT) (te : TE) (σ : St) (H : Hp) (R : List V → Hp → Prop) : Prop := wi σ H fun J H1 => ∃ W : Nat → Nat → List V → Hp → Prop, (∃ m, W 0 m [] H1) ∧ ∀ i m ys H, W i m ys H →
  ys.length ≤ sizeLine ∧ ((J.stop i H ∧ R ys H) ∨ (J.go i H ∧ ∃ N : List V → Hp → Prop, (∀ ys' H', N ys' H' → ∃ m', m' < m ∧ W (i + 1) m' ys' H') ∧ ∀ v H', J.yld i H v H' → ∃ a v1 v2, v = .ref a ∧ SqT K H' a [v1, v2] ∧
    tt (capσ2 caps σ (some v1) (some v2)) H' fun b H2 => if b = true then te (capσ2 caps σ (some v1) (some v2)) H2 fun y H3 => N (ys ++ [y]) H3 else N ys H2))
def tComp2 (K : PySem.W.Frag) (wi : TI) (caps : List Nat) (tt : TT) (te : TE) : TE := fun σ H Q => tCompR2 K wi caps tt te σ H fun ys H1 => ∀ D, H1 D = none → Q (.ref D) (upd H1 D (.lst ys))
section
variable {X : Cx}
set_option maxHeartbeats 4000000 in
theorem comp_core2 {x1 x2 : Str} {px1 px2 ptu : Pos} {ktu : Nat} {iter elt : Expr} {ifs : List Expr} {scope : Scope} {pos pos' : Pos} {wi : TI} {tt : TT} {te : TE} {caps : List Nat} {ns : List Str} {use : Option (Value → Sem Unit)} {Q : Value → Shared → Prop}
    {pins : List (Addr × Obj)} {s : Shared} {σ : St} {H : Hp} {R : List V → Hp → Prop}
    (CS : CompScope2 X.N X.env.scope scope x1 x2 caps ns) (hc : X.calm = true) (hi : PI X (.Tuple [.Name x1 px1, .Name x2 px2] ktu ptu) iter wi)
    (ht : ∀ cl C s H fp, PTs (X.comp (x1 :: x2 :: ns) scope cl C s H fp) ifs tt) (he : ∀ cl C s H fp, PE (X.comp (x1 :: x2 :: ns) scope cl C s H fp) elt te)
    (hs : ∀ v, foldedSetIterable iter X.env v = pure v)
    (I : Inv X pins σ H s) (h : tCompR2 X.K wi caps tt te σ H R)
    (hend : ∀ D C s' H' ys, Inv X pins σ (upd H' D (.lst ys)) s' → H' D = none → R ys H' → (∃ m, s'.heap.Ns C m) → (upd H' D (.lst ys)) C = none → C ≠ X.env.locals → X.s₀.heap.objs.size ≤ C → (∀ y c, X.env.cells.lookup y = some c → c ≠ C) → (∀ p ∈ X.pn ++ pins, p.1 ≠ C) →
      compPost (model X.prog X.w) X.A X.xe use Q (.ref D) C (.ok .next) s') :
    wpAny (model X.prog X.w) X.A (comprehension (.ListComp elt [⟨.Tuple [.Name x1 px1, .Name x2 px2] ktu ptu, iter, ifs, 0⟩] scope pos) scope X.env pos' (newList []) false (eval iter X.env) use) Q X.xe s := by
  have hcells : ∀ y ∈ scope.names, y.2 = .free → ∃ c, X.env.cells.lookup y.1 = some c := fun y hy hf => I.ok.has y.1 (CS.free y hy hf)
  refine wpAny_comprehension_free (use := use) rfl hs (closureFor_some hcells) CS.kind CS.names ?_
  refine thn (hi pins s σ H _ I h) fun v s1 h1 => thn h1 fun itv s2 h2 => ?_
  obtain ⟨it, fp, tn, J, H2, e, I2, T, st2, f2, W, ⟨m0, w0⟩, turn⟩ := h2
  subst e
  refine wpAny_newObj_type (wpAny_newFunctionEnv CS.cell (by intro y hy; simp at hy) (fun h₁ hns₁ hsb₁ => ?_) CS.kind)
  dsimp only at hns₁ hsb₁ ⊢
  generalize hHH : s2.heap.push { cls := .type "list", dict := none, data := .seq ([] : List Value).toArray } = HH at hns₁ hsb₁ ⊢
  have hC : HH.objs.size = s2.heap.objs.size + 1 := by rw [← hHH, Heap.size_push]
  generalize hCe : HH.objs.size = C at hns₁ hsb₁ hC ⊢
  have hDC : s2.heap.objs.size ≠ C := by rw [hC]; exact Nat.ne_of_lt (Nat.lt_succ_self _)
  have below : ∀ b, b < s2.heap.objs.size → b ≠ C ∧ b ≠ s2.heap.objs.size := fun b hb => ⟨by rw [hC]; exact Nat.ne_of_lt (Nat.lt_succ_of_lt hb), Nat.ne_of_lt hb⟩
  have old : ∀ b o, s2.heap.get? b = some o → h₁.get? b = some o := fun b o e => hsb₁.extBut b o (below b (Heap.lt_size e)).1 (Heap.get?_push_of_some _ (hHH ▸ Heap.get?_push_of_some _ e))
  have hacc : h₁.get? s2.heap.objs.size = some (LCg.lst []) := hsb₁.extBut _ _ hDC (Heap.get?_push_of_some _ (hHH ▸ Heap.get?_push_size _ rfl))
  have nfp : ∀ b ∈ fp, b < s2.heap.objs.size := fun b hb => let ⟨o, e, _⟩ := T.obj _ _ st2 b hb; Heap.lt_size e
  have clsub : ∀ y c, (clOf X.env.cells scope.names []).lookup y = some c → X.env.cells.lookup y = some c := fun y c e => by
    rcases clOf_mem scope.names [] (y, c) hcells (PySem.mem_of_lookup e) with q | q
    · cases q
    · exact q.1
  have fresh2 : ∀ a, s2.heap.objs.size ≤ a → H2 a = none := fun a ha => I2.hok.fresh ha
  generalize hcl : clOf X.env.cells scope.names [] = cl at clsub ⊢
  have clhas : ∀ y, (y, NameKind.free) ∈ scope.names → ∃ c, cl.lookup y = some c := fun y hy => by
    obtain ⟨c, q⟩ := clOf_has (cells := X.env.cells) scope.names [] y (.inl hy)
    rw [hcl] at q
    obtain ⟨d, q1, _⟩ := lookup_of_mem q
    exact ⟨d, q1⟩
  have ltC : ∀ y c, X.env.cells.lookup y = some c → c < s2.heap.objs.size := fun y c e => let ⟨v, z⟩ := I2.cell y c e; z.lt
  have ok' : (X.comp (x1 :: x2 :: ns) scope cl C s2 H2 fp).Ok := by
    refine ⟨I2.ok.mod, CS.kind, I2.ok.glob, I2.ok.blt, (by show s2.heap.objs.size ≤ C; rw [hC]; exact Nat.le_succ _), fun y z c a b => I2.ok.inj y z c (clsub y c a) (clsub z c b), fun y hy => clhas y (kindOf_relabel hy CS.cell), fun y c z => (by cases z), I2.ok.hd, I2.ok.frames, .inl rfl,
      fun b hb => ⟨(below b (nfp b hb)).1, fun y c e z => (f2 b hb).2.2.2.2.1 y c (clsub y c e) z⟩, fun b o e => I2.bs b o e, Nat.le_trans I2.ok.bsz I2.sz, fun b o e hb => ?_, fun b hb hf => ?_, I2.stack, I2.stkFree⟩
    · rcases (f2 b hb).2.2.2.1 with z | z
      · exact I2.ok.noex b o e z
      · exact absurd (Nat.lt_of_lt_of_le (Heap.lt_size e) (Nat.le_trans I2.ok.bsz z)) (Nat.lt_irrefl _)
    · rcases List.mem_cons.mp (I2.stkSub b hf) with z | z
      · exact (f2 b hb).2.1 z
      · exact (f2 b hb).2.2.1 z
  have capget : ∀ (k : Nat) (y : Str) (v : V), (x1 :: x2 :: ns)[k]? = some y → (capσ2 caps σ none none)[k]? = some (some v) → ∃ j, X.N[j]? = some y ∧ σ[j]? = some (some v) ∧ scope.names.lookup y = some .free := fun k y v e1 e2 => by
    match k, e1, e2 with
    | 0, _, e2 => cases e2
    | 1, _, e2 => cases e2
    | k + 2, e1, e2 =>
      have e1' : ns[k]? = some y := by simpa using e1
      have e2' : (caps.map fun j => (σ[j]?).getD none)[k]? = some (some v) := by simpa [capσ2] using e2
      have e3 : (ns.map some)[k]? = some (some y) := by rw [List.getElem?_map, e1']; rfl
      rw [← CS.at_, List.getElem?_map] at e3
      rw [List.getElem?_map] at e2'
      cases hj : caps[k]? with
      | none => rw [hj] at e3; cases e3
      | some j =>
        rw [hj] at e3 e2'
        have e4 : X.N[j]? = some y := Option.some.inj e3
        have e5 : (σ[j]?).getD none = some v := Option.some.inj e2'
        refine ⟨j, e4, ?_, CS.nsf y (List.mem_of_getElem? e1')⟩
        cases hσ : σ[j]? with
        | none => rw [hσ] at e5; cases e5
        | some z => rw [hσ] at e5; have e6 : z = some v := e5; rw [e6]
  have visfree : ∀ y, scope.names.lookup y = some .free → X.env.kindOf y = some .cell ∨ X.env.kindOf y = some .free := fun y hy => CS.free (y, .free) (PySem.mem_of_lookup hy) rfl
  have I0 : Inv (X.comp (x1 :: x2 :: ns) scope cl C s2 H2 fp) (pins ++ [(s2.heap.objs.size, LCg.lst [])]) (capσ2 caps σ none none) H2 { s2 with heap := h₁, toks := s2.toks + ([] : List (Str × Value)).length } := by
    obtain ⟨m2, hn2, hl2⟩ := I2.loc
    refine ⟨ok', rfl, I2.bare, Un.kept old, ⟨_, hns₁, fun k y v e1 e2 e3 => ?_⟩, fun y c e => ?_, fresh2 C (by rw [hC]; exact Nat.le_succ _), fun y c e => I2.freeC y c (clsub y c e), fun p hp => ?_, I2.hok.kept old, ?_⟩
    · obtain ⟨j, q1, q2, q3⟩ := capget k y v e1 e2
      have vf := visfree y q3
      obtain ⟨u, ru, lk⟩ := hl2 j y v q1 q2 (vf.elim (fun z => .inr (.inl z)) fun z => .inr (.inr z))
      refine ⟨u, ru, .inr ⟨lookup_relabel_free q3, ?_⟩⟩
      obtain ⟨c, hcl'⟩ := clhas y (PySem.mem_of_lookup q3)
      refine ⟨c, hcl', ?_⟩
      rcases lk with ⟨k1, _⟩ | ⟨_, c', e', z⟩
      · rcases vf with vf | vf <;> (rw [k1] at vf; cases vf)
      · have q := clsub y c hcl'
        rw [e'] at q
        cases q
        exact z.keeps old
    · obtain ⟨v, z⟩ := I2.cell y c (clsub y c e)
      exact ⟨v, z.keeps old⟩
    · rcases List.mem_append.mp hp with hp | hp
      · obtain ⟨a1, a2, a3, a4, a5⟩ := I2.pin p (List.mem_append_left _ hp)
        refine ⟨old _ _ a1, a2, (below _ (Heap.lt_size a1)).1, fun z => ?_, a5⟩
        rcases List.mem_cons.mp (I2.stkSub _ z) with z | z
        · exact a3 z
        · exact a4 z
      · rcases List.mem_append.mp hp with hp | hp
        · obtain ⟨a1, a2, a3, a4, a5⟩ := I2.pin p (List.mem_append_right _ hp)
          refine ⟨old _ _ a1, a2, (below _ (Heap.lt_size a1)).1, fun z => ?_, a5⟩
          rcases List.mem_cons.mp (I2.stkSub _ z) with z | z
          · exact a3 z
          · exact a4 z
        · have e : p = (s2.heap.objs.size, LCg.lst []) := by simpa using hp
          subst e
          refine ⟨hacc, fresh2 _ (Nat.le_refl _), hDC, fun z => ?_, fun v z => by cases z⟩
          rcases List.mem_cons.mp (I2.stkSub _ z) with z | z
          · exact absurd I2.lt (by rw [← z]; exact Nat.lt_irrefl _)
          · exact I2.nofs (Nat.le_refl _) z
    · show (capσ2 caps σ none none).length = (x1 :: x2 :: ns).length
      have := congrArg List.length CS.at_
      simp only [List.length_map] at this
      simp [capσ2, this]
  have loop : ∀ s₃ : Shared, s₃ = { s2 with heap := h₁, toks := s2.toks + ([] : List (Str × Value)).length } →
      codeAny (model X.prog X.w) X.A (.compLoop (.ListComp elt [⟨.Tuple [.Name x1 px1, .Name x2 px2] ktu ptu, iter, ifs, 0⟩] scope pos) 0 (.ref it) (.ref s2.heap.objs.size) (compEnvC scope cl C X.env))
        (compPost (model X.prog X.w) X.A X.xe use Q (.ref s2.heap.objs.size) C) s₃ := by
    rintro s₃ rfl
    refine compLoop_own (fun n s' => ∃ i ys us H', Inv (X.comp (x1 :: x2 :: ns) scope cl C s2 H2 fp) (pins ++ [(s2.heap.objs.size, LCg.lst us)]) (capσ2 caps σ none none) H' s' ∧ Vals ys us ∧ tn i s'.heap ∧ (∀ b ∈ fp, H' b = none) ∧ W i n ys H') ?_ m0
      ⟨0, [], [], H2, I0, .nil, T.keep _ _ _ st2 (fun b _ o e => old b o e), fun b hb => (f2 b hb).1, w0⟩
    rintro n s3 ⟨i, ys, us, H3, I3, rv, st3, fr3, w3⟩
    obtain ⟨hle, hstep⟩ := turn i n ys H3 w3
    have pinlt : ∀ p ∈ X.pn ++ pins, p.1 < s2.heap.objs.size := fun p hp => Heap.lt_size (I2.pin p hp).1
    have stat : ∀ {H' : Hp}, (∀ b ∈ fp, H' b = none) → ∀ b ∈ fp, FpOk (X.comp (x1 :: x2 :: ns) scope cl C s2 H2 fp) (pins ++ [(s2.heap.objs.size, LCg.lst us)]) H' b := fun hn b hb =>
      ⟨hn b hb, (below b (nfp b hb)).1, ok'.exfs b hb, .inl hb, fun y c e z => (f2 b hb).2.2.2.2.1 y c (clsub y c e) z, fun p hp => by
        rcases List.mem_append.mp hp with hp | hp
        · exact (f2 b hb).2.2.2.2.2 p (List.mem_append_left _ hp)
        · rcases List.mem_append.mp hp with hp | hp
          · exact (f2 b hb).2.2.2.2.2 p (List.mem_append_right _ hp)
          · have e : p = (s2.heap.objs.size, LCg.lst us) := by simpa using hp
            subst e
            exact Ne.symm (below b (nfp b hb)).2⟩
    have memD : ∀ (l : List (Addr × Obj)), (s2.heap.objs.size, LCg.lst us) ∈ (X.comp (x1 :: x2 :: ns) scope cl C s2 H2 fp).pn ++ ((pins ++ [(s2.heap.objs.size, LCg.lst us)]) ++ l) := fun l =>
      List.mem_append_right _ (List.mem_append_left _ (List.mem_append_right _ List.mem_cons_self))
    rcases hstep with ⟨stop, r⟩ | ⟨go, Nx, hNx, step⟩
    · refine thn (T.done (X.comp (x1 :: x2 :: ns) scope cl C s2 H2 fp) rfl rfl rfl hc i _ s3 _ H3 _ I3 (stat fr3) st3 stop) fun r' s4 ⟨hr, I4⟩ => ?_
      subst hr
      have pD := I4.pin (s2.heap.objs.size, LCg.lst us) (List.mem_append_right _ (List.mem_append_right _ List.mem_cons_self))
      have hDn : H3 s2.heap.objs.size = none := pD.2.1
      have hCn : H3 C = none := I4.free
      have b4 : Un (frs X.stack) fp H2 H3 s2.heap s4.heap := I4.base
      have u4 : Un (frs X.stack) fp H2 (upd H3 s2.heap.objs.size (.lst ys)) s2.heap s4.heap :=
        ⟨b4.keep, b4.slot, fun b o e n hx => by rw [upd_ne (below b (Heap.lt_size e)).2]; exact b4.free b o e n hx, b4.there,
          fun b xs q => by rw [upd_ne (ne_of_none (b4.tups b xs q) hDn)]; exact b4.tups b xs q, fun b o u q => by rw [upd_ne (ne_of_none (b4.frzs b o u q) hDn)]; exact b4.frzs b o u q,
          fun b ps q => by
            obtain ⟨m1, e1⟩ := b4.tbls b ps q
            exact ⟨m1, by rw [upd_ne (ne_of_none e1 hDn)]; exact e1⟩⟩
      have k4 : HOk X.prog X.w (upd H3 s2.heap.objs.size (.lst ys)) s4.heap := fun b u e => by
        by_cases hb : b = s2.heap.objs.size
        · subst hb
          rw [upd_same] at e
          cases e
          exact ⟨hle, us, _, rv, pD.1⟩
        · rw [upd_ne hb] at e
          exact (I4.hok b u e).stay (fun c v _ q => q) (fun c q => by rw [upd_ne (ne_of_none q hDn)]; exact q) fun c xs q => by rw [upd_ne (ne_of_none q hDn)]; exact q
      have J4 : Inv X pins σ (upd H3 s2.heap.objs.size (.lst ys)) s4 := I2.call' (ch := fp) I4.os u4 k4 I4.bare fun b hb => ⟨(f2 b hb).2.2.2.1, (f2 b hb).2.1, (f2 b hb).2.2.2.2.1, (f2 b hb).2.2.2.2.2⟩
      obtain ⟨mC, hnC, _⟩ := I4.loc
      exact hend _ C s4 H3 ys J4 hDn r ⟨mC, hnC⟩ (by rw [upd_ne (Ne.symm hDC)]; exact hCn) (Ne.symm (below _ I2.lt).1) (by rw [hC]; exact Nat.le_succ_of_le I2.sz) (fun y c e => (below c (ltC y c e)).1) fun p hp => (below _ (pinlt p hp)).1
    · refine thn (T.item (X.comp (x1 :: x2 :: ns) scope cl C s2 H2 fp) rfl rfl rfl hc i _ s3 _ H3 _ I3 (stat fr3) st3 go) fun r' s4 ⟨u, hr, h4⟩ => ?_
      subst hr
      refine thn h4 fun _ s5 ⟨v, H5, I5, r5, y5, st5, fr5⟩ => ?_
      have I5' := I5.pinned (stat fr5) (T.obj _ _ st5)
      obtain ⟨aT, v1, v2, ev, hT, step'⟩ := step v H5 y5
      have PGt : PG (X.comp (x1 :: x2 :: ns) scope cl C s2 H2 fp) (.Tuple [.Name x1 px1, .Name x2 px2] ktu ptu) (gTup X.K 2 (gCons (gName 0) (gCons (gName 1) gNil))) :=
        pg_tup (X := X.comp (x1 :: x2 :: ns) scope cl C s2 H2 fp) hc (pgs_cons (pg_name (i := 0) CS.nd rfl (.inl (lookup_relabel_local CS.var1)) (.inr (lookup_relabel_local CS.var1)))
          (pgs_cons (pg_name (i := 1) CS.nd rfl (.inl (lookup_relabel_local CS.var2)) (.inr (lookup_relabel_local CS.var2))) pgs_nil))
      refine wpAny_mono (PGt _ s5 _ H5 v u (fun σ' H' => σ' = capσ2 caps σ (some v1) (some v2) ∧ H' = H5) I5' r5 ⟨aT, [v1, v2], ev, hT, rfl, v1, [v2], rfl, v2, [], rfl, rfl, rfl, rfl⟩) (fun _ s6 hs6 => ?_) (fun _ _ e => e.elim)
      obtain ⟨σ6, H6, I6', e6, e6'⟩ := hs6
      subst e6'
      subst e6
      refine wpAny_mono (ht cl C s2 H2 fp _ s6 _ _ _ I6' step') (fun b s7 ⟨H7, I7, q7⟩ => ?_) (fun _ _ e => e.elim)
      have weak : ∀ {H' : Hp} {s' : Shared} {pl : List (Addr × Obj)}, Inv (X.comp (x1 :: x2 :: ns) scope cl C s2 H2 fp) pl (capσ2 caps σ (some v1) (some v2)) H' s' → Inv (X.comp (x1 :: x2 :: ns) scope cl C s2 H2 fp) pl (capσ2 caps σ none none) H' s' := fun {H' s' pl} J' =>
        J'.weak rfl fun k z e => by
          match k, e with
          | 0, e => cases e
          | 1, e => cases e
          | k + 2, e => exact e
      have keepT : ∀ {H' : Hp} {s' : Shared}, Inv (X.comp (x1 :: x2 :: ns) scope cl C s2 H2 fp) ((pins ++ [(s2.heap.objs.size, LCg.lst us)]) ++ pinsAt fp s5.heap) (capσ2 caps σ (some v1) (some v2)) H' s' → tn (i + 1) s'.heap ∧ ∀ b ∈ fp, H' b = none := fun {H' s'} J' => by
        refine ⟨T.keep _ _ _ st5 fun b hb o e => (J'.pin (b, o) (List.mem_append_right _ (List.mem_append_right _ (mem_pinsAt hb e)))).1, fun b hb => ?_⟩
        obtain ⟨o, e, d⟩ := T.obj _ _ st5 b hb
        exact (J'.pin (b, o) (List.mem_append_right _ (List.mem_append_right _ (mem_pinsAt hb e)))).2.1
      cases b with
      | false =>
        rw [if_neg Bool.false_ne_true] at q7 ⊢
        obtain ⟨m', hm, w7⟩ := hNx _ _ q7
        exact ⟨m', hm, i + 1, ys, us, H7, weak I7.unpinned, rv, (keepT I7).1, (keepT I7).2, w7⟩
      | true =>
        rw [if_pos rfl] at q7 ⊢
        refine wpAny_mono (he cl C s2 H2 fp _ s7 _ H7 _ I7 q7) (fun yv s8 ⟨y, H8, I8, ry, n8⟩ => ?_) (fun _ _ e => e.elim)
        obtain ⟨m', hm, w8⟩ := hNx _ _ n8
        have pD := I8.pin (s2.heap.objs.size, LCg.lst us) (memD _)
        have hul : us.length = ys.length := rv.length.symm
        refine append_at (hsz := by show us.toArray.size ≤ sizeLine; rw [List.size_toArray, hul]; exact hle) pD.1 fun h9 hs9 hD9 => ?_
        have I8p : Inv (X.comp (x1 :: x2 :: ns) scope cl C s2 H2 fp) pins (capσ2 caps σ none none) H8 s8 := weak I8.unpinned.unpinned
        have I9 : Inv (X.comp (x1 :: x2 :: ns) scope cl C s2 H2 fp) pins (capσ2 caps σ none none) H8 { s8 with heap := h9 } := I8p.turned (t' := s8.toks) (it := s2.heap.objs.size) (fun b o hb e => (hs9.2 b hb).trans e) pD.2.1 hDC (.inr (Nat.le_refl _)) (fun y c e z => Nat.ne_of_lt (ltC y c (clsub y c e)) z) fun p hp => Nat.ne_of_lt (pinlt p hp)
        have I9' : Inv (X.comp (x1 :: x2 :: ns) scope cl C s2 H2 fp) (pins ++ [(s2.heap.objs.size, LCg.lst (us ++ [yv]))]) (capσ2 caps σ none none) H8 { s8 with heap := h9 } := I9.pins_of fun p hp => by
          rcases List.mem_append.mp hp with hp | hp
          · exact I9.pin p (List.mem_append_right _ hp)
          · have e : p = (s2.heap.objs.size, LCg.lst (us ++ [yv])) := by simpa using hp
            subst e
            exact ⟨hD9.trans (congrArg some (LCg.lst_snoc us yv)), pD.2.1, hDC, pD.2.2.2.1, fun v z => by cases z⟩
        refine ⟨m', hm, i + 1, ys ++ [y], us ++ [yv], H8, I9', rv.append (.cons ry .nil), ?_, (keepT I8).2, w8⟩
        exact T.keep _ _ _ (keepT I8).1 fun b hb o e => (hs9.2 b (below b (nfp b hb)).2).trans e
  exact codeAny_compStart_list (loop _ rfl) (T.self X.A 0 _ _ _ (T.keep _ _ _ st2 (fun b _ o e => old b o e)) (loop _ rfl))
end
section
variable {X : Cx}
theorem pe_comp2 {x1 x2 : Str} {px1 px2 ptu : Pos} {ktu : Nat} {iter elt : Expr} {ifs : List Expr} {scope sc : Scope} {N : List Str} {pos : Pos} {wi : TI} {tt : TT} {te : TE} {caps : List Nat} {ns : List Str} {K : PySem.W.Frag}
    (CS : CompScope2 N sc scope x1 x2 caps ns) (hN' : X.N = N) (hsc : X.env.scope = sc) (hc : X.calm = true) (hi : PI X (.Tuple [.Name x1 px1, .Name x2 px2] ktu ptu) iter wi)
    (ht : ∀ cl C s H fp, PTs (X.comp (x1 :: x2 :: ns) scope cl C s H fp) ifs tt) (he : ∀ cl C s H fp, PE (X.comp (x1 :: x2 :: ns) scope cl C s H fp) elt te)
    (hs : ∀ v, foldedSetIterable iter X.env v = pure v := by intro _; rfl) (hK : X.K = K := by rfl) :
    PE X (.ListComp elt [⟨.Tuple [.Name x1 px1, .Name x2 px2] ktu ptu, iter, ifs, 0⟩] scope pos) (tComp2 K wi caps tt te) := by
  intro pins s σ H Q I h
  subst hN'; subst hsc; subst hK
  rw [eval_ListComp]
  refine comp_core2 CS hc hi ht he hs I h ?_
  rintro D C s' H' ys I' hD r ⟨m, hn⟩ c1 c2 c3 c4 c5
  exact ⟨m, hn, fun h' hs' => ⟨.ref D, _, I'.turned (t' := s'.toks) (fun b o hb e => (hs'.2 b hb).trans e) c1 c2 (.inr c3) c4 c5, rfl, r D hD⟩⟩
end
end L2
namespace L2
open PySem PySem.Spec PyProof.Rows
section
variable {X : Cx} {K : PySem.W.Frag}
end
end L2
namespace L2
open PySem PySem.Spec PyProof.Rows
section
variable {X : Cx} {K : PySem.W.Frag}
end
end L2
namespace Att
open PySem PySem.W PySem.Calls PyProof.Rows
end Att
namespace L2
open PySem PySem.Spec PyProof.Rows
end L2
namespace L2
open PySem PySem.Spec PyProof.Rows
section
variable {X : Cx} {K : PySem.W.Frag}
def rCatT0 (K : PySem.W.Frag) : R2 := fun x y H Q => ∃ a b ys, x = .ref a ∧ y = .ref b ∧ SqT K H a [] ∧ SqT K H b ys ∧ Q (.ref b) H
theorem op_catT0 : OpR X (binaryOp .Add) (rCatT0 X.K) := by
  intro pins s σ H x y v u Q I rx ry h
  obtain ⟨a, b, ys, rfl, rfl, ha, hb, q⟩ := h
  cases rx
  cases ry
  obtain ⟨its, r1, p1, _⟩ := I.tuple ha
  obtain ⟨its2, r2, p2, hz⟩ := I.tuple hb
  have e0 : its = [] := r1.nil_iff.mpr rfl
  subst e0
  obtain ⟨⟨cls, dd, data, sl⟩, ho, hc, n, hd⟩ := id p1
  obtain ⟨⟨cls2, dd2, data2, sl2⟩, ho2, hc2, n2, hd2⟩ := id p2
  simp only at hc hd hc2 hd2
  subst hc hd hc2 hd2
  exact concat_meets ⟨_, ho, rfl⟩ ⟨_, ho2, rfl⟩ noFill_tuple_add seq_tuple_add PySem.F.slot_tuple_add PySem.F.entry_tuple_add (PySem.F.args_tuple_add_2 _ _)
    (tuple_addW0 a b _ _ n n2 dd dd2 sl sl2 (by simp)) ⟨ho, ho2, ⟨.ref b, H, I, rfl, q⟩⟩
theorem kAddT (hK : X.K = K := by rfl) : OpR X (binaryOp .Add) (fun x y H Q => rI0 (fun i j => .int (i + j)) x y H Q ∨ rCatT K x y H Q ∨ rCatT0 K x y H Q) := by
  subst hK; exact op_add.or (op_catT.or op_catT0)
end
end L2
namespace PySem
open AutoSeq1 (wpAny_loadPart')
section
variable {prog : Program} {w : World} {A : Around} {E : Value → Shared → Prop} {s : Shared}
end
end PySem
namespace PySem
section
variable {prog : Program} {w : World} {A : Around} {E : Value → Shared → Prop} {s : Shared}
theorem enumTurn {e c l : Addr} {i : Nat} {j : Int} {its : Array Value} {x o0 : Value} {Q : Value → Shared → Prop} (hE : IsEnum s.heap e c j o0) (hC : s.heap.IsListIter c l i) (hL : s.heap.IsList l its) (hX : its[i]? = some x) (ne : e ≠ c)
    (q : ∀ h', IsEnumOut h' e c (j + 1) x s.heap.objs.size → h'.IsListIter c l (i + 1) → h'.get? s.heap.objs.size = some { cls := .type "tuple", data := .seq #[.int j s.toks, x] } →
      (∀ b o, b ≠ e → b ≠ c → s.heap.get? b = some o → h'.get? b = some o) → Q (.ref s.heap.objs.size) { s with heap := h', toks := s.toks + 1 }) :
    wpAny (model prog w) A (Builtin.«enumerate.__next__» ⟨[.ref e], []⟩) (fun fin s' => ∃ v, fin = .done (.ret v) ∧ Q v s') E s := by
  obtain ⟨h0, g, d, tk, os⟩ := s
  refine wpAny_bind (m := field (.ref e) 2) (wpAny_field hE rfl (x := .ref c) rfl (wpAny_bind (wpAny_nextOf_list_item hC hL hX fun h1 c1 (b1 : Heap.SameBut c h0 h1) => ?_)))
  have e1 : IsEnum h1 e c j o0 := (b1.2 e ne).trans hE
  refine wpAny_bind (m := field (.ref e) 3) (wpAny_field e1 rfl (x := rawInt j) rfl ?_)
  refine wpAny_bind (m := field (.ref e) 4) (wpAny_field e1 rfl (x := .none) rfl ?_)
  refine wpAny_bind (m := mkInt j) (wpAny_mkInt ?_)
  refine wpAny_bind (m := setField (.ref e) 3 (rawInt (j + 1))) (wpAny_setField_rec e1 (by simp) fun h2 (e2 : IsEnum h2 e c (j + 1) o0) (b2 : Heap.SameBut e h1 h2) => ?_)
  refine wpAny_bind (m := setField (.ref e) 4 .none) (wpAny_setField_rec e2 (by simp) fun h3 (e3 : IsEnum h3 e c (j + 1) o0) (b3 : Heap.SameBut e h2 h3) => ?_)
  refine wpAny_bind (m := newTuple [.int j tk, x]) (wpAny_newTuple ?_)
  have zz : h3.objs.size = h0.objs.size := by rw [b3.1, b2.1, b1.1]
  have lt : e < h0.objs.size := Heap.lt_size hE
  have e4 : IsEnum (h3.push { cls := .type "tuple", data := .seq #[.int j tk, x] }) e c (j + 1) o0 := Heap.get?_push_of_some _ e3
  have t4 : (h3.push { cls := .type "tuple", data := .seq #[.int j tk, x] }).get? h0.objs.size = some { cls := .type "tuple", data := .seq #[.int j tk, x] } := by rw [← zz]; exact Heap.get?_push_size _ rfl
  have k4 : ∀ b o, b ≠ e → b ≠ c → h0.get? b = some o → (h3.push { cls := .type "tuple", data := .seq #[.int j tk, x] }).get? b = some o := fun b o n1 n2 q =>
    Heap.get?_push_of_some _ (b3.extBut b o n1 (b2.extBut b o n1 (b1.extBut b o n2 q)))
  have c4 : (h3.push { cls := .type "tuple", data := .seq #[.int j tk, x] }).IsListIter c l (i + 1) := by
    obtain ⟨o, ho, r⟩ := (c1.extBut b2.extBut (Ne.symm ne)).extBut b3.extBut (Ne.symm ne)
    exact ⟨o, Heap.get?_push_of_some _ ho, r⟩
  rw [show (⟨h3, g, d, tk + 1, os⟩ : Shared).heap.objs.size = h0.objs.size from zz]
  generalize h3.push { cls := .type "tuple", data := .seq #[.int j tk, x] } = h4 at e4 t4 k4 c4
  clear e3 b3 e2 b2 e1 b1 c1 zz
  refine wpAny_bind (m := Builtin.SmallTypes.ownedTupleIsFree (.ref e)) ?_
  unfold Builtin.SmallTypes.ownedTupleIsFree
  refine wpAny_bind (wpAny_field e4 rfl (x := .none) rfl (wpAny_pure ?_))
  simp only [if_true]
  refine wpAny_bind (wpAny_rule (wpAny_bind (wpAny_field e4 rfl (x := o0) rfl (wpAny_bind (wpAny_setField_rec e4 (by simp) fun h5 (e5 : IsEnum h5 e c (j + 1) x) (b5 : Heap.SameBut e h4 h5) => ?_)))))
  refine wpAny_bind (m := Builtin.SmallTypes.ownedTupleHandOut (.ref e) (.ref h0.objs.size)) ?_
  unfold Builtin.SmallTypes.ownedTupleHandOut
  refine wpAny_bind (wpAny_setField_rec e5 (by simp) fun h6 (e6 : IsEnumOut h6 e c (j + 1) x h0.objs.size) (b6 : Heap.SameBut e h5 h6) => ?_)
  refine wpAny_setField_rec e6 (by simp) fun h7 (e7 : IsEnumOut h7 e c (j + 1) x h0.objs.size) (b7 : Heap.SameBut e h6 h7) => ?_
  refine wpAny_bind (wpAny_letGo (wpAny_pure ⟨_, rfl, q h7 e7 (((c4.extBut b5.extBut (Ne.symm ne)).extBut b6.extBut (Ne.symm ne)).extBut b7.extBut (Ne.symm ne)) ?_ ?_⟩))
  · exact b7.extBut _ _ (Nat.ne_of_gt lt) (b6.extBut _ _ (Nat.ne_of_gt lt) (b5.extBut _ _ (Nat.ne_of_gt lt) t4))
  · exact fun b o n1 n2 q => b7.extBut b o n1 (b6.extBut b o n1 (b5.extBut b o n1 (k4 b o n1 n2 q)))
theorem enumGoes {e c l : Addr} {i : Nat} {j : Int} {its : Array Value} {x o0 : Value} {Q : Option Value → Shared → Prop} (hE : IsEnum s.heap e c j o0) (hC : s.heap.IsListIter c l i) (hL : s.heap.IsList l its) (hX : its[i]? = some x) (ne : e ≠ c)
    (q : ∀ h', IsEnumOut h' e c (j + 1) x s.heap.objs.size → h'.IsListIter c l (i + 1) → h'.get? s.heap.objs.size = some { cls := .type "tuple", data := .seq #[.int j s.toks, x] } →
      (∀ b o, b ≠ e → b ≠ c → s.heap.get? b = some o → h'.get? b = some o) → Q (some (.ref s.heap.objs.size)) { s with heap := h', toks := s.toks + 1 }) : wpAny (model prog w) A (pyNext (.ref e)) Q E s := by
  have ty : s.TypeIs (.ref e) "enumerate" := ⟨_, hE, rfl⟩
  unfold pyNext
  exact wpAny_bind (wpAny_attempt (wpAny_callSpecial?_slot (name := Str.ofString "__next__") ty F.slot_enumerate_next (wpAny_call_entry F.slot_enumerate_next ty F.entry_enumerate_next
      (enumTurn hE hC hL hX ne fun h' a b c k => wpAny_pure (q h' a b c k)) (F.args_enumerate_next_1 _))))
theorem enumEnds {e c l : Addr} {i : Nat} {j : Int} {its : Array Value} {o0 : Value} {Q : Option Value → Shared → Prop} (hh : A.handled = none) (hE : IsEnum s.heap e c j o0) (hC : s.heap.IsListIter c l i) (hL : s.heap.IsList l its) (hX : its[i]? = none)
    (q : ∀ h', Heap.ExtBut c s.heap h' → Q none { s with heap := h' }) : wpAny (model prog w) A (pyNext (.ref e)) Q E s := by
  have ty : s.TypeIs (.ref e) "enumerate" := ⟨_, hE, rfl⟩
  unfold pyNext
  refine wpAny_bind (wpAny_attempt (wpAny_callSpecial?_slot (name := Str.ofString "__next__") ty F.slot_enumerate_next (wpAny_call_entry F.slot_enumerate_next ty F.entry_enumerate_next ?_ (F.args_enumerate_next_1 _))))
  refine wpAny_bind (m := field (.ref e) 2) (wpAny_field hE rfl (x := .ref c) rfl (wpAny_bind (wpAny_nextOf_list_end hh hC hL hX fun h' x he' hx' => ?_)))
  obtain ⟨o, ho, hc⟩ := hx'
  exact wpAny_bind (wpAny_isInstance (T := "StopIteration") (b := true) ⟨o, ho, hc⟩ isSubtype_stop (wpAny_pure (q _ he')))
end
end PySem
namespace L2
open PySem PySem.Spec PyProof.Rows
theorem bt_enumerate : bootBuiltins "enumerate" = some (.type "enumerate") := by decide +kernel
end L2
namespace L2
open PySem PySem.Spec PyProof.Rows
section
variable {X : Cx} {K : PySem.W.Frag} {elts : List Expr} {kt : Nat} {pt : Pos}
end
end L2
namespace L2
open PySem PySem.Spec PyProof.Rows
section
variable {X : Cx} {K : PySem.W.Frag}
end
end L2
namespace PySem
open Sem (wp)
namespace ZT
def IsIt (t : Bool) (h : Heap) (i l : Addr) (k : Nat) : Prop := if t then h.IsTupleIter i l k else h.IsListIter i l k
def IsSq (t : Bool) (h : Heap) (l : Addr) (xs : Array Value) : Prop := if t then h.IsTuple l xs else h.IsList l xs
theorem IsIt.extBut {t : Bool} {h h' : Heap} {i b l : Addr} {k : Nat} (x : IsIt t h i l k) (hs : Heap.ExtBut b h h') (hb : i ≠ b) : IsIt t h' i l k := by
  cases t
  · exact Heap.IsListIter.extBut (show h.IsListIter i l k from x) hs hb
  · exact Heap.IsTupleIter.extBut (show h.IsTupleIter i l k from x) hs hb
theorem IsIt.at {t : Bool} {h h' : Heap} {i l : Addr} {k : Nat} (x : IsIt t h i l k) (e : ∀ o, h.get? i = some o → h'.get? i = some o) : IsIt t h' i l k := by
  cases t
  · obtain ⟨o, ho, r⟩ := (show h.IsListIter i l k from x)
    exact ⟨o, e o ho, r⟩
  · obtain ⟨o, ho, r⟩ := (show h.IsTupleIter i l k from x)
    exact ⟨o, e o ho, r⟩
theorem IsIt.live {t : Bool} {h : Heap} {i l : Addr} {k : Nat} (x : IsIt t h i l k) : ∃ o, h.get? i = some o := by
  cases t
  · obtain ⟨o, ho, r⟩ := (show h.IsListIter i l k from x)
    exact ⟨o, ho⟩
  · obtain ⟨o, ho, r⟩ := (show h.IsTupleIter i l k from x)
    exact ⟨o, ho⟩
theorem IsSq.at {t : Bool} {h h' : Heap} {l : Addr} {xs : Array Value} (x : IsSq t h l xs) (e : ∀ o, h.get? l = some o → h'.get? l = some o) : IsSq t h' l xs := by
  cases t
  · obtain ⟨o, ho, r⟩ := (show h.IsList l xs from x)
    exact ⟨o, e o ho, r⟩
  · obtain ⟨o, ho, r⟩ := (show h.IsTuple l xs from x)
    exact ⟨o, e o ho, r⟩
theorem IsSq.extBut {t : Bool} {h h' : Heap} {l b : Addr} {xs : Array Value} (x : IsSq t h l xs) (hs : Heap.ExtBut b h h') (hb : l ≠ b) : IsSq t h' l xs := x.at fun o e => hs l o hb e
section
variable {prog : Program} {w : World} {A : Around} {E : Value → Shared → Prop} {s : Shared}
theorem nextOf_tuple_item {it t : Addr} {i : Nat} {items} {x : Value} {Q : Value → Shared → Prop} (hit : s.heap.IsTupleIter it t i)
    (ht : s.heap.IsTuple t items) (hx : items[i]? = some x)
    (hQ : ∀ h', h'.IsTupleIter it t (i + 1) → Heap.SameBut it s.heap h' → Q x { s with heap := h' }) :
    wpAny (model prog w) A (Builtin.SmallTypes.nextOf (.ref it)) Q E s := by
  obtain ⟨o, ho, hc, hd⟩ := id hit
  obtain ⟨ol, hol, _, nl, hdl⟩ := ht
  unfold Builtin.SmallTypes.nextOf
  refine wpAny_bind (wpAny_callSpecial?_slot (name := Str.ofString "__next__") hit.typeIs F.slot_tuple_iterator_next
    (wpAny_call_entry F.slot_tuple_iterator_next hit.typeIs F.entry_tuple_iterator_next ?_ (F.args_tuple_iterator_next_1 _)))
  show wpAny _ _ (field (.ref it) 0 >>= _) _ _ s
  refine wpAny_bind (wpAny_field ho hd (x := .ref t) rfl ?_)
  show wpAny _ _ (if (Value.ref t == Value.none) = true then _ else _) _ _ s
  rw [if_neg (show ¬ ((Value.ref t == Value.none) = true) from Bool.false_ne_true)]
  show wpAny _ _ (field (.ref it) 1 >>= _) _ _ s
  refine wpAny_bind (wpAny_field ho hd (x := .int i 0) rfl ?_)
  show wpAny _ _ (seqItems? (.ref t) >>= _) _ _ s
  refine wpAny_bind (wpAny_seqItems hol hdl ?_)
  simp only [Int.toNat_natCast, hx]
  refine wpAny_bind (wpAny_setField ho hd (by simp) (wpAny_pure ⟨x, rfl, wpAny_pure (hQ _ ?_ (Heap.SameBut.update ..))⟩))
  exact ⟨_, Heap.get?_update_self _ ho (Obj.isFreed_of_fields (Obj.data_mapFields hd _)), (Obj.cls_mapFields ..).trans hc, by
    rw [Obj.data_mapFields hd]; simp [rawInt]⟩
theorem nextOf_tuple_end {it t : Addr} {i : Nat} {items} {Q : Value → Shared → Prop} (hh : A.handled = none)
    (hit : s.heap.IsTupleIter it t i) (ht : s.heap.IsTuple t items) (hx : items[i]? = none)
    (hE : ∀ h' e, Heap.ExtBut it s.heap h' → (∃ o, h'.get? e = some o ∧ o.cls = .type "StopIteration") → E (.ref e) { s with heap := h' }) :
    wpAny (model prog w) A (Builtin.SmallTypes.nextOf (.ref it)) Q E s := by
  obtain ⟨o, ho, hc, hd⟩ := id hit
  obtain ⟨ol, hol, _, nl, hdl⟩ := ht
  unfold Builtin.SmallTypes.nextOf
  refine wpAny_bind (wpAny_callSpecial?_slot (name := Str.ofString "__next__") hit.typeIs F.slot_tuple_iterator_next
    (wpAny_call_entry F.slot_tuple_iterator_next hit.typeIs F.entry_tuple_iterator_next ?_ (F.args_tuple_iterator_next_1 _)))
  show wpAny _ _ (field (.ref it) 0 >>= _) _ _ s
  refine wpAny_bind (wpAny_field ho hd (x := .ref t) rfl ?_)
  show wpAny _ _ (if (Value.ref t == Value.none) = true then _ else _) _ _ s
  rw [if_neg (show ¬ ((Value.ref t == Value.none) = true) from Bool.false_ne_true)]
  show wpAny _ _ (field (.ref it) 1 >>= _) _ _ s
  refine wpAny_bind (wpAny_field ho hd (x := .int i 0) rfl ?_)
  show wpAny _ _ (seqItems? (.ref t) >>= _) _ _ s
  refine wpAny_bind (wpAny_seqItems hol hdl ?_)
  simp only [Int.toNat_natCast, hx]
  refine wpAny_bind (wpAny_rule (wpAny_bind (wpAny_setField ho hd (by simp) ?_)))
  show wpAny _ _ (newExc (.type "StopIteration") [] >>= _) _ _ _
  refine wpAny_bind ?_
  simp only [newExc, newTuple]
  refine wpAny_bind (wpAny_newObj_type ?_ (by size_fits))
  refine wpAny_bind (m := firstArgMember _ _) (wpAny_of_eq (a := Value.none) (by first | rfl | (simp only [firstArgMember]; rfl)) ?_)
  refine wpAny_newObj_type ?_ (by size_fits)
  simp only [raiseNew]
  refine wpAny_bind (wpAny_handled ?_)
  first | rw [show A.in1.handled = none from hh] | rw [hh]
  refine wpAny_bind (wpAny_pure (wpAny_throw ?_))
  exact hE _ _ (((Heap.SameBut.update ..).extBut.push _).push _) ⟨_, Heap.get?_push_size _ rfl, rfl⟩
theorem next_item {t : Bool} {it l : Addr} {i : Nat} {items} {x : Value} {Q : Value → Shared → Prop} (hit : IsIt t s.heap it l i)
    (ht : IsSq t s.heap l items) (hx : items[i]? = some x)
    (hQ : ∀ h', IsIt t h' it l (i + 1) → Heap.SameBut it s.heap h' → Q x { s with heap := h' }) :
    wpAny (model prog w) A (Builtin.SmallTypes.nextOf (.ref it)) Q E s := by
  cases t
  · exact wpAny_nextOf_list_item hit ht hx hQ
  · exact nextOf_tuple_item hit ht hx hQ
theorem next_end {t : Bool} {it l : Addr} {i : Nat} {items} {Q : Value → Shared → Prop} (hh : A.handled = none) (hit : IsIt t s.heap it l i)
    (ht : IsSq t s.heap l items) (hx : items[i]? = none)
    (hE : ∀ h' e, Heap.ExtBut it s.heap h' → (∃ o, h'.get? e = some o ∧ o.cls = .type "StopIteration") → E (.ref e) { s with heap := h' }) :
    wpAny (model prog w) A (Builtin.SmallTypes.nextOf (.ref it)) Q E s := by
  cases t
  · exact wpAny_nextOf_list_end hh hit ht hx hE
  · exact nextOf_tuple_end hh hit ht hx hE
end
end ZT
end PySem
namespace PySem
open Sem (wp)
namespace ZT
abbrev IsZ (h : Heap) (z TI TO : Addr) (f0 f1 : Value) : Prop :=
  h.get? z = some { cls := .type "zip", dict := none, data := .fields #[f0, f1, .bool false, .ref TI, .ref TO], slots := #[] }
section
variable {prog : Program} {w : World} {A : Around} {E : Value → Shared → Prop} {s : Shared}
theorem wpAny_alive {M : Model} {a : Addr} {Q : Option Obj → Shared → Prop} (h : Q (s.heap.get? a) s) : wpAny M A (loadIfAlive a) Q E s := fun Γ p _ => by
  unfold loadIfAlive
  rw [Sem.wp_loadIfAlive]
  rw [Sem.wp]
  exact h
theorem not_free {z TI TO T : Addr} {b : Bool} {Q : Bool → Shared → Prop} (hz : IsZ s.heap z TI TO (rawInt T) (.bool b)) (hT : ∃ o, s.heap.get? T = some o)
    (hQ : ∀ h', IsZ h' z TI TO (rawInt T) (.bool true) → Heap.SameBut z s.heap h' → Q false { s with heap := h' }) :
    wpAny (model prog w) A (Builtin.SmallTypes.ownedTupleIsFree (.ref z)) Q E s := by
  obtain ⟨o, ho⟩ := hT
  unfold Builtin.SmallTypes.ownedTupleIsFree
  refine wpAny_bind (wpAny_field hz rfl (x := rawInt T) rfl ?_)
  show wpAny _ _ (loadIfAlive T >>= _) _ _ _
  refine wpAny_bind (wpAny_alive ?_)
  rw [ho]
  simp only [Option.isNone_some, Bool.false_eq_true, if_false]
  refine wpAny_bind (wpAny_field hz rfl (x := .bool b) rfl ?_)
  cases b
  · rw [if_pos (by decide)]
    exact wpAny_bind (wpAny_setField_rec hz (by simp) fun h' hz' hs' => wpAny_pure (hQ h' hz' hs'))
  · rw [if_neg (by decide)]
    exact wpAny_pure (hQ s.heap hz ⟨rfl, fun _ _ => rfl⟩)
theorem held_item {t1 t2 : Bool} {z TI TO i1 i2 l1 l2 T : Addr} {k1 k2 : Nat} {xs ys : Array Value} {x y : Value} {b : Bool} {Q : Value → Shared → Prop} (D : ZipApart z TI TO i1 i2 l1 l2)
    (hz : IsZ s.heap z TI TO (rawInt T) (.bool b)) (hT : ∃ o, s.heap.get? T = some o) (hTI : IsPair s.heap TI (.ref i1) (.ref i2))
    (h1 : IsIt t1 s.heap i1 l1 k1) (h2 : IsIt t2 s.heap i2 l2 k2) (hl1 : IsSq t1 s.heap l1 xs) (hl2 : IsSq t2 s.heap l2 ys) (hx : xs[k1]? = some x) (hy : ys[k2]? = some y)
    (hQ : ∀ h', IsZ h' z TI TO (rawInt T) (.bool true) → IsIt t1 h' i1 l1 (k1 + 1) → IsIt t2 h' i2 l2 (k2 + 1) → IsPair h' s.heap.objs.size x y → h'.objs.size = s.heap.objs.size + 1 →
      (∀ c o, c ≠ z → c ≠ i1 → c ≠ i2 → s.heap.get? c = some o → h'.get? c = some o) → Q (.ref s.heap.objs.size) { s with heap := h' }) :
    wpAny (model prog w) A (Builtin.«zip.__next__» ⟨[.ref z], []⟩) (fun fin s' => ∃ v, fin = .done (.ret v) ∧ Q v s') E s := by
  show wpAny _ _ (field (.ref z) 2 >>= _) _ _ _
  refine wpAny_bind (wpAny_field hz rfl (x := .bool false) rfl ?_)
  show wpAny _ _ (field (.ref z) 3 >>= _) _ _ _
  refine wpAny_bind (wpAny_field hz rfl (x := .ref TI) rfl ?_)
  refine wpAny_bind (wpAny_seqItems hTI rfl ?_)
  show wpAny _ _ (Builtin.SmallTypes.ownedTupleIsFree (.ref z) >>= _) _ _ _
  refine wpAny_bind (not_free hz hT fun h₁ hz₁ hs₁ => ?_)
  simp only [Bool.false_eq_true, if_false]
  refine wpAny_bind ?_
  rw [← Array.forIn_toList]
  simp only [List.forIn_cons, List.forIn_nil]
  refine wpAny_bind (wpAny_bind (wpAny_holding ?_))
  show wpAny _ _ (Builtin.SmallTypes.nextOf (.ref i1) >>= _) _ _ _
  refine wpAny_bind (next_item (h1.extBut hs₁.extBut D.i1z) (hl1.extBut hs₁.extBut D.l1z) hx fun h₂ h1₂ hs₂ => wpAny_pure (wpAny_pure ?_))
  refine wpAny_bind (wpAny_bind (wpAny_holding ?_))
  show wpAny _ _ (Builtin.SmallTypes.nextOf (.ref i2) >>= _) _ _ _
  refine wpAny_bind (next_item ((h2.extBut hs₁.extBut D.i2z).extBut hs₂.extBut D.i12.symm) ((hl2.extBut hs₁.extBut D.l2z).extBut hs₂.extBut D.l2i1) hy fun h₃ h2₃ hs₃ => wpAny_pure (wpAny_pure (wpAny_pure ?_)))
  refine wpAny_bind (wpAny_newTuple (wpAny_pure ⟨_, rfl, ?_⟩) (by show 2 ≤ sizeLine; decide))
  have hsz : h₃.objs.size = s.heap.objs.size := by rw [hs₃.1, hs₂.1, hs₁.1]
  have hz₃ : IsZ h₃ z TI TO (rawInt T) (.bool true) := hs₃.extBut _ _ D.i2z.symm (hs₂.extBut _ _ D.i1z.symm hz₁)
  have hk : ∀ c o, c ≠ z → c ≠ i1 → c ≠ i2 → s.heap.get? c = some o → h₃.get? c = some o := fun c o c1 c2 c3 e => hs₃.extBut _ _ c3 (hs₂.extBut _ _ c2 (hs₁.extBut _ _ c1 e))
  show Q (.ref h₃.objs.size) _
  have hp : IsPair (h₃.push { cls := .type "tuple", data := .seq #[x, y] }) h₃.objs.size x y := Heap.get?_push_size _ rfl
  rw [hsz] at hp ⊢
  exact hQ _ (Heap.get?_push_of_some _ hz₃) ((h1₂.extBut hs₃.extBut D.i12).at fun o e => Heap.get?_push_of_some _ e) (h2₃.at fun o e => Heap.get?_push_of_some _ e) hp (by rw [Heap.size_push, hsz]) fun c o c1 c2 c3 e => Heap.get?_push_of_some _ (hk c o c1 c2 c3 e)
theorem held_end {t1 t2 : Bool} {z TI TO i1 i2 l1 l2 T : Addr} {k1 k2 : Nat} {xs ys : Array Value} {b : Bool} {Q : Fin → Shared → Prop} (hh : A.handled = none) (D : ZipApart z TI TO i1 i2 l1 l2)
    (hz : IsZ s.heap z TI TO (rawInt T) (.bool b)) (hT : ∃ o, s.heap.get? T = some o) (hTI : IsPair s.heap TI (.ref i1) (.ref i2))
    (h1 : IsIt t1 s.heap i1 l1 k1) (h2 : IsIt t2 s.heap i2 l2 k2) (hl1 : IsSq t1 s.heap l1 xs) (hl2 : IsSq t2 s.heap l2 ys) (hend : xs[k1]? = none ∨ ys[k2]? = none)
    (hE : ∀ h' e, (∀ c o, c ≠ z → c ≠ i1 → c ≠ i2 → s.heap.get? c = some o → h'.get? c = some o) → (∃ o, h'.get? e = some o ∧ o.cls = .type "StopIteration") → E (.ref e) { s with heap := h' }) :
    wpAny (model prog w) A (Builtin.«zip.__next__» ⟨[.ref z], []⟩) Q E s := by
  show wpAny _ _ (field (.ref z) 2 >>= _) _ _ _
  refine wpAny_bind (wpAny_field hz rfl (x := .bool false) rfl ?_)
  show wpAny _ _ (field (.ref z) 3 >>= _) _ _ _
  refine wpAny_bind (wpAny_field hz rfl (x := .ref TI) rfl ?_)
  refine wpAny_bind (wpAny_seqItems hTI rfl ?_)
  show wpAny _ _ (Builtin.SmallTypes.ownedTupleIsFree (.ref z) >>= _) _ _ _
  refine wpAny_bind (not_free hz hT fun h₁ hz₁ hs₁ => ?_)
  simp only [Bool.false_eq_true, if_false]
  refine wpAny_bind ?_
  rw [← Array.forIn_toList]
  simp only [List.forIn_cons, List.forIn_nil]
  refine wpAny_bind (wpAny_bind (wpAny_holding ?_))
  show wpAny _ _ (Builtin.SmallTypes.nextOf (.ref i1) >>= _) _ _ _
  cases hx : xs[k1]? with
  | none => exact wpAny_bind (next_end hh (h1.extBut hs₁.extBut D.i1z) (hl1.extBut hs₁.extBut D.l1z) hx fun h₂ e hs₂ he => hE h₂ e (fun c o c1 c2 _ x => hs₂ _ _ c2 (hs₁.extBut _ _ c1 x)) he)
  | some x =>
    have hy : ys[k2]? = none := by rcases hend with h | h; rw [hx] at h; cases h; exact h
    refine wpAny_bind (next_item (h1.extBut hs₁.extBut D.i1z) (hl1.extBut hs₁.extBut D.l1z) hx fun h₂ h1₂ hs₂ => wpAny_pure (wpAny_pure ?_))
    refine wpAny_bind (wpAny_bind (wpAny_holding ?_))
    show wpAny _ _ (Builtin.SmallTypes.nextOf (.ref i2) >>= _) _ _ _
    exact wpAny_bind (next_end hh ((h2.extBut hs₁.extBut D.i2z).extBut hs₂.extBut D.i12.symm) ((hl2.extBut hs₁.extBut D.l2z).extBut hs₂.extBut D.l2i1) hy fun h₃ e hs₃ he => hE h₃ e (fun c o c1 c2 c3 x => hs₃ _ _ c3 (hs₂.extBut _ _ c2 (hs₁.extBut _ _ c1 x))) he)
theorem fresh_item {t1 t2 : Bool} {z TI TO i1 i2 l1 l2 : Addr} {k1 k2 : Nat} {xs ys : Array Value} {x y a b : Value} {Q : Value → Shared → Prop} (D : ZipApart z TI TO i1 i2 l1 l2)
    (hz : IsZ s.heap z TI TO .none (.bool false)) (hTI : IsPair s.heap TI (.ref i1) (.ref i2)) (hTO : IsPair s.heap TO a b)
    (h1 : IsIt t1 s.heap i1 l1 k1) (h2 : IsIt t2 s.heap i2 l2 k2) (hl1 : IsSq t1 s.heap l1 xs) (hl2 : IsSq t2 s.heap l2 ys) (hx : xs[k1]? = some x) (hy : ys[k2]? = some y)
    (hQ : ∀ h' b, IsZ h' z TI TO (rawInt s.heap.objs.size) (.bool b) → IsIt t1 h' i1 l1 (k1 + 1) → IsIt t2 h' i2 l2 (k2 + 1) → IsPair h' s.heap.objs.size x y → h'.objs.size = s.heap.objs.size + 1 →
      (∀ c o, c ≠ z → c ≠ TO → c ≠ i1 → c ≠ i2 → s.heap.get? c = some o → h'.get? c = some o) → IsPair h' TO x y → Q (.ref s.heap.objs.size) { s with heap := h' }) :
    wpAny (model prog w) A (Builtin.«zip.__next__» ⟨[.ref z], []⟩) (fun fin s' => ∃ v, fin = .done (.ret v) ∧ Q v s') E s := by
  show wpAny _ _ (field (.ref z) 2 >>= _) _ _ _
  refine wpAny_bind (wpAny_field hz rfl (x := .bool false) rfl ?_)
  show wpAny _ _ (field (.ref z) 3 >>= _) _ _ _
  refine wpAny_bind (wpAny_field hz rfl (x := .ref TI) rfl ?_)
  refine wpAny_bind (wpAny_seqItems hTI rfl ?_)
  show wpAny _ _ (Builtin.SmallTypes.ownedTupleIsFree (.ref z) >>= _) _ _ _
  refine wpAny_bind ?_
  unfold Builtin.SmallTypes.ownedTupleIsFree
  refine wpAny_bind (wpAny_field hz rfl (x := .none) rfl (wpAny_pure ?_))
  simp only [if_true]
  refine wpAny_bind (wpAny_rule ?_)
  refine wpAny_bind (wpAny_field hz rfl (x := .ref TO) rfl ?_)
  refine wpAny_bind (wpAny_setField_rec hz (by simp) fun g₁ z₁ q₁ => ?_)
  replace z₁ : IsZ g₁ z TI TO .ellipsis (.bool false) := z₁
  have p₁ : IsPair g₁ TO a b := q₁.extBut _ _ D.TOz hTO
  refine wpAny_bind ?_
  simp only [List.zipIdx_cons, List.zipIdx_nil, List.forIn_cons, List.forIn_nil]
  refine wpAny_bind (wpAny_bind (wpAny_onRaise ?_))
  show wpAny _ _ (Builtin.SmallTypes.nextOf (.ref i1) >>= _) _ _ _
  refine wpAny_bind (next_item (h1.extBut q₁.extBut D.i1z) (hl1.extBut q₁.extBut D.l1z) hx fun g₂ it₂ q₂ => wpAny_pure ?_)
  have p₂ : IsPair g₂ TO a b := q₂.extBut _ _ D.TOi1 p₁
  refine wpAny_bind (wpAny_seqItems p₂ rfl (wpAny_bind (wpAny_updateSeq_pair p₂ fun g₃ p₃ q₃ => wpAny_bind (wpAny_letGo (wpAny_pure ?_)))))
  replace p₃ : IsPair g₃ TO x b := p₃
  have k₃ : ∀ {c o}, c ≠ z → c ≠ i1 → c ≠ TO → s.heap.get? c = some o → g₃.get? c = some o := fun c1 c2 c3 e => q₃.extBut _ _ c3 (q₂.extBut _ _ c2 (q₁.extBut _ _ c1 e))
  refine wpAny_bind (wpAny_bind (wpAny_onRaise ?_))
  show wpAny _ _ (Builtin.SmallTypes.nextOf (.ref i2) >>= _) _ _ _
  refine wpAny_bind (next_item (h2.at fun o e => k₃ D.i2z D.i12.symm D.TOi2.symm e) (hl2.at fun o e => k₃ D.l2z D.l2i1 D.l2TO e) hy fun g₄ it₄ q₄ => wpAny_pure ?_)
  have p₄ : IsPair g₄ TO x b := q₄.extBut _ _ D.TOi2 p₃
  refine wpAny_bind (wpAny_seqItems p₄ rfl (wpAny_bind (wpAny_updateSeq_pair p₄ fun g₅ p₅ q₅ => wpAny_bind (wpAny_letGo (wpAny_pure (wpAny_pure ?_))))))
  replace p₅ : IsPair g₅ TO x y := p₅
  refine wpAny_bind (wpAny_seqItems p₅ rfl (wpAny_bind (wpAny_newTuple ?_)))
  have sz : g₅.objs.size = s.heap.objs.size := by rw [q₅.1, q₄.1, q₃.1, q₂.1, q₁.1]
  have z₅ : IsZ g₅ z TI TO .ellipsis (.bool false) := q₅.extBut _ _ D.TOz.symm (q₄.extBut _ _ D.i2z.symm (q₃.extBut _ _ D.TOz.symm (q₂.extBut _ _ D.i1z.symm z₁)))
  have k₅ : ∀ c o, c ≠ z → c ≠ TO → c ≠ i1 → c ≠ i2 → s.heap.get? c = some o → g₅.get? c = some o := fun c o c1 c2 c3 c4 e => q₅.extBut _ _ c2 (q₄.extBut _ _ c4 (k₃ c1 c3 c2 e))
  have it1 : IsIt t1 g₅ i1 l1 (k1 + 1) := it₂.at fun o e => q₅.extBut _ _ D.TOi1.symm (q₄.extBut _ _ D.i12 (q₃.extBut _ _ D.TOi1.symm e))
  have it2 : IsIt t2 g₅ i2 l2 (k2 + 1) := it₄.at fun o e => q₅.extBut _ _ D.TOi2.symm e
  have zlt : z < g₅.objs.size := Heap.lt_size z₅
  show wpAny _ _ (Builtin.SmallTypes.ownedTupleHandOut (.ref z) (.ref g₅.objs.size) >>= _) _ _ _
  refine wpAny_bind ?_
  unfold Builtin.SmallTypes.ownedTupleHandOut
  refine wpAny_bind (wpAny_setField_rec (Heap.get?_push_of_some _ z₅) (by simp) fun g₇ z₇ q₇ => ?_)
  replace z₇ : IsZ g₇ z TI TO (rawInt g₅.objs.size) (.bool false) := z₇
  refine wpAny_setField_rec z₇ (by simp) fun g₈ z₈ q₈ => wpAny_pure ⟨_, rfl, ?_⟩
  replace z₈ : IsZ g₈ z TI TO (rawInt g₅.objs.size) (.bool false) := z₈
  have up : ∀ c o, c ≠ z → g₅.get? c = some o → g₈.get? c = some o := fun c o c1 e => q₈.extBut _ _ c1 (q₇.extBut _ _ c1 (Heap.get?_push_of_some _ e))
  have pT : IsPair g₈ g₅.objs.size x y := q₈.extBut _ _ (Nat.ne_of_gt zlt) (q₇.extBut _ _ (Nat.ne_of_gt zlt) (Heap.get?_push_size _ rfl))
  have s8 : g₈.objs.size = g₅.objs.size + 1 := by rw [q₈.1, q₇.1, Heap.size_push]
  show Q (.ref g₅.objs.size) _
  rw [sz] at z₈ pT s8 ⊢
  exact hQ g₈ false z₈ (it1.at fun o e => up _ o D.i1z e) (it2.at fun o e => up _ o D.i2z e) pT s8 (fun c o c1 c2 c3 c4 e => up c o c1 (k₅ c o c1 c2 c3 c4 e)) (up _ _ D.TOz p₅)
end
end ZT
end PySem
namespace PySem
open Sem (wp)
open PyProof.Rows
namespace ZT
section
variable {prog : Program} {w : World} {A : Around} {E : Value → Shared → Prop} {s : Shared}
theorem pyNext_held {t1 t2 : Bool} {z TI TO i1 i2 l1 l2 T : Addr} {k1 k2 : Nat} {xs ys : Array Value} {x y : Value} {b : Bool} {Q : Option Value → Shared → Prop} (D : ZipApart z TI TO i1 i2 l1 l2)
    (hz : IsZ s.heap z TI TO (rawInt T) (.bool b)) (hT : ∃ o, s.heap.get? T = some o) (hTI : IsPair s.heap TI (.ref i1) (.ref i2))
    (h1 : IsIt t1 s.heap i1 l1 k1) (h2 : IsIt t2 s.heap i2 l2 k2) (hl1 : IsSq t1 s.heap l1 xs) (hl2 : IsSq t2 s.heap l2 ys) (hx : xs[k1]? = some x) (hy : ys[k2]? = some y)
    (hQ : ∀ h', IsZ h' z TI TO (rawInt T) (.bool true) → IsIt t1 h' i1 l1 (k1 + 1) → IsIt t2 h' i2 l2 (k2 + 1) → IsPair h' s.heap.objs.size x y → h'.objs.size = s.heap.objs.size + 1 →
      (∀ c o, c ≠ z → c ≠ i1 → c ≠ i2 → s.heap.get? c = some o → h'.get? c = some o) → Q (some (.ref s.heap.objs.size)) { s with heap := h' }) :
    wpAny (model prog w) A (pyNext (.ref z)) Q E s := by
  have ty : s.TypeIs (.ref z) "zip" := ⟨_, hz, rfl⟩
  unfold pyNext
  exact wpAny_bind (wpAny_attempt (wpAny_callSpecial?_slot (name := Str.ofString "__next__") ty F.slot_zip_next
    (wpAny_call_entry F.slot_zip_next ty F.entry_zip_next (held_item D hz hT hTI h1 h2 hl1 hl2 hx hy fun h' a1 a2 a3 a4 a5 a6 => wpAny_pure (hQ h' a1 a2 a3 a4 a5 a6)) (F.args_zip_next_1 _))))
theorem pyNext_fresh {t1 t2 : Bool} {z TI TO i1 i2 l1 l2 : Addr} {k1 k2 : Nat} {xs ys : Array Value} {x y a b : Value} {Q : Option Value → Shared → Prop} (D : ZipApart z TI TO i1 i2 l1 l2)
    (hz : IsZ s.heap z TI TO .none (.bool false)) (hTI : IsPair s.heap TI (.ref i1) (.ref i2)) (hTO : IsPair s.heap TO a b)
    (h1 : IsIt t1 s.heap i1 l1 k1) (h2 : IsIt t2 s.heap i2 l2 k2) (hl1 : IsSq t1 s.heap l1 xs) (hl2 : IsSq t2 s.heap l2 ys) (hx : xs[k1]? = some x) (hy : ys[k2]? = some y)
    (hQ : ∀ h' b, IsZ h' z TI TO (rawInt s.heap.objs.size) (.bool b) → IsIt t1 h' i1 l1 (k1 + 1) → IsIt t2 h' i2 l2 (k2 + 1) → IsPair h' s.heap.objs.size x y → h'.objs.size = s.heap.objs.size + 1 →
      (∀ c o, c ≠ z → c ≠ TO → c ≠ i1 → c ≠ i2 → s.heap.get? c = some o → h'.get? c = some o) → IsPair h' TO x y → Q (some (.ref s.heap.objs.size)) { s with heap := h' }) :
    wpAny (model prog w) A (pyNext (.ref z)) Q E s := by
  have ty : s.TypeIs (.ref z) "zip" := ⟨_, hz, rfl⟩
  unfold pyNext
  exact wpAny_bind (wpAny_attempt (wpAny_callSpecial?_slot (name := Str.ofString "__next__") ty F.slot_zip_next
    (wpAny_call_entry F.slot_zip_next ty F.entry_zip_next (fresh_item D hz hTI hTO h1 h2 hl1 hl2 hx hy fun h' b a1 a2 a3 a4 a5 a6 a7 => wpAny_pure (hQ h' b a1 a2 a3 a4 a5 a6 a7)) (F.args_zip_next_1 _))))
theorem pyNext_end {t1 t2 : Bool} {z TI TO i1 i2 l1 l2 T : Addr} {k1 k2 : Nat} {xs ys : Array Value} {b : Bool} {Q : Option Value → Shared → Prop} (hh : A.handled = none) (D : ZipApart z TI TO i1 i2 l1 l2)
    (hz : IsZ s.heap z TI TO (rawInt T) (.bool b)) (hT : ∃ o, s.heap.get? T = some o) (hTI : IsPair s.heap TI (.ref i1) (.ref i2))
    (h1 : IsIt t1 s.heap i1 l1 k1) (h2 : IsIt t2 s.heap i2 l2 k2) (hl1 : IsSq t1 s.heap l1 xs) (hl2 : IsSq t2 s.heap l2 ys) (hend : xs[k1]? = none ∨ ys[k2]? = none)
    (hQ : ∀ h', (∀ c o, c ≠ z → c ≠ i1 → c ≠ i2 → s.heap.get? c = some o → h'.get? c = some o) → Q none { s with heap := h' }) :
    wpAny (model prog w) A (pyNext (.ref z)) Q E s := by
  have ty : s.TypeIs (.ref z) "zip" := ⟨_, hz, rfl⟩
  unfold pyNext
  refine wpAny_bind (wpAny_attempt (wpAny_callSpecial?_slot (name := Str.ofString "__next__") ty F.slot_zip_next
    (wpAny_call_entry F.slot_zip_next ty F.entry_zip_next (held_end hh D hz hT hTI h1 h2 hl1 hl2 hend fun h' e hk he => ?_) (F.args_zip_next_1 _))))
  obtain ⟨o, ho, hc⟩ := he
  exact wpAny_bind (wpAny_isInstance (T := "StopIteration") (b := true) ⟨o, ho, hc⟩ isSubtype_stop (wpAny_pure (hQ _ hk)))
end
theorem nn {a b : Nat} (h : a ≠ b) : @Ne Addr a b := h
structure Had (N : Nat) (h0 h : Heap) (xs ys : Array Value) (i : Nat) (acc : Array Value) (c : Nat) : Prop where
  old : ∀ a o, a < N → h0.get? a = some o → h.get? a = some o
  lst : h.get? (N + 5) = some { cls := .type "list", dict := none, data := .seq acc c, slots := #[] }
  len : acc.size = i
  prs : ∀ j x y, j < i → xs[j]? = some x → ys[j]? = some y → ∃ p, acc[j]? = some (.ref p) ∧ IsPair h p x y ∧ N + 5 < p
structure Zs (t : Bool) (N l1 l2 : Nat) (h : Heap) (i : Nat) : Prop where
  z : (i = 0 ∧ IsZ h (N + 4) (N + 2) (N + 3) .none (.bool false)) ∨ (∃ (T : Addr) (b : Bool), IsZ h (N + 4) (N + 2) (N + 3) (rawInt T) (.bool b) ∧ (∃ o, h.get? T = some o) ∧ N + 5 < T)
  ti : IsPair h (N + 2) (.ref N) (.ref (N + 1))
  to : ∃ a b, IsPair h (N + 3) a b
  i1 : IsIt true h N l1 i
  i2 : IsIt t h (N + 1) l2 i
theorem pyNext_any {prog : Program} {w : World} {A : Around} {E : Value → Shared → Prop} {s : Shared} {t : Bool} {N l1 l2 i : Nat} {xs ys : Array Value} {x y : Value} {Q : Option Value → Shared → Prop} (a1 : l1 < N) (a2 : l2 < N) (hs : N + 5 < s.heap.objs.size)
    (hZ : Zs t N l1 l2 s.heap i) (hl1 : IsSq true s.heap l1 xs) (hl2 : IsSq t s.heap l2 ys) (hx : xs[i]? = some x) (hy : ys[i]? = some y)
    (hQ : ∀ h', Zs t N l1 l2 h' (i + 1) → IsPair h' s.heap.objs.size x y → h'.objs.size = s.heap.objs.size + 1 → (∀ c o, c < N ∨ N + 5 ≤ c → s.heap.get? c = some o → h'.get? c = some o) → Q (some (.ref s.heap.objs.size)) { s with heap := h' }) :
    wpAny (model prog w) A (pyNext (.ref (N + 4))) Q E s := by
  have D : ZipApart (N + 4) (N + 2) (N + 3) N (N + 1) l1 l2 := zipApart_new a1 a2
  obtain ⟨hz, hti, ⟨a, b, hto⟩, h1, h2⟩ := hZ
  rcases hz with ⟨rfl, hz⟩ | ⟨T, b', hz, hT, hTN⟩
  · refine pyNext_fresh D hz hti hto h1 h2 hl1 hl2 hx hy fun h' b' c1 c2 c3 c4 c5 ck c6 => hQ h' ⟨.inr ⟨_, b', c1, ⟨_, c4⟩, hs⟩, ck _ _ (nn (by omega)) (nn (by omega)) (nn (by omega)) (nn (by omega)) hti, ⟨_, _, c6⟩, c2, c3⟩ c4 c5 fun c o hc e => ck c o (nn (by omega)) (nn (by omega)) (nn (by omega)) (nn (by omega)) e
  · refine pyNext_held D hz hT hti h1 h2 hl1 hl2 hx hy fun h' c1 c2 c3 c4 c5 ck => hQ h' ⟨.inr ⟨T, true, c1, ?_, hTN⟩, ck _ _ (nn (by omega)) (nn (by omega)) (nn (by omega)) hti, ⟨a, b, ck _ _ (nn (by omega)) (nn (by omega)) (nn (by omega)) hto⟩, c2, c3⟩ c4 c5 fun c o hc e => ck c o (nn (by omega)) (nn (by omega)) (nn (by omega)) e
    obtain ⟨o, ho⟩ := hT
    exact ⟨o, ck _ _ (nn (by omega)) (nn (by omega)) (nn (by omega)) ho⟩
section
variable {prog : Program} {w : World} {A : Around} {R : Result → Shared → Prop} {s : Shared}
theorem loop {t : Bool} {N l1 l2 : Nat} {h0 : Heap} {xs ys : Array Value} {res : Value} (hh : A.handled = none) (a1 : l1 < N) (a2 : l2 < N) (b1 : IsSq true h0 l1 xs) (b2 : IsSq t h0 l2 ys) (hn : min xs.size ys.size ≤ sizeLine) (hp : 0 < min xs.size ys.size) :
    ∀ (k i : Nat) (h : Heap) (acc : Array Value) (c : Nat), min xs.size ys.size - i = k → i ≤ min xs.size ys.size → Had N h0 h xs ys i acc c → Zs t N l1 l2 h i → N + 5 < h.objs.size →
      (∀ h' acc' c', Had N h0 h' xs ys (min xs.size ys.size) acc' c' → N + 5 < h'.objs.size → R (.ok (.ret res)) { s with heap := h' }) →
      codeAny (model prog w) A (.builtin "list.extend.loop" ⟨[.ref (N + 5), .ref (N + 4), res], []⟩) R { s with heap := h } := by
  have D : ZipApart (N + 4) (N + 2) (N + 3) N (N + 1) l1 l2 := zipApart_new a1 a2
  intro k
  induction k with
  | zero =>
    intro i h acc c hk hi hH hZ hs hR
    have hin : i = min xs.size ys.size := by omega
    subst hin
    refine codeAny_builtin F.entry_extend_loop ?_
    rw [Around.under_plainId F.plain_extend_loop _]
    show wpAny _ A.in1 (pyNext (.ref (N + 4)) >>= _) _ _ _
    obtain ⟨T, b, hz, hT, _⟩ := hZ.z.resolve_left fun z => by omega
    have hend : xs[min xs.size ys.size]? = none ∨ ys[min xs.size ys.size]? = none := by
      rcases Nat.le_total xs.size ys.size with h | h
      · exact .inl (by rw [Nat.min_eq_left h]; exact Array.getElem?_eq_none (Nat.le_refl _))
      · exact .inr (by rw [Nat.min_eq_right h]; exact Array.getElem?_eq_none (Nat.le_refl _))
    refine wpAny_bind (pyNext_end (s := { s with heap := h }) hh D hz hT hZ.ti hZ.i1 hZ.i2 (b1.at fun o e => hH.old _ o a1 e) (b2.at fun o e => hH.old _ o a2 e) hend fun h' hk' => ?_)
    have keep : ∀ a o, a < N ∨ N + 5 ≤ a → h.get? a = some o → h'.get? a = some o := fun a o ha e => hk' a o (nn (by omega)) (nn (by omega)) (nn (by omega)) e
    refine wpAny_pure (hR h' acc c ⟨fun a o ha e => keep a o (.inl ha) (hH.old a o ha e), keep _ _ (.inr (Nat.le_refl _)) hH.lst, hH.len, fun j x y hj hx hy => ?_⟩ ?_)
    · obtain ⟨p, e1, e2, e3⟩ := hH.prs j x y hj hx hy
      exact ⟨p, e1, keep _ _ (.inr (by omega)) e2, e3⟩
    · exact Heap.lt_size (keep _ _ (.inr (Nat.le_refl _)) hH.lst)
  | succ k ih =>
    intro i h acc c hk hi hH hZ hs hR
    have hlt : i < min xs.size ys.size := by omega
    have hx : xs[i]? = some (xs[i]'(by omega)) := Array.getElem?_eq_getElem (by omega)
    have hy : ys[i]? = some (ys[i]'(by omega)) := Array.getElem?_eq_getElem (by omega)
    refine codeAny_builtin F.entry_extend_loop ?_
    rw [Around.under_plainId F.plain_extend_loop _]
    show wpAny _ A.in1 (pyNext (.ref (N + 4)) >>= _) _ _ _
    refine wpAny_bind (pyNext_any (s := { s with heap := h }) a1 a2 hs hZ (b1.at fun o e => hH.old _ o a1 e) (b2.at fun o e => hH.old _ o a2 e) hx hy fun h' hZ' hp' hs' hk' => ?_)
    have hS' := hk' _ _ (.inr (Nat.le_refl _)) hH.lst
    show wpAny _ A.in1 (updateSeq (N + 5) (·.push (.ref h.objs.size)) >>= _) _ _ _
    refine wpAny_bind ?_
    refine wpAny_updateSeq hS' rfl (wpAny_pure ⟨plainId_quiet F.plain_extend_loop _, ih (i + 1) (h'.update (N + 5) (Obj.mapSeq (·.push (.ref h.objs.size)))) (acc.push (.ref h.objs.size)) _ (by omega) hlt ⟨fun a o ha e => ?_, Heap.get?_update_self _ hS' rfl, by rw [Array.size_push, hH.len], fun j x y hj hxj hyj => ?_⟩ ?_ ?_ hR⟩)
      (by rw [hH.len]; omega) (by show (acc.push _).size ≤ sizeLine + 1; rw [Array.size_push, hH.len]; omega)
    · exact (Heap.get?_update_other _ _ (nn (by omega))).trans (hk' a o (.inl ha) (hH.old a o ha e))
    · by_cases e : j = i
      · subst e
        rw [hx] at hxj
        rw [hy] at hyj
        cases hxj
        cases hyj
        exact ⟨h.objs.size, by rw [Array.getElem?_push, if_pos hH.len.symm], (Heap.get?_update_other _ _ (nn (by omega))).trans hp', hs⟩
      · obtain ⟨p, e1, e2, e3⟩ := hH.prs j x y (by omega) hxj hyj
        exact ⟨p, by rw [Array.getElem?_push, if_neg (by rw [hH.len]; exact e)]; exact e1, (Heap.get?_update_other _ _ (nn (by omega))).trans (hk' _ _ (.inr (by omega)) e2), e3⟩
    · obtain ⟨z1, z2, ⟨a, b, z3⟩, z4, z5⟩ := hZ'
      have up : ∀ a o, a ≠ N + 5 → h'.get? a = some o → (h'.update (N + 5) (Obj.mapSeq (·.push (.ref h.objs.size)))).get? a = some o := fun a o ha e => (Heap.get?_update_other _ _ (nn (Ne.symm ha))).trans e
      refine ⟨?_, up _ _ (by omega) z2, ⟨a, b, up _ _ (by omega) z3⟩, z4.at fun o e => up _ _ (by omega) e, z5.at fun o e => up _ _ (by omega) e⟩
      rcases z1 with ⟨z, _⟩ | ⟨T, b, z, ⟨o, ho⟩, hT⟩
      · omega
      · exact .inr ⟨T, b, up _ _ (by omega) z, ⟨o, up _ _ (by omega) ho⟩, hT⟩
    · exact Heap.lt_size (Heap.get?_update_self _ hS' rfl)
end
end ZT
end PySem
namespace PySem
open Sem (wp)
open PyProof.Rows
namespace F
end F
namespace ZT
abbrev itO (t : Bool) (l : Addr) : Obj := if t then { cls := .type "tuple_iterator", data := .fields #[.ref l, .int 0 0] } else { cls := .type "list_iterator", data := .fields #[.ref l, .int 0 0] }
section
variable {prog : Program} {w : World} {A : Around} {E : Value → Shared → Prop} {s : Shared}
end
end ZT
end PySem
namespace L2
open PySem PySem.Spec PyProof.Rows
section
variable {X : Cx} {K : PySem.W.Frag} {pins : List (Addr × Obj)} {σ : St} {H : Hp} {s : Shared} {A : Around} {E : Value → Shared → Prop} {Q : Value → Shared → Prop} {b : Bool}
end
end L2
set_option maxHeartbeats 1000000
namespace L2
open PySem PySem.Spec PyProof.Rows
def Dq (K : PySem.W.Frag) (H : Hp) : Nat → V → V → Prop
  | 0, x, y => plainV x = true ∧ x = y
  | n + 1, x, y => (plainV x = true ∧ x = y) ∨ ∃ a b xs ys, x = .ref a ∧ y = .ref b ∧ SqT K H a xs ∧ SqT K H b ys ∧ xs.length = ys.length ∧ ∀ (j : Nat) u v, xs[j]? = some u → ys[j]? = some v → Dq K H n u v
section
variable {X : Cx} {K : PySem.W.Frag} {pins : List (Addr × Obj)} {σ : St} {H : Hp} {s : Shared}
theorem vals_at2 {xs : List V} {us : List Value} (r : Vals xs us) {j : Nat} (h1 : j < us.toArray.size) : ∃ x, xs[j]? = some x ∧ RelV x us.toArray[j] := by
  have hj : j < xs.length := by rw [r.length]; simpa using h1
  obtain ⟨u, hu, ru⟩ := r.get (i := j) (x := xs[j]) (by simp [hj])
  have e1 : us.toArray[j] = u := by
    have : us[j]? = some us.toArray[j] := by simp
    rw [hu] at this; exact (Option.some.inj this).symm
  exact ⟨xs[j], by simp [hj], by rw [e1]; exact ru⟩
theorem rcAt_of (I : Inv X pins σ H s) {A : Around} {a b : Addr} {xs ys : List V} (hu : A.units < cLine) (ha : SqT X.K H a xs) (hb : SqT X.K H b ys) (hl : xs.length = ys.length)
    (he : ∀ (j : Nat) x y u v, xs[j]? = some x → ys[j]? = some y → RelV x u → RelV y v → SeqAt.EqAt A.in1 s u v true) : SeqAt.RcAt A s (.ref a) (.ref b) true := by
  obtain ⟨its, r, pl, _⟩ := I.tuple ha
  obtain ⟨its2, r2, pl2, _⟩ := I.tuple hb
  have hl2 : its.length = its2.length := by rw [← r.length, ← r2.length]; exact hl
  have h := SeqAt.RcAt.tuples (A := A) (s := s) (e := fun _ => true) pl pl2 hu (fun j h1 h2 => by
    obtain ⟨x, hx, rx⟩ := vals_at2 r h1
    obtain ⟨y, hy, ry⟩ := vals_at2 r2 h2
    exact he j x y _ _ hx hy rx ry)
  have e : ((List.range (min its.toArray.size its2.toArray.size)).all (fun _ => true) && its.toArray.size == its2.toArray.size) = true := by simp [hl2]
  rw [e] at h
  exact h
theorem eqAt_dq (I : Inv X pins σ H s) (n : Nat) : ∀ (A : Around) (x y : V) (u v : Value), A.units + n < cLine → Dq X.K H n x y → RelV x u → RelV y v → SeqAt.EqAt A s u v true := by
  induction n with
  | zero =>
    intro A x y u v _ h rx ry
    obtain ⟨hp, rfl⟩ := h
    exact eqAt_same rx ry hp
  | succ n ih =>
    intro A x y u v hu h rx ry
    rcases h with ⟨hp, rfl⟩ | ⟨a, b, xs, ys, rfl, rfl, ha, hb, hl, hd⟩
    · exact eqAt_same rx ry hp
    · cases rx; cases ry
      by_cases e : a = b
      · subst e; exact SeqAt.EqAt.same _
      · have h1 : A.units < cLine := Nat.lt_of_le_of_lt (Nat.le_add_right _ _) hu
        have h2 : A.in1.units + n < cLine := by
          show A.units + 1 + n < cLine
          rw [Nat.add_assoc, Nat.add_comm 1 n]; exact hu
        exact SeqAt.EqAt.of_refs e (rcAt_of I h1 ha hb hl fun j x y u v hx hy rx ry => ih A.in1 x y u v h2 (hd j x y hx hy) rx ry)
end
end L2
namespace HT
open PySem PyProof.Rows
section
variable {prog : Program} {w : World} {A : Around} {E : Value → Shared → Prop} {s : Shared}
end
end HT
namespace L2
open PySem PySem.Spec PyProof.Rows
section
variable {X : Cx} {K : PySem.W.Frag}
end
end L2
namespace TM
open PySem PyProof.Rows
section
variable {prog : Program} {w : World} {A : Around} {E : Value → Shared → Prop} {s : Shared}
end
end TM
namespace L2
open PySem PySem.Spec PyProof.Rows
section
variable {X : Cx} {K : PySem.W.Frag}
end
end L2
namespace L2
open PySem PySem.Spec PyProof.Rows
section
variable {X : Cx} {K : PySem.W.Frag}
end
end L2
set_option maxHeartbeats 1000000
namespace TM
open PySem PyProof.Rows PySem.SeqAt
end TM
namespace L2
open PySem PySem.Spec PyProof.Rows
section
variable {X : Cx} {K : PySem.W.Frag}
end
end L2
namespace L2
open PySem PySem.Spec PyProof.Rows
section
variable {X : Cx} {K : PySem.W.Frag} {e : Expr} {es tes : List Expr} {t tt : TA} {name : Str} {apos cpos tpos : Pos} {id : String} {r : V → List V → Hp → VK → Prop}
end
end L2
namespace L2
open PySem PySem.Spec PyProof.Rows
section
variable {κ : Type} [DecidableEq κ]
def valV (kvs : List (κ × V)) (k : κ) : Option V := (kvs.find? fun kv => decide (kv.1 = k)).map (·.2)
def putK (kvs : List (κ × V)) (k : κ) (v : V) : List (κ × V) :=
  if (kvs.any fun kv => decide (kv.1 = k)) = true then kvs.map (fun kv => if kv.1 = k then (kv.1, v) else kv) else kvs ++ [(k, v)]
theorem valV_pos {p : κ × V} {r : List (κ × V)} {k : κ} (e : p.1 = k) : valV (p :: r) k = some p.2 := by simp [valV, List.find?_cons, e]
theorem valV_neg {p : κ × V} {r : List (κ × V)} {k : κ} (e : ¬ p.1 = k) : valV (p :: r) k = valV r k := by simp [valV, List.find?_cons, e]
theorem valV_any (k : κ) : ∀ kvs : List (κ × V), (kvs.any fun kv => decide (kv.1 = k)) = (valV kvs k).isSome
  | [] => rfl
  | p :: r => by
    rw [List.any_cons]
    by_cases e : p.1 = k
    · simp only [valV_pos e, decide_eq_true e, Bool.true_or, Option.isSome_some]
    · rw [valV_neg e, decide_eq_false e, Bool.false_or]; exact valV_any k r
theorem valV_map (k j : κ) (y : V) : ∀ kvs : List (κ × V), valV (kvs.map fun kv => if kv.1 = k then (kv.1, y) else kv) j = (valV kvs j).map fun x => if j = k then y else x
  | [] => rfl
  | p :: r => by
    have ih := valV_map k j y r
    rw [List.map_cons]
    by_cases h : p.1 = k
    · rw [if_pos h]
      by_cases e : p.1 = j
      · rw [valV_pos (p := (p.1, y)) e, valV_pos e, Option.map_some, if_pos (e.symm.trans h)]
      · rw [valV_neg (p := (p.1, y)) e, valV_neg e, ih]
    · rw [if_neg h]
      by_cases e : p.1 = j
      · rw [valV_pos (p := p) e, valV_pos e, Option.map_some, if_neg (fun z => h (e.trans z))]
      · rw [valV_neg (p := p) e, valV_neg e, ih]
theorem valV_snoc (k j : κ) (y : V) : ∀ kvs : List (κ × V), valV kvs k = none → valV (kvs ++ [(k, y)]) j = if j = k then some y else valV kvs j
  | [], _ => by
    by_cases e : k = j
    · rw [if_pos e.symm]; exact valV_pos (p := (k, y)) e
    · rw [if_neg (fun z => e z.symm)]; exact valV_neg (p := (k, y)) e
  | p :: r, hn => by
    rw [List.cons_append]
    have hk : ¬ p.1 = k := fun z => by rw [valV_pos z] at hn; cases hn
    rw [valV_neg hk] at hn
    have ih := valV_snoc k j y r hn
    by_cases e : p.1 = j
    · rw [valV_pos e, valV_pos e, if_neg (fun z => hk (e.trans z))]
    · rw [valV_neg e, valV_neg e, ih]
theorem valV_put (kvs : List (κ × V)) (k j : κ) (y : V) : valV (putK kvs k y) j = if j = k then some y else valV kvs j := by
  unfold putK
  by_cases a : (kvs.any fun kv => decide (kv.1 = k)) = true
  · rw [if_pos a, valV_map]
    rw [valV_any] at a
    by_cases e : j = k
    · obtain ⟨x, hx⟩ := Option.isSome_iff_exists.mp a
      rw [if_pos e, e, hx, Option.map_some, if_pos rfl]
    · rw [if_neg e]
      cases valV kvs j with
      | none => rfl
      | some x => rw [Option.map_some, if_neg e]
  · rw [if_neg a]
    refine valV_snoc k j y kvs ?_
    rw [valV_any] at a
    cases q : valV kvs k with
    | none => rfl
    | some x => rw [q] at a; exact (a rfl).elim
theorem length_putK (kvs : List (κ × V)) (k : κ) (v : V) : (putK kvs k v).length ≤ kvs.length + 1 := by
  unfold putK
  split
  · rw [List.length_map]; omega
  · rw [List.length_append, List.length_cons, List.length_nil]; omega
theorem RelO.isSome_eq {o : Option V} {u : Option Value} (r : RelO o u) : o.isSome = u.isSome := by
  cases o with
  | none => cases u with
    | none => rfl
    | some _ => exact (show False from r).elim
  | some _ => cases u with
    | none => exact (show False from r).elim
    | some _ => rfl
theorem KV.val {kvs : List (κ × V)} {vs : List (κ × Value)} (r : KV kvs vs) (k : κ) : RelO (valV kvs k) (valueAt vs k) := by
  unfold KV at r
  induction r with
  | nil => exact True.intro
  | @cons p q ps qs h t ih =>
    obtain ⟨h1, h2⟩ := h
    by_cases e : p.1 = k
    · have e' : q.1 = k := h1.symm.trans e
      have b : valueAt (q :: qs) k = some q.2 := by simp [valueAt, List.find?_cons, e']
      rw [valV_pos e, b]; exact h2
    · have e' : ¬ q.1 = k := fun z => e (h1.trans z)
      have b : valueAt (q :: qs) k = valueAt qs k := by simp [valueAt, List.find?_cons, e']
      rw [valV_neg e, b]; exact ih
theorem KV.any {kvs : List (κ × V)} {vs : List (κ × Value)} (r : KV kvs vs) (k : κ) : (kvs.any fun kv => decide (kv.1 = k)) = vs.any fun kv => decide (kv.1 = k) := by
  unfold KV at r
  induction r with
  | nil => rfl
  | cons h t ih => rw [List.any_cons, List.any_cons, ih, h.1]
theorem KV.repl {kvs : List (κ × V)} {vs : List (κ × Value)} (r : KV kvs vs) (k : κ) {y : V} {u : Value} (ry : RelV y u) :
    KV (kvs.map fun kv => if kv.1 = k then (kv.1, y) else kv) (vs.map fun kv => if kv.1 = k then (kv.1, u) else kv) := by
  unfold KV at r ⊢
  induction r with
  | nil => exact .nil
  | @cons p q ps qs h t ih =>
    rw [List.map_cons, List.map_cons]
    refine .cons ?_ ih
    obtain ⟨h1, h2⟩ := h
    by_cases e : p.1 = k
    · rw [if_pos e, if_pos (h1.symm.trans e)]; exact ⟨h1, ry⟩
    · rw [if_neg e, if_neg (fun z => e (h1.trans z))]; exact ⟨h1, h2⟩
theorem KV.put {kvs : List (κ × V)} {vs : List (κ × Value)} (r : KV kvs vs) (k : κ) {y : V} {u : Value} (ry : RelV y u) : KV (putK kvs k y) (stored vs k u) := by
  unfold putK stored
  rw [r.any k]
  by_cases e : (vs.any fun kv => decide (kv.1 = k)) = true
  · rw [if_pos e, if_pos e]; exact r.repl k ry
  · rw [if_neg e, if_neg e]; exact Paired.snoc r ⟨rfl, ry⟩
theorem KV.length {kvs : List (κ × V)} {vs : List (κ × Value)} (r : KV kvs vs) : kvs.length = vs.length := Paired.length r
end
theorem kV_is {P : Program} {w : World} {k : Key} {u : Value} (r : RelV (kV k) u) : (mixKind P w).is k u = true := by
  cases k with
  | inl i => obtain ⟨t, e⟩ := (show ∃ t, u = Value.int i t from r); subst e; exact mixKind_int P w i t
  | inr x => obtain ⟨t, e⟩ := (show ∃ t, u = Value.str x t from r); subst e; exact mixKind_str P w x t
theorem items_are {P : Program} {w : World} : ∀ {ks : List Key} {us : List Value}, Vals (ks.map kV) us → ItemsAre (mixKind P w) ks us
  | [], _, r => by rw [List.map_nil] at r; cases r; exact .nil
  | k :: ks, _, r => by
    rw [List.map_cons] at r
    cases r with
    | cons h t => exact .cons (kV_is h) (items_are t)
abbrev KT (H : Hp) : List (List Key × V) → List (List Key × Addr × Value) → Prop := Paired fun p q => p.1 = q.1 ∧ H q.2.1 = some (.tup (p.1.map kV)) ∧ RelV p.2 q.2.2
theorem KT.val {H : Hp} {kvs : List (List Key × V)} {xs : List (List Key × Addr × Value)} (r : KT H kvs xs) (k : List Key) : RelO (valV kvs k) ((atKey xs k).map (·.2)) := by
  induction r with
  | nil => exact True.intro
  | @cons p q ps qs h t ih =>
    obtain ⟨h1, _, h2⟩ := h
    by_cases e : p.1 = k
    · have e' : q.1 = k := h1.symm.trans e
      have b : atKey (q :: qs) k = some q.2 := by simp [atKey, List.find?_cons, e']
      rw [valV_pos e, b]; exact h2
    · have e' : ¬ q.1 = k := fun z => e (h1.trans z)
      have b : atKey (q :: qs) k = atKey qs k := by simp [atKey, List.find?_cons, e']
      rw [valV_neg e, b]; exact ih
theorem KT.repl {H : Hp} {kvs : List (List Key × V)} {xs : List (List Key × Addr × Value)} (r : KT H kvs xs) (k : List Key) {y : V} {u : Value} (ry : RelV y u) :
    KT H (kvs.map fun kv => if kv.1 = k then (kv.1, y) else kv) (xs.map (putAt k u)) := by
  induction r with
  | nil => exact .nil
  | @cons p q ps qs h t ih =>
    rw [List.map_cons, List.map_cons]
    refine .cons ?_ ih
    obtain ⟨h1, h2, h3⟩ := h
    unfold putAt
    by_cases e : p.1 = k
    · rw [if_pos e, if_pos (h1.symm.trans e)]; exact ⟨h1, h2, ry⟩
    · rw [if_neg e, if_neg (fun z => e (h1.trans z))]; exact ⟨h1, h2, h3⟩
theorem KT.put {H : Hp} {kvs : List (List Key × V)} {xs : List (List Key × Addr × Value)} (r : KT H kvs xs) (k : List Key) {b : Addr} {y : V} {u : Value} (hb : H b = some (.tup (k.map kV))) (ry : RelV y u) :
    KT H (putK kvs k y) (storedH xs k b u) := by
  have e : (kvs.any fun kv => decide (kv.1 = k)) = (atKey xs k).isSome := by
    rw [valV_any, (r.val k).isSome_eq, Option.isSome_map]
  unfold putK storedH
  rw [e]
  by_cases q : (atKey xs k).isSome = true
  · rw [if_pos q, if_pos q]; exact r.repl k ry
  · rw [if_neg q, if_neg q]; exact Paired.snoc r ⟨rfl, hb, ry⟩
theorem KT.keeps {H H' : Hp} {kvs : List (List Key × V)} {xs : List (List Key × Addr × Value)} (r : KT H kvs xs) (ht : ∀ b ys, H b = some (.tup ys) → H' b = some (.tup ys)) : KT H' kvs xs :=
  Paired.mapP r fun _ _ z => ⟨z.1, ht _ _ z.2.1, z.2.2⟩
section
variable {P : Program} {w : World} {H : Hp} {h : Heap} {a : Addr}
theorem rd_of {u : HO} (ok : HOk P w H h) (e : Rd H a u) : ObjOk P w H h a u := e.ok ok
theorem dk_rd {kvs : List (Key × V)} (ok : HOk P w H h) (e : Rd H a (.dK kvs)) : kvs.length ≤ sizeLine ∧ (a == sysModules) = false ∧ ∃ vs, KV kvs vs ∧ h.DictOf (mixKind P w) a vs :=
  show ObjOk P w H h a (.dK kvs) from rd_of ok e
theorem dk_of {kvs : List (Key × V)} (ok : HOk P w H h) (e : H a = some (.dK kvs)) : kvs.length ≤ sizeLine ∧ (a == sysModules) = false ∧ ∃ vs, KV kvs vs ∧ h.DictOf (mixKind P w) a vs := dk_rd ok (.inl e)
theorem key_of {ks : List Key} (ok : HOk P w H h) (e : H a = some (.tup (ks.map kV))) : (tupleKind (mixKind P w)).is h ks a := by
  obtain ⟨_, its, r, o, h1, h2, n, h3⟩ := (show ObjOk P w H h a (.tup (ks.map kV)) from ok a _ e)
  exact ⟨o, its.toArray, n, h1, h2, h3, by simpa using items_are r⟩
theorem dt_rd {kvs : List (List Key × V)} (ok : HOk P w H h) (e : Rd H a (.dT kvs)) : kvs.length ≤ sizeLine ∧ (a == sysModules) = false ∧
    ∃ xs, KT H kvs xs ∧ h.DictOfH (tupleKind (mixKind P w)) a xs := by
  obtain ⟨z, y, xs, r, o, es, ep, h1, h2, h3, h4, h5⟩ := (show ObjOk P w H h a (.dT kvs) from rd_of ok e)
  refine ⟨z, y, xs, r, o, es, ep, h1, h2, h3, h4, fun x hx => ?_, h5⟩
  have all : ∀ {l : List (List Key × V)} {m : List (List Key × Addr × Value)}, KT H l m → ∀ x ∈ m, (tupleKind (mixKind P w)).is h x.1 x.2.1 := by
    intro l m q
    induction q with
    | nil => intro x hx; exact nomatch hx
    | @cons p q ps qs hq t ih =>
      intro x hx
      rcases List.mem_cons.mp hx with e | hx
      · subst e
        exact key_of ok (by rw [← hq.1]; exact hq.2.1)
      · exact ih x hx
  exact all r x hx
theorem dt_of {kvs : List (List Key × V)} (ok : HOk P w H h) (e : H a = some (.dT kvs)) : kvs.length ≤ sizeLine ∧ (a == sysModules) = false ∧
    ∃ xs, KT H kvs xs ∧ h.DictOfH (tupleKind (mixKind P w)) a xs := dt_rd ok (.inl e)
end
def DGet (H : Hp) (a : Addr) (y : V) (r : Option V) : Prop :=
  (∃ kvs k, Rd H a (.dK kvs) ∧ y = kV k ∧ r = valV kvs k) ∨ ∃ kvs k b, Rd H a (.dT kvs) ∧ y = .ref b ∧ H b = some (.tup (k.map kV)) ∧ r = valV kvs k
def DPut (H : Hp) (a : Addr) (y v : V) (H' : Hp) : Prop :=
  (∃ kvs k, H a = some (.dK kvs) ∧ y = kV k ∧ kvs.length < sizeLine ∧ H' = upd H a (.dK (putK kvs k v))) ∨
  ∃ kvs k b, H a = some (.dT kvs) ∧ y = .ref b ∧ H b = some (.tup (k.map kV)) ∧ kvs.length < sizeLine ∧ H' = upd H a (.dT (putK kvs k v))
theorem DGet.k {H : Hp} {a : Addr} {kvs : List (Key × V)} {k : Key} (e : H a = some (.dK kvs)) : DGet H a (kV k) (valV kvs k) := .inl ⟨kvs, k, .inl e, rfl, rfl⟩
theorem DPut.k {H : Hp} {a : Addr} {kvs : List (Key × V)} {k : Key} {v : V} (e : H a = some (.dK kvs)) (hl : kvs.length < sizeLine) : DPut H a (kV k) v (upd H a (.dK (putK kvs k v))) := .inl ⟨kvs, k, e, rfl, hl, rfl⟩
section
variable {X : Cx} {pins : List (Addr × Obj)} {σ : St} {H : Hp} {s : Shared} {a : Addr} {y v : V} {u r : Value} {o : Option V} {A : Around} {E : Value → Shared → Prop}
theorem Inv.big (I : Inv X pins σ H s) : sysModules < s.heap.objs.size := by
  have h : mainGlobals < s.heap.objs.size := (I.mod.glob.keeps I.bk).lt
  exact Nat.lt_trans (by decide) h
theorem d_in {Q : Value → Shared → Prop} (hu : A.units + 1 < cLine) (I : Inv X pins σ H s) (g : DGet H a y o) (ry : RelV y u) (h : ∀ s', Inv X pins σ H s' → Q (.bool o.isSome) s') :
    wpAny (model X.prog X.w) A (compareOp .In u (.ref a)) Q E s := by
  rcases g with ⟨kvs, k, e, ey, l⟩ | ⟨kvs, k, b, e, ey, eb, l⟩
  · subst ey
    obtain ⟨z, hd, vs, rel, dd⟩ := dk_rd I.hok e
    refine wpAny_in_of (kV_is ry) hd dd.mapOf ?_
    rw [← (rel.val k).isSome_eq, ← l]
    exact h _ (I.tok _)
  · subst ey
    cases (show u = Value.ref b from ry)
    obtain ⟨z, hd, xs, rel, dd⟩ := dt_rd I.hok e
    refine wpAny_in_heap (tupleKind_room_in1 hu) (key_of I.hok eb) hd dd ?_
    have q := (rel.val k).isSome_eq
    rw [Option.isSome_map] at q
    rw [← q, ← l]
    exact h _ (I.tok _)
theorem d_notIn {Q : Value → Shared → Prop} (hu : A.units + 1 < cLine) (I : Inv X pins σ H s) (g : DGet H a y o) (ry : RelV y u) (h : ∀ s', Inv X pins σ H s' → Q (.bool (!o.isSome)) s') :
    wpAny (model X.prog X.w) A (compareOp .NotIn u (.ref a)) Q E s := by
  rcases g with ⟨kvs, k, e, ey, l⟩ | ⟨kvs, k, b, e, ey, eb, l⟩
  · subst ey
    obtain ⟨z, hd, vs, rel, dd⟩ := dk_rd I.hok e
    refine wpAny_notIn_of (kV_is ry) hd dd.mapOf ?_
    rw [← (rel.val k).isSome_eq, ← l]
    exact h _ (I.tok _)
  · subst ey
    cases (show u = Value.ref b from ry)
    obtain ⟨z, hd, xs, rel, dd⟩ := dt_rd I.hok e
    refine wpAny_notIn_heap (tupleKind_room_in1 hu) (key_of I.hok eb) hd dd ?_
    have q := (rel.val k).isSome_eq
    rw [Option.isSome_map] at q
    rw [← q, ← l]
    exact h _ (I.tok _)
theorem d_write {h' : Heap} {t' : Nat} {ob : HO} (I : Inv X pins σ H s) (mu : Mut (H a)) (hs : Heap.SameBut a s.heap h') (he : ∃ q, h'.get? a = some q) (new : ObjOk X.prog X.w (upd H a ob) h' a ob) :
    Inv X pins σ (upd H a ob) { s with heap := h', toks := t' } :=
  I.write (x := a) (e := a) mu (.inl rfl) (fun b q hb z => (hs.2 b hb).trans z) he new
theorem dk_new {P : Program} {w : World} {H' : Hp} {h' : Heap} {kvs : List (Key × V)} {vs : List (Key × Value)} (z : kvs.length ≤ sizeLine) (hd : (a == sysModules) = false) (rel : KV kvs vs) (dd : h'.DictOf (mixKind P w) a vs) :
    ObjOk P w H' h' a (.dK kvs) := ⟨z, hd, vs, rel, dd⟩
theorem d_setItem {H' : Hp} {Q : Unit → Shared → Prop} (hu : A.units + 1 < cLine) (I : Inv X pins σ H s) (g : DPut H a y v H') (ry : RelV y u) (rv : RelV v r) (h : ∀ s', Inv X pins σ H' s' → Q () s') :
    wpAny (model X.prog X.w) A (setItem (.ref a) u r) Q E s := by
  rcases g with ⟨kvs, k, e, ey, l, eH⟩ | ⟨kvs, k, b, e, ey, eb, l, eH⟩
  · subst ey eH
    obtain ⟨z, hd, vs, rel, dd⟩ := dk_of I.hok e
    have hz : vs.length ≤ sizeLine := by rw [← rel.length]; exact z
    have hl : (putK kvs k v).length ≤ sizeLine := by have := length_putK kvs k v; omega
    refine wpAny_setItem_pairs (hsz := hz) (kV_is ry) dd fun h' dd' hs => h _ ?_
    have he : ∃ q, h'.get? a = some q := let ⟨q, _, _, hq, _⟩ := dd'; ⟨q, hq⟩
    exact d_write I (by rw [e]; exact True.intro) hs he (dk_new hl hd (rel.put k rv) dd')
  · subst ey eH
    cases (show u = Value.ref b from ry)
    obtain ⟨z, hd, xs, rel, dd⟩ := dt_of I.hok e
    have hz : xs.length ≤ sizeLine := by rw [← Paired.length rel]; exact z
    have hl : (putK kvs k v).length ≤ sizeLine := by have := length_putK kvs k v; omega
    refine wpAny_setItem_heap (hsz := hz) (tupleKind_room_in1 hu) (key_of I.hok eb) dd fun h' dd' hs => h _ ?_
    obtain ⟨q, es, ep, hq, h2, h3, h4, _, h5⟩ := dd'
    refine d_write I (by rw [e]; exact True.intro) hs ⟨q, hq⟩ ⟨hl, hd, _, (rel.put k eb rv).keeps fun c ys ec => ?_, q, es, ep, hq, h2, h3, h4, h5⟩
    rw [upd_ne (ne_of ec e (fun z => nomatch z))]
    exact ec
end
section
variable {X : Cx} {pins : List (Addr × Obj)} {σ : St} {H : Hp} {s : Shared} {a : Addr} {kvs : List (Key × V)} {k : Key} {u : Value} {A : Around} {E : Value → Shared → Prop}
end
section
variable {X : Cx} {o i e value : Expr} {pos pos' tpos : Pos} {td ty tv : TE}
end
theorem dk_empty {P : Program} {w : World} {H : Hp} (h : Heap) (hb : sysModules < h.objs.size) : ObjOk P w H (h.push { cls := .type "dict", data := .dict #[] }) h.objs.size (.dK []) :=
  ⟨Nat.zero_le _, beq_eq_false_iff_ne.mpr (Ne.symm (Nat.ne_of_lt hb)), [], .nil, Heap.DictOf.new h⟩
section
variable {X : Cx} {pos : Pos}
end
def tPairs : List (TE × TE) → St → Hp → (List (V × V) → Hp → Prop) → Prop
  | [], _, H, Q => Q [] H
  | (tk, tv) :: r, σ, H, Q => tk σ H fun x H1 => tv σ H1 fun y H2 => tPairs r σ H2 fun ps H3 => Q ((x, y) :: ps) H3
abbrev VV : List (V × V) → List (Value × Value) → Prop := Paired fun p q => RelV p.1 q.1 ∧ RelV p.2 q.2
def PPs (X : Cx) (pos : Pos) (keys : List (Option Expr)) (values : List Expr) (trs : List (TE × TE)) : Prop :=
  ∀ (pins : List (Addr × Obj)) (s : Shared) (σ : St) (H : Hp) (Q : List (V × V) → Hp → Prop), Inv X pins σ H s → tPairs trs σ H Q →
    wpAny (model X.prog X.w) X.A (evalPairs (pairTrees keys values X.env pos)) (fun vs s' => ∃ ps H', Inv X pins σ H' s' ∧ VV ps vs ∧ Q ps H') X.xe s
theorem pps_nil {X : Cx} {pos : Pos} : PPs X pos [] [] [] := fun pins s σ H Q I h => pairTrees_nil_walk ⟨[], H, I, .nil, h⟩
theorem pps_cons {X : Cx} {pos : Pos} {k v : Expr} {ks : List (Option Expr)} {vs : List Expr} {tk tv : TE} {trs : List (TE × TE)} (hk : PE X k tk) (hv : PE X v tv) (hr : PPs X pos ks vs trs) :
    PPs X pos (some k :: ks) (v :: vs) ((tk, tv) :: trs) := fun pins s σ H Q I h =>
  pairTrees_cons_walk (thn (hk pins s σ H _ I h) fun u s1 ⟨x, H1, I1, rx, q1⟩ => thn (hv pins s1 σ H1 _ I1 q1) fun w2 s2 ⟨y, H2, I2, ry, q2⟩ =>
    thn (hr pins s2 σ H2 _ I2 q2) fun ws s3 ⟨ps, H3, I3, rel, q3⟩ => ⟨(x, y) :: ps, H3, I3, .cons ⟨rx, ry⟩ rel, q3⟩)
def mergeK (kvs more : List (Key × V)) : List (Key × V) := more.foldl (fun acc kv => putK acc kv.1 kv.2) kvs
theorem KV.merge : ∀ {more : List (Key × V)} {rs : List (Key × Value)} {kvs : List (Key × V)} {vs : List (Key × Value)}, KV more rs → KV kvs vs → KV (mergeK kvs more) (merged vs rs) := by
  intro more rs kvs vs r
  unfold KV at r
  induction r generalizing kvs vs with
  | nil => intro q; exact q
  | @cons p q ps qs h t ih =>
    intro r0
    have e : KV (putK kvs p.1 p.2) (stored vs q.1 q.2) := by
      have := r0.put p.1 h.2
      rw [← h.1]; exact this
    exact ih e
theorem length_mergeK : ∀ (more kvs : List (Key × V)), (mergeK kvs more).length ≤ kvs.length + more.length
  | [], kvs => by show kvs.length ≤ kvs.length + 0; omega
  | p :: r, kvs => by
    have h1 := length_mergeK r (putK kvs p.1 p.2)
    have h2 := length_putK kvs p.1 p.2
    show (mergeK (putK kvs p.1 p.2) r).length ≤ _
    rw [List.length_cons]; omega
theorem carries_of {P : Program} {w : World} : ∀ {kvs : List (Key × V)} {ws : List (Value × Value)}, VV (kvs.map fun kv => (kV kv.1, kv.2)) ws → ∃ rs, Carries (mixKind P w) ws rs ∧ KV kvs rs
  | [], _, r => by rw [List.map_nil] at r; cases r; exact ⟨[], True.intro, .nil⟩
  | p :: kvs, _, r => by
    rw [List.map_cons] at r
    cases r with
    | @cons a b as bs h t =>
      obtain ⟨rs, c, q⟩ := carries_of (P := P) (w := w) t
      obtain ⟨b1, b2⟩ := b
      exact ⟨(p.1, b2) :: rs, ⟨kV_is h.1, rfl, c⟩, .cons ⟨rfl, h.2⟩ q⟩
def tDisp (trs : List (TE × TE)) : TE := fun σ H Q => ∀ p, H p = none → tPairs trs σ (upd H p (.dK [])) fun ps H2 => H2 p = some (.dK []) ∧ ∃ kvs : List (Key × V), ps = kvs.map (fun kv => (kV kv.1, kv.2)) ∧ kvs.length ≤ 15 ∧ Q (.ref p) (upd H2 p (.dK (mergeK [] kvs)))
theorem pe_disp {X : Cx} {pos : Pos} {keys : List (Option Expr)} {values : List Expr} {trs : List (TE × TE)} (h : PPs X pos keys values trs) (hall : keys.all (·.isSome) = true) (hl : keys.length = values.length) (h0 : keys ≠ [])
    (h15 : keys.length ≤ 15) : PE X (.Dict keys values pos) (tDisp trs) := by
  intro pins s σ H Q I q
  have hn := I.hok.fresh (Nat.le_refl s.heap.objs.size)
  have I1 := I.laid (a := s.heap.objs.size) (o := .dK []) (h' := s.heap.push { cls := .type "dict", data := .dict #[] }) (t' := s.toks) (fun _ _ q => Heap.get?_push_of_some _ q) (Nat.le_refl _) (dk_empty s.heap I.big)
  refine wpAny_Dict_walk (knd := mixKind X.prog X.w) hall hl h0 h15 (thn (h pins _ σ _ _ I1 (q _ hn)) fun ws s2 ⟨ps, H2, I2, rel, e, kvs, ep, lk, q2⟩ => ?_)
  subst ep
  obtain ⟨rs, c, rk⟩ := carries_of (P := X.prog) (w := X.w) rel
  obtain ⟨z, hd, vs0, r0, dd⟩ := dk_of I2.hok e
  cases r0
  refine ⟨rs, c, dd, fun h' dd' hs => ⟨.ref s.heap.objs.size, _, ?_, rfl, q2⟩⟩
  have hz : (mergeK [] kvs).length ≤ sizeLine := by
    have h1 := length_mergeK kvs []
    rw [List.length_nil] at h1
    rw [sizeLine_eq]; omega
  have he : ∃ q, h'.get? s.heap.objs.size = some q := let ⟨q, _, _, hq, _⟩ := dd'; ⟨q, hq⟩
  exact d_write I2 (by rw [e]; exact True.intro) hs he (dk_new hz hd (rk.merge .nil) dd')
section
variable {X : Cx} {pins : List (Addr × Obj)} {σ : St} {H : Hp} {s : Shared} {a : Addr} {y d : V} {u r : Value} {o : Option V} {A : Around} {E : Value → Shared → Prop}
end
section
variable {X : Cx} {o e f : Expr} {apos cpos : Pos} {td ty tx : TE}
end
section
variable {X : Cx} {pins : List (Addr × Obj)} {σ : St} {H : Hp} {s : Shared} {a : Addr} {kvs : List (Key × V)} {A : Around} {E : Value → Shared → Prop}
end
section
variable {X : Cx} {pins : List (Addr × Obj)} {σ : St} {H : Hp} {s : Shared} {a : Addr} {y : V} {u : Value} {A : Around} {E : Value → Shared → Prop}
end
end L2
namespace L2
open PySem PySem.Spec PyProof.Rows
section
variable {X : Cx}
def rInD : R2 := fun x y H Q => ∃ a o, y = .ref a ∧ DGet H a x o ∧ Q (.bl o.isSome) H
def rNotInD : R2 := fun x y H Q => ∃ a o, y = .ref a ∧ DGet H a x o ∧ Q (.bl (!o.isSome)) H
theorem kInD (hu : X.A.units + 64 < cLine) : OpR X (compareOp .In) rInD := by
  intro pins s σ H x y v u Q I rx ry h
  obtain ⟨a, o, rfl, g, q⟩ := h
  cases ry
  exact d_in (by omega) I g rx fun s' I' => ⟨.bl o.isSome, H, I', rfl, q⟩
theorem kNotInD (hu : X.A.units + 64 < cLine) : OpR X (compareOp .NotIn) rNotInD := by
  intro pins s σ H x y v u Q I rx ry h
  obtain ⟨a, o, rfl, g, q⟩ := h
  cases ry
  exact d_notIn (by omega) I g rx fun s' I' => ⟨.bl (!o.isSome), H, I', rfl, q⟩
def rSetD : V → V → V → Hp → (Hp → Prop) → Prop := fun o i v H Q => ∃ a H', o = .ref a ∧ DPut H a i v H' ∧ Q H'
theorem set_dict (hu : X.A.units + 64 < cLine) : PSet X rSetD := by
  intro pins s σ H o i v ov iv u Q I ro ri rv h
  obtain ⟨a, H', rfl, g, q⟩ := h
  cases ro
  exact d_setItem (by omega) I g ri rv fun s' I' => ⟨H', I', q⟩
end
end L2
namespace PySem
namespace ZT
set_option maxHeartbeats 2000000 in
theorem meets_enum0 (t : Bool) (l : Addr) (xs : Array Value) :
    Meets (Builtin.«enumerate.__new__» ⟨[.type "enumerate", .ref l], []⟩) (fun _ R s => IsSq t s.heap l xs ∧
      R (.ok (.ret (.ref (s.heap.objs.size + 1)))) { s with heap := (s.heap.push (itO t l)).push { cls := .type "enumerate", data := .fields #[.none, .bool false, .ref s.heap.objs.size, rawInt 0, .none, .none] } }) := by
  refine .of_wp fun prog w A R s h => ?_
  obtain ⟨hp, g, d, tk, os⟩ := s
  obtain ⟨hl, h⟩ := h
  have hsub := sub_enumerate
  have hz : (hp.push (itO t l)).objs.size = hp.objs.size + 1 := Heap.size_push ..
  have h2 : R (.ok (.ret (.ref (hp.objs.size + 1)))) ⟨(hp.push (itO t l)).push { cls := .type "enumerate", data := .fields #[.none, .bool false, .ref hp.objs.size, rawInt 0, .none, .none] }, g, d, tk, os⟩ := h
  rw [← hz] at h2
  cases t
  · have hL : Heap.IsList (Shared.heap ⟨hp, g, d, tk, os⟩) l xs := hl
    wp_walk using wpAny_pyIter_list hL
    refine wpAny_stack_any fun st => wpAny_pure ?_
    split
    · rename_i c _ _ _ _ _
      cases (c == Value.type "enumerate")
      all_goals
        wp_walk using wpAny_pyIter_list hL
        exact ⟨_, rfl, h2⟩
    · wp_walk using wpAny_pyIter_list hL
      exact ⟨_, rfl, h2⟩
  · have hL : Heap.IsTuple (Shared.heap ⟨hp, g, d, tk, os⟩) l xs := hl
    wp_walk using wpAny_pyIter_tuple hL
    refine wpAny_stack_any fun st => wpAny_pure ?_
    split
    · rename_i c _ _ _ _ _
      cases (c == Value.type "enumerate")
      all_goals
        wp_walk using wpAny_pyIter_tuple hL
        exact ⟨_, rfl, h2⟩
    · wp_walk using wpAny_pyIter_tuple hL
      exact ⟨_, rfl, h2⟩
section
variable {prog : Program} {w : World} {A : Around} {E : Value → Shared → Prop} {s : Shared}
theorem call_enum0 {t : Bool} {l : Addr} {xs : Array Value} {Q : Value → Shared → Prop} (hL : IsSq t s.heap l xs)
    (h : ∀ h', IsEnum h' (s.heap.objs.size + 1) s.heap.objs.size 0 .none → IsIt t h' s.heap.objs.size l 0 → (∀ b o, s.heap.get? b = some o → h'.get? b = some o) → Q (.ref (s.heap.objs.size + 1)) { s with heap := h' }) :
    wpAny (model prog w) A (call (.type "enumerate") [.ref l]) Q E s := by
  refine callType_new F.called_enumerate (by decide) (F.typeCall_enumerate_1 _) (F.newCall_enumerate_1 _) (fun obj => F.args_object_init_2 obj _) F.entry_enumerate_new
    (meets_enum0 t l xs) ⟨hL, ?_⟩
  have hz : (s.heap.push (itO t l)).objs.size = s.heap.objs.size + 1 := Heap.size_push ..
  have he : IsEnum ((s.heap.push (itO t l)).push { cls := .type "enumerate", data := .fields #[.none, .bool false, .ref s.heap.objs.size, rawInt 0, .none, .none] })
      (s.heap.objs.size + 1) s.heap.objs.size 0 .none := by rw [← hz]; exact Heap.get?_push_size _ rfl
  have g1 : ((s.heap.push (itO t l)).push { cls := .type "enumerate", data := .fields #[.none, .bool false, .ref s.heap.objs.size, rawInt 0, .none, .none] }).get? s.heap.objs.size = some (itO t l) := Heap.get?_push_of_some _ (Heap.get?_push_size _ (by cases t <;> rfl))
  refine ⟨⟨_, he, rfl⟩, h _ he ?_ fun b o x => Heap.get?_push_of_some _ (Heap.get?_push_of_some _ x)⟩
  cases t
  · exact ⟨_, g1, rfl, rfl⟩
  · exact ⟨_, g1, rfl, rfl⟩
theorem enumTurn {t : Bool} {e c l : Addr} {i : Nat} {j : Int} {its : Array Value} {x o0 : Value} {Q : Value → Shared → Prop} (hE : IsEnum s.heap e c j o0) (hC : IsIt t s.heap c l i) (hL : IsSq t s.heap l its) (hX : its[i]? = some x) (ne : e ≠ c)
    (q : ∀ h', IsEnumOut h' e c (j + 1) x s.heap.objs.size → IsIt t h' c l (i + 1) → h'.get? s.heap.objs.size = some { cls := .type "tuple", data := .seq #[.int j s.toks, x] } →
      (∀ b o, b ≠ e → b ≠ c → s.heap.get? b = some o → h'.get? b = some o) → Q (.ref s.heap.objs.size) { s with heap := h', toks := s.toks + 1 }) :
    wpAny (model prog w) A (Builtin.«enumerate.__next__» ⟨[.ref e], []⟩) (fun fin s' => ∃ v, fin = .done (.ret v) ∧ Q v s') E s := by
  obtain ⟨h0, g, d, tk, os⟩ := s
  refine wpAny_bind (m := field (.ref e) 2) (wpAny_field hE rfl (x := .ref c) rfl (wpAny_bind (next_item hC hL hX fun h1 c1 (b1 : Heap.SameBut c h0 h1) => ?_)))
  have e1 : IsEnum h1 e c j o0 := (b1.2 e ne).trans hE
  refine wpAny_bind (m := field (.ref e) 3) (wpAny_field e1 rfl (x := rawInt j) rfl ?_)
  refine wpAny_bind (m := field (.ref e) 4) (wpAny_field e1 rfl (x := .none) rfl ?_)
  refine wpAny_bind (m := mkInt j) (wpAny_mkInt ?_)
  refine wpAny_bind (m := setField (.ref e) 3 (rawInt (j + 1))) (wpAny_setField_rec e1 (by simp) fun h2 (e2 : IsEnum h2 e c (j + 1) o0) (b2 : Heap.SameBut e h1 h2) => ?_)
  refine wpAny_bind (m := setField (.ref e) 4 .none) (wpAny_setField_rec e2 (by simp) fun h3 (e3 : IsEnum h3 e c (j + 1) o0) (b3 : Heap.SameBut e h2 h3) => ?_)
  refine wpAny_bind (m := newTuple [.int j tk, x]) (wpAny_newTuple ?_)
  have zz : h3.objs.size = h0.objs.size := by rw [b3.1, b2.1, b1.1]
  have lt : e < h0.objs.size := Heap.lt_size hE
  have e4 : IsEnum (h3.push { cls := .type "tuple", data := .seq #[.int j tk, x] }) e c (j + 1) o0 := Heap.get?_push_of_some _ e3
  have t4 : (h3.push { cls := .type "tuple", data := .seq #[.int j tk, x] }).get? h0.objs.size = some { cls := .type "tuple", data := .seq #[.int j tk, x] } := by rw [← zz]; exact Heap.get?_push_size _ rfl
  have k4 : ∀ b o, b ≠ e → b ≠ c → h0.get? b = some o → (h3.push { cls := .type "tuple", data := .seq #[.int j tk, x] }).get? b = some o := fun b o n1 n2 q =>
    Heap.get?_push_of_some _ (b3.extBut b o n1 (b2.extBut b o n1 (b1.extBut b o n2 q)))
  have c4 : IsIt t (h3.push { cls := .type "tuple", data := .seq #[.int j tk, x] }) c l (i + 1) :=
    ((c1.extBut b2.extBut (Ne.symm ne)).extBut b3.extBut (Ne.symm ne)).at fun o ho => Heap.get?_push_of_some _ ho
  rw [show (⟨h3, g, d, tk + 1, os⟩ : Shared).heap.objs.size = h0.objs.size from zz]
  generalize h3.push { cls := .type "tuple", data := .seq #[.int j tk, x] } = h4 at e4 t4 k4 c4
  clear e3 b3 e2 b2 e1 b1 c1 zz
  refine wpAny_bind (m := Builtin.SmallTypes.ownedTupleIsFree (.ref e)) ?_
  unfold Builtin.SmallTypes.ownedTupleIsFree
  refine wpAny_bind (wpAny_field e4 rfl (x := .none) rfl (wpAny_pure ?_))
  simp only [if_true]
  refine wpAny_bind (wpAny_rule (wpAny_bind (wpAny_field e4 rfl (x := o0) rfl (wpAny_bind (wpAny_setField_rec e4 (by simp) fun h5 (e5 : IsEnum h5 e c (j + 1) x) (b5 : Heap.SameBut e h4 h5) => ?_)))))
  refine wpAny_bind (m := Builtin.SmallTypes.ownedTupleHandOut (.ref e) (.ref h0.objs.size)) ?_
  unfold Builtin.SmallTypes.ownedTupleHandOut
  refine wpAny_bind (wpAny_setField_rec e5 (by simp) fun h6 (e6 : IsEnumOut h6 e c (j + 1) x h0.objs.size) (b6 : Heap.SameBut e h5 h6) => ?_)
  refine wpAny_setField_rec e6 (by simp) fun h7 (e7 : IsEnumOut h7 e c (j + 1) x h0.objs.size) (b7 : Heap.SameBut e h6 h7) => ?_
  refine wpAny_bind (wpAny_letGo (wpAny_pure ⟨_, rfl, q h7 e7 (((c4.extBut b5.extBut (Ne.symm ne)).extBut b6.extBut (Ne.symm ne)).extBut b7.extBut (Ne.symm ne)) ?_ ?_⟩))
  · exact b7.extBut _ _ (Nat.ne_of_gt lt) (b6.extBut _ _ (Nat.ne_of_gt lt) (b5.extBut _ _ (Nat.ne_of_gt lt) t4))
  · exact fun b o n1 n2 q => b7.extBut b o n1 (b6.extBut b o n1 (b5.extBut b o n1 (k4 b o n1 n2 q)))
theorem enumGoes {t : Bool} {e c l : Addr} {i : Nat} {j : Int} {its : Array Value} {x o0 : Value} {Q : Option Value → Shared → Prop} (hE : IsEnum s.heap e c j o0) (hC : IsIt t s.heap c l i) (hL : IsSq t s.heap l its) (hX : its[i]? = some x) (ne : e ≠ c)
    (q : ∀ h', IsEnumOut h' e c (j + 1) x s.heap.objs.size → IsIt t h' c l (i + 1) → h'.get? s.heap.objs.size = some { cls := .type "tuple", data := .seq #[.int j s.toks, x] } →
      (∀ b o, b ≠ e → b ≠ c → s.heap.get? b = some o → h'.get? b = some o) → Q (some (.ref s.heap.objs.size)) { s with heap := h', toks := s.toks + 1 }) : wpAny (model prog w) A (pyNext (.ref e)) Q E s := by
  have ty : s.TypeIs (.ref e) "enumerate" := ⟨_, hE, rfl⟩
  unfold pyNext
  exact wpAny_bind (wpAny_attempt (wpAny_callSpecial?_slot (name := Str.ofString "__next__") ty F.slot_enumerate_next (wpAny_call_entry F.slot_enumerate_next ty F.entry_enumerate_next
      (enumTurn hE hC hL hX ne fun h' a b c k => wpAny_pure (q h' a b c k)) (F.args_enumerate_next_1 _))))
theorem enumEnds {t : Bool} {e c l : Addr} {i : Nat} {j : Int} {its : Array Value} {o0 : Value} {Q : Option Value → Shared → Prop} (hh : A.handled = none) (hE : IsEnum s.heap e c j o0) (hC : IsIt t s.heap c l i) (hL : IsSq t s.heap l its) (hX : its[i]? = none)
    (q : ∀ h', Heap.ExtBut c s.heap h' → Q none { s with heap := h' }) : wpAny (model prog w) A (pyNext (.ref e)) Q E s := by
  have ty : s.TypeIs (.ref e) "enumerate" := ⟨_, hE, rfl⟩
  unfold pyNext
  refine wpAny_bind (wpAny_attempt (wpAny_callSpecial?_slot (name := Str.ofString "__next__") ty F.slot_enumerate_next (wpAny_call_entry F.slot_enumerate_next ty F.entry_enumerate_next ?_ (F.args_enumerate_next_1 _))))
  refine wpAny_bind (m := field (.ref e) 2) (wpAny_field hE rfl (x := .ref c) rfl (wpAny_bind (next_end hh hC hL hX fun h' x he' hx' => ?_)))
  obtain ⟨o, ho, hc⟩ := hx'
  exact wpAny_bind (wpAny_isInstance (T := "StopIteration") (b := true) ⟨o, ho, hc⟩ isSubtype_stop (wpAny_pure (q _ he')))
end
end ZT
end PySem
namespace L2
open PySem PySem.Spec PyProof.Rows
def SqX (t : Bool) (K : PySem.W.Frag) (H : Hp) (a : Addr) (xs : List V) : Prop := if t then SqT K H a xs else SqL K H a xs
section
variable {X : Cx} {pins : List (Addr × Obj)} {σ : St} {H : Hp} {s : Shared} {a : Addr} {xs ys : List V} {t : Bool}
theorem Inv.sqx (I : Inv X pins σ H s) (h : SqX t X.K H a xs) : ∃ its : List Value, Vals xs its ∧ ZT.IsSq t s.heap a its.toArray ∧ xs.length ≤ sizeLine := by
  cases t
  · obtain ⟨its, rv, p, hz⟩ := I.list h
    exact ⟨its, rv, p.isList, hz⟩
  · obtain ⟨its, rv, p, hz⟩ := I.tuple h
    exact ⟨its, rv, p, hz⟩
theorem Inv.sqx_inj (I : Inv X pins σ H s) (h : SqX t X.K H a xs) (h' : SqX t X.K H a ys) : xs = ys := by
  cases t
  · exact I.list_inj h h'
  · exact I.tuple_inj h h'
end
def Itx (t : Bool) (K : PySem.W.Frag) (l : Addr) : It :=
  ⟨fun i H => ∃ xs x, SqX t K H l xs ∧ xs[i]? = some x,
   fun i H v H' => ∃ T x, (∀ xs, SqX t K H l xs → xs[i]? = some x) ∧ H T = none ∧ v = .ref T ∧ H' = upd H T (.tup [.int (i : Nat), x]),
   fun i H => ∃ xs, SqX t K H l xs ∧ xs.length ≤ i⟩
def EnX (t : Bool) (e c l : Addr) (i : Nat) (h : Heap) : Prop := (∃ o0, IsEnum h e c (i : Nat) o0) ∧ ZT.IsIt t h c l i
theorem isIt_obj {t : Bool} {h : Heap} {c l : Addr} {i : Nat} (x : ZT.IsIt t h c l i) : ∃ o, h.get? c = some o ∧ ∀ v, o.data ≠ .cell v := by
  cases t
  · obtain ⟨o, e, c, d⟩ := (show h.IsListIter c l i from x)
    exact ⟨o, e, fun v q => by rw [d] at q; cases q⟩
  · obtain ⟨o, e, c, d⟩ := (show h.IsTupleIter c l i from x)
    exact ⟨o, e, fun v q => by rw [d] at q; cases q⟩
theorem turn_enumX {P : Program} {w : World} {K : PySem.W.Frag} {elts : List Expr} {kt : Nat} {pt : Pos} {e c l : Addr} {t : Bool} (ne : e ≠ c) : Turn P w K (.Tuple elts kt pt) (Itx t K l) [e, c] e (EnX t e c l) where
  mem := by simp
  obj := fun i h st b hb => by
    obtain ⟨⟨o0, h1⟩, h2⟩ := st
    simp only [List.mem_cons, List.not_mem_nil, or_false] at hb
    rcases hb with rfl | rfl
    · exact ⟨_, h1, fun v q => by cases q⟩
    · exact isIt_obj h2
  keep := fun i h h' st k => by
    obtain ⟨⟨o0, h1⟩, h2⟩ := st
    exact ⟨⟨o0, k e (by simp) _ h1⟩, h2.at fun o q => k c (by simp) o q⟩
  item := by
    intro X hP hw hK hc i pins s σ H E I hf st hg
    subst hP hw hK
    obtain ⟨xs, x, q1, hx⟩ := hg
    obtain ⟨⟨o0, h1⟩, h2⟩ := st
    obtain ⟨its, rv, p, hsz⟩ := I.sqx q1
    obtain ⟨u, hu, ru⟩ := rv.get hx
    refine ZT.enumGoes h1 h2 p (x := u) (by simpa using hu) ne fun h' a1 a2 a3 hk => ?_
    have hT0 : H s.heap.objs.size = none := I.hok.fresh (Nat.le_refl _)
    have J1 : Inv X pins σ (upd H s.heap.objs.size (.tup [.int (i : Nat), x])) { s with heap := s.heap.push { cls := .type "tuple", data := .seq #[.int (i : Nat) s.toks, u] }, toks := s.toks + 1 } :=
      I.laid (t' := s.toks + 1) (fun b o e => Heap.get?_push_of_some _ e) (Nat.le_refl _) (show ObjOk X.prog X.w _ _ _ (.tup [.int (i : Nat), x]) from ⟨(by show 2 ≤ sizeLine; decide), [.int (i : Nat) s.toks, u], .cons ⟨_, rfl⟩ (.cons ru .nil), IsTup.new _ _⟩)
    have lt : ∀ b ∈ [e, c], b ≠ s.heap.objs.size := fun b hb => by
      simp only [List.mem_cons, List.not_mem_nil, or_false] at hb
      rcases hb with rfl | rfl
      · exact Nat.ne_of_lt (Heap.lt_size h1)
      · obtain ⟨o, e⟩ := h2.live; exact Nat.ne_of_lt (Heap.lt_size e)
    have hf2 : ∀ b ∈ [e, c], FpOk X pins (upd H s.heap.objs.size (.tup [.int (i : Nat), x])) b := fun b hb => ⟨by rw [upd_ne (lt b hb)]; exact (hf b hb).1, (hf b hb).2⟩
    have J2 : Inv X pins σ (upd H s.heap.objs.size (.tup [.int (i : Nat), x])) { s with heap := h', toks := s.toks + 1 } := Inv.turnedL (s := { s with heap := s.heap.push { cls := .type "tuple", data := .seq #[.int (i : Nat) s.toks, u] }, toks := s.toks + 1 }) (t' := s.toks + 1) (h' := h') (ch := [e, c]) J1 (fun b o hb q => by
      rcases Heap.get?_push_cases q with ⟨rfl, rfl⟩ | q'
      · exact a3
      · simp only [List.mem_cons, List.not_mem_nil, or_false, not_or] at hb
        exact hk b o hb.1 hb.2 q') hf2
    refine ⟨.ref s.heap.objs.size, rfl, ?_⟩
    refine wpAny_letOwnedTupleGo_enum (s := { s with heap := h', toks := s.toks + 1 }) a1 fun h2' hz' hs' => ?_
    obtain ⟨g0, g1, g2, g3, g4, g5⟩ := hf2 e (by simp)
    refine ⟨.ref s.heap.objs.size, _, J2.turned (t' := s.toks + 1) (fun b o hb q => (hs'.2 b hb).trans q) g0 g1 g3 g4 g5, rfl, ⟨s.heap.objs.size, x, fun xs' e1 => ?_, hT0, rfl, rfl⟩, ?_, fun b hb => (hf2 b hb).1⟩
    · rw [I.sqx_inj e1 q1]
      exact hx
    · refine ⟨⟨u, ?_⟩, a2.extBut hs'.extBut (Ne.symm ne)⟩
      have ek : ((i + 1 : Nat) : Int) = (i : Nat) + 1 := by omega
      rw [ek]
      exact hz'
  done := by
    intro X hP hw hK hc i pins s σ H E I hf st hg
    subst hP hw hK
    obtain ⟨xs, q1, hend⟩ := hg
    obtain ⟨⟨o0, h1⟩, h2⟩ := st
    obtain ⟨its, rv, p, hsz⟩ := I.sqx q1
    have l1e := rv.length
    refine ZT.enumEnds (I.ok.hd hc) h1 h2 p (by simp; omega) fun h' hk => ⟨rfl, I.turnedL (t' := s.toks) (ch := [e, c]) (fun b o hb q => ?_) hf⟩
    simp only [List.mem_cons, List.not_mem_nil, or_false, not_or] at hb
    exact hk b o hb.2 q
  self := fun _ _ _ _ _ st h => wpAny_pyIter_enum st.1.choose_spec h
section
variable {X : Cx} {K : PySem.W.Frag} {elts : List Expr} {kt : Nat} {pt : Pos}
def iEnumX (t : Bool) (K : PySem.W.Frag) (ta : TA) : TI := fun σ H R => ta σ H fun vs H1 => ∃ (l : Addr) (xs : List V), vs = [.ref l] ∧ SqX t K H1 l xs ∧ R (Itx t K l) H1
theorem pi_enumX (t : Bool) {a : Expr} {ta : TA} {p pos : Pos} (hg : Gl X "enumerate") (hm : X.mg "enumerate" = none) (ha : PA X [a] ta) (hK : X.K = K := by rfl) (hs : starEach [a] X.env = [(false, eval a X.env)] := by rfl) :
    PI X (.Tuple elts kt pt) (.Call (.Name "enumerate" p) [a] [] pos) (iEnumX t K ta) := by
  subst hK
  intro pins s σ H R I h
  refine Call_ (ld_blt I hg hm bt_enumerate (PyProof.Rows.callWith_type1 (thn (ha pos pins s σ H _ I h) fun us s1 ⟨vs, H1, I1, r1, q1⟩ => ?_) hs rfl))
  obtain ⟨l, xs, rfl, hS, q⟩ := q1
  obtain ⟨u, rfl, ru⟩ := vals1 r1
  cases ru
  obtain ⟨its, rv, pl, hz2⟩ := I1.sqx hS
  refine ZT.call_enum0 pl fun h' a1 a2 hkeep => wpAny_pyIter_enum a1 ?_
  have lt : s1.heap.objs.size ≠ s1.heap.objs.size + 1 := by omega
  refine ⟨s1.heap.objs.size + 1, [s1.heap.objs.size + 1, s1.heap.objs.size], _, _, H1, rfl, I1.kept (t' := s1.toks) hkeep, turn_enumX (t := t) (Ne.symm lt), ⟨⟨.none, a1⟩, a2⟩, fun b hb2 => ?_, q⟩
  have hle : s1.heap.objs.size ≤ b := by
    simp only [List.mem_cons, List.not_mem_nil, or_false] at hb2
    rcases hb2 with rfl | rfl <;> omega
  exact I1.fpOk hle (I1.hok.fresh hle)
end
theorem for_enumX {t : Bool} {K : PySem.W.Frag} {l : Addr} {xs : List V} {g : TG} {tb : TS} {D : Ends} {σ : St} {H : Hp} (Pv : Nat → St → Hp → Prop) (h0 : Pv 0 σ H) (hl : ∀ i σ H, i ≤ xs.length → Pv i σ H → SqX t K H l xs)
    (hs : ∀ i x σ H T, xs[i]? = some x → Pv i σ H → H T = none → g (.ref T) σ (upd H T (.tup [.int (i : Nat), x])) fun σ2 H2 => tb { D with nx := Pv (i + 1), ct := Pv (i + 1), bk := D.nx } σ2 H2) (hd : ∀ σ H, Pv xs.length σ H → D.nx σ H) :
    ∃ W : Nat → Nat → St → Hp → Prop, (∃ m, W 0 m σ H) ∧ ∀ i m σ H, W i m σ H →
      ((Itx t K l).stop i H ∧ D.nx σ H) ∨ ((Itx t K l).go i H ∧ ∃ N : St → Hp → Prop, (∀ σ' H', N σ' H' → ∃ m', m' < m ∧ W (i + 1) m' σ' H') ∧ ∀ x H', (Itx t K l).yld i H x H' → g x σ H' fun σ2 H2 => tb { D with nx := N, ct := N, bk := D.nx } σ2 H2) := by
  refine ⟨fun i m σ H => m = xs.length - i ∧ i ≤ xs.length ∧ Pv i σ H, ⟨_, rfl, Nat.zero_le _, h0⟩, ?_⟩
  rintro i m σ H ⟨rfl, hi, p⟩
  have hS := hl i σ H hi p
  by_cases hlt : i < xs.length
  · refine .inr ⟨⟨xs, xs[i], hS, List.getElem?_eq_getElem hlt⟩, Pv (i + 1), fun σ' H' p' => ⟨xs.length - (i + 1), by omega, rfl, hlt, p'⟩, fun x H' y => ?_⟩
    obtain ⟨T, x, hx, hT, rfl, rfl⟩ := y
    exact hs i x σ H T (hx xs hS) p hT
  · have e : i = xs.length := by omega
    subst e
    exact .inl ⟨⟨xs, hS, Nat.le_refl _⟩, hd σ H p⟩
theorem comp_enumX {t : Bool} {K : PySem.W.Frag} {l : Addr} {xs : List V} {caps : List Nat} {tt : TT} {te : TE} {σ : St} {H : Hp} {R : List V → Hp → Prop} (Pv : Nat → List V → Hp → Prop) (h0 : Pv 0 [] H)
    (hl : ∀ i zs H, i ≤ xs.length → Pv i zs H → SqX t K H l xs ∧ zs.length ≤ sizeLine)
    (hs : ∀ i x zs H T, xs[i]? = some x → Pv i zs H → H T = none → tt (capσ2 caps σ (some (.int (i : Nat))) (some x)) (upd H T (.tup [.int (i : Nat), x])) fun b H2 => if b = true then te (capσ2 caps σ (some (.int (i : Nat))) (some x)) H2 fun z H3 => Pv (i + 1) (zs ++ [z]) H3 else Pv (i + 1) zs H2)
    (hd : ∀ zs H, Pv xs.length zs H → R zs H) :
    ∃ W : Nat → Nat → List V → Hp → Prop, (∃ m, W 0 m [] H) ∧ ∀ i m zs H, W i m zs H → zs.length ≤ sizeLine ∧ (((Itx t K l).stop i H ∧ R zs H) ∨ ((Itx t K l).go i H ∧ ∃ N : List V → Hp → Prop, (∀ ys' H', N ys' H' → ∃ m', m' < m ∧ W (i + 1) m' ys' H') ∧ ∀ v H', (Itx t K l).yld i H v H' →
      ∃ a v1 v2, v = .ref a ∧ SqT K H' a [v1, v2] ∧ tt (capσ2 caps σ (some v1) (some v2)) H' fun b H2 => if b = true then te (capσ2 caps σ (some v1) (some v2)) H2 fun y H3 => N (zs ++ [y]) H3 else N zs H2)) := by
  refine ⟨fun i m zs H => m = xs.length - i ∧ i ≤ xs.length ∧ Pv i zs H, ⟨xs.length, by simp, Nat.zero_le _, h0⟩, ?_⟩
  rintro i m zs H ⟨rfl, hi, p⟩
  obtain ⟨q1, hz⟩ := hl i zs H hi p
  refine ⟨hz, ?_⟩
  by_cases hlt : i < xs.length
  · refine .inr ⟨⟨xs, xs[i], q1, by simp [hlt]⟩, Pv (i + 1), fun ys' H' p' => ⟨xs.length - (i + 1), by omega, rfl, hlt, p'⟩, fun v H' y => ?_⟩
    obtain ⟨T, x, y1, hT, rfl, rfl⟩ := y
    exact ⟨T, .int (i : Nat), x, rfl, SqT.of upd_same, hs i x zs H T (y1 xs q1) p hT⟩
  · have e : i = xs.length := by omega
    subst e
    exact .inl ⟨⟨xs, q1, Nat.le_refl _⟩, hd zs H p⟩
end L2
namespace L2
open PySem PySem.Spec PyProof.Rows
def Itd (hi : Int) (n : Nat) : It := ⟨fun i _ => i < n, fun i H x H' => H' = H ∧ x = .int (hi - i), fun i _ => n ≤ i⟩
theorem turn_ranged {P : Program} {w : World} {K : PySem.W.Frag} {tg : Expr} (it : Addr) (lo : Int) (n : Nat) : Turn P w K tg (Itd lo n) [it] it (fun i h => IsRangeIter h it (lo + (i : Nat) * (-1)) ((n : Int) - (i : Nat)) (-1)) where
  mem := by simp
  obj := fun i h st b hb => by
    have e : b = it := by simpa using hb
    subst e
    exact ⟨_, st, fun v z => by
      have z' : Data.fields _ = Data.cell v := z
      cases z'⟩
  keep := fun i h h' st k => k it (by simp) _ st
  item := by
    intro X hP hw hK hc i pins s σ H E I hf st hg
    subst hP hw hK
    obtain ⟨f0, f1, f2, f3, f4, f5⟩ := hf it (by simp)
    have W := Walks.range (prog := X.prog) (w := X.w) (I.ok.hd hc) it lo (-1) n
    refine W.item i s _ _ hg st fun v h' tk hv st' kk => ?_
    obtain ⟨t, rfl⟩ := hv
    have I1 : Inv X pins σ H { s with heap := h', toks := tk } := I.turned (fun b o hb e => kk b o (by simpa using hb) e) f0 f1 f3 f4 f5
    refine ⟨_, rfl, go_of (s := { s with heap := h', toks := tk }) (n := "range_iterator") st' rfl rfl (by decide) ⟨.int (lo - i), H, I1, ⟨t, ?_⟩, ⟨rfl, rfl⟩, st', fun b hb => (hf b hb).1⟩⟩
    rw [show lo - (i : Int) = lo + (i : Int) * (-1) by omega]
  done := by
    intro X hP hw hK hc i pins s σ H E I hf st hg
    subst hP hw hK
    obtain ⟨f0, f1, f2, f3, f4, f5⟩ := hf it (by simp)
    exact wpAny_pyNext_range_end (I.ok.hd hc) st (by have : n ≤ i := hg; omega) fun h' eb => ⟨rfl, I.turned (t' := s.toks) (fun b o hb e => eb b o hb e) f0 f1 f3 f4 f5⟩
  self := fun _ _ _ _ _ st h => wpAny_pyIter_rangeiter st h
section
variable {X : Cx} {tg : Expr}
theorem rangeSize_down (a b : Int) : Builtin.Range.rangeSize a b (-1) = if b < a then a - b else 0 := by
  unfold Builtin.Range.rangeSize
  simp only [show ¬ ((-1 : Int) > 0) by decide, if_false, show (-(-1) : Int) = 1 by decide, Int.ediv_one]
  split <;> omega
theorem small_down {a b : Int} (ha : -(2 ^ 62) ≤ a) (ha' : a < 2 ^ 62) (hb : -(2 ^ 62) ≤ b) (hb' : b < 2 ^ 62) : Builtin.Range.small a b (-1) = true := by
  unfold Builtin.Range.small
  rw [rangeSize_down]
  simp only [Builtin.Range.rangeFitsLong, Bool.and_eq_true, Bool.or_eq_true, decide_eq_true_eq, beq_iff_eq, show ¬ ((-1 : Int) > 0) by decide, if_false]
  split <;> omega
theorem range_itd {pins : List (Addr × Obj)} {σ : St} {H : Hp} {s : Shared} {R : It → Hp → Prop} {E : Value → Shared → Prop} {lo hi : Int} {t u v : Tok} {tk : Nat} (I : Inv X pins σ H s) (h1 : -(2 ^ 62) ≤ lo) (h2 : lo < 2 ^ 62) (h3 : -(2 ^ 62) ≤ hi) (h4 : hi < 2 ^ 62)
    (q : R (Itd lo (lo - hi).toNat) H) : wpAny (model X.prog X.w) X.A (pyIter (.ref s.heap.objs.size)) (PIE X pins σ tg R) E { s with heap := s.heap.push { cls := .type "range", data := .fields #[.int lo t, .int hi u, .int (-1) v] }, toks := tk } := by
  refine wpAny_pyIter_range (IsRange.new ..) (small_down h1 h2 h3 h4) ?_
  have I1 : Inv X pins σ H { s with heap := s.heap.push { cls := .type "range", data := .fields #[.int lo t, .int hi u, .int (-1) v] }, toks := tk } := I.kept fun b o e => Heap.get?_push_of_some _ e
  refine ⟨(s.heap.push { cls := .type "range", data := .fields #[.int lo t, .int hi u, .int (-1) v] }).objs.size, [(s.heap.push { cls := .type "range", data := .fields #[.int lo t, .int hi u, .int (-1) v] }).objs.size], _, _, H, rfl,
    I1.kept (t' := tk) fun b o e => Heap.get?_push_of_some _ e, turn_ranged _ lo (lo - hi).toNat, ?_, fun b hb => ?_, q⟩
  · have e1 : lo + ((0 : Nat) : Int) * (-1) = lo := by simp
    have e2 : (((lo - hi).toNat : Nat) : Int) - ((0 : Nat) : Int) = Builtin.Range.rangeSize lo hi (-1) := by rw [rangeSize_down]; split <;> omega
    show IsRangeIter _ _ (lo + ((0 : Nat) : Int) * (-1)) ((((lo - hi).toNat : Nat) : Int) - ((0 : Nat) : Int)) (-1)
    rw [e1, e2]
    exact Heap.get?_push_size _ rfl
  · have e : b = (s.heap.push { cls := .type "range", data := .fields #[.int lo t, .int hi u, .int (-1) v] }).objs.size := by simpa using hb
    subst e
    exact I1.fpOk (Nat.le_refl _) (I1.hok.fresh (Nat.le_refl _))
def iRng3 (ta : TA) : TI := fun σ H R => ta σ H fun vs H1 => ∃ i j : Int, vs = [.int i, .int j, .int (-1)] ∧ (-(2 ^ 62) ≤ i ∧ i < 2 ^ 62 ∧ -(2 ^ 62) ≤ j ∧ j < 2 ^ 62) ∧ R (Itd i (i - j).toNat) H1
theorem pi_range3 {a b c : Expr} {ta : TA} {p pos : Pos} (hg : Gl X "range") (hm : X.mg "range" = none) (ha : PA X [a, b, c] ta) (hs : starEach [a, b, c] X.env = [(false, eval a X.env), (false, eval b X.env), (false, eval c X.env)] := by rfl) (hs2 : starEach [b, c] X.env = [(false, eval b X.env), (false, eval c X.env)] := by rfl) :
    PI X tg (.Call (.Name "range" p) [a, b, c] [] pos) (iRng3 ta) := by
  intro pins s σ H R I h
  refine Call_ (ld_blt I hg hm boot_range (PyProof.Rows.callWith_type1 (thn (ha pos pins s σ H _ I h) fun us s1 ⟨vs, H1, I1, r1, q1⟩ => ?_) (by rw [hs, hs2]) (by rw [hs2]; rfl)))
  obtain ⟨i, j, e, ⟨q1, q2, q3, q4⟩, q⟩ := q1
  subst e
  cases r1 with
  | cons r rr =>
    cases rr with
    | cons r' rr =>
      cases rr with
      | cons r'' rr =>
        cases rr
        obtain ⟨t, rfl⟩ := r
        obtain ⟨t', rfl⟩ := r'
        obtain ⟨t'', rfl⟩ := r''
        exact call_range_3 (by decide) (range_itd I1 q1 q2 q3 q4 q) (Or.inl (PyProof.noPylong_small (by decide)))
theorem for_down {hi : Int} {n : Nat} {g : TG} {tb : TS} {D : Ends} {σ : St} {H : Hp} (Pv : Nat → St → Hp → Prop) (h0 : Pv 0 σ H)
    (hs : ∀ i σ H, i < n → Pv i σ H → g (.int (hi - i)) σ H fun σ2 H2 => tb { D with nx := Pv (i + 1), ct := Pv (i + 1), bk := D.nx } σ2 H2) (hd : ∀ σ H, Pv n σ H → D.nx σ H) :
    ∃ W : Nat → Nat → St → Hp → Prop, (∃ m, W 0 m σ H) ∧ ∀ i m σ H, W i m σ H →
      ((Itd hi n).stop i H ∧ D.nx σ H) ∨ ((Itd hi n).go i H ∧ ∃ N : St → Hp → Prop, (∀ σ' H', N σ' H' → ∃ m', m' < m ∧ W (i + 1) m' σ' H') ∧ ∀ x H', (Itd hi n).yld i H x H' → g x σ H' fun σ2 H2 => tb { D with nx := N, ct := N, bk := D.nx } σ2 H2) := by
  refine ⟨fun i m σ H => m = n - i ∧ i ≤ n ∧ Pv i σ H, ⟨n, by simp, Nat.zero_le _, h0⟩, ?_⟩
  rintro i m σ H ⟨rfl, hi, p⟩
  by_cases h : i < n
  · refine .inr ⟨h, Pv (i + 1), fun σ' H' q => ⟨n - (i + 1), by omega, rfl, h, q⟩, ?_⟩
    rintro x H' ⟨rfl, rfl⟩
    exact hs i σ _ h p
  · have e : i = n := by omega
    subst e
    exact .inl ⟨Nat.le_refl _, hd σ H p⟩
end
end L2
namespace PySem
open PyProof.Rows L2
namespace F
end F
section
variable {prog : Program} {w : World} {A : Around} {E : Value → Shared → Prop} {s : Shared}
end
end PySem
namespace L2
open PySem PySem.Spec PyProof.Rows
section
variable {X : Cx} {tg : Expr}
end
end L2
namespace PySem
open PyProof.Rows
namespace F
theorem list_no_keys : typeLookup (.type "list") (Str.ofString "keys") = pure none := by rw [typeLookup_type, builtinLookup_eq_fast]; kernel_rfl
theorem list_no_getattr : typeLookup (.type "list") (Str.ofString "__getattr__") = pure none := by rw [typeLookup_type, builtinLookup_eq_fast]; kernel_rfl
theorem sub_attrErr : isSubtype (.type "AttributeError") (.type "AttributeError") = pure true := by rw [isSubtype_type]; kernel_rfl
end F
section
variable {prog : Program} {w : World} {A : Around} {E : Value → Shared → Prop} {s : Shared}
theorem keys_miss {l : Addr} {xs : Array Value} {k : Nat} {sl : Array (Option Value)} {Q : Option Value → Shared → Prop} (hh : A.handled = none) (hl : s.heap.get? l = some { cls := .type "list", data := .seq xs k, slots := sl })
    (q : ∀ h' tk, (∀ b o, s.heap.get? b = some o → h'.get? b = some o) → Q none { s with heap := h', toks := tk }) :
    wpAny (model prog w) A (getAttr? (.ref l) (Str.ofString "keys")) Q E s := by
  have ty : s.TypeIs (.ref l) "list" := ⟨_, hl, rfl⟩
  have hlk := list_getattribute
  have hbd := F.slot_list_getattribute.bind (.ref l)
  unfold getAttr?
  refine wpAny_bind (m := mkText (Str.ofString "keys")) ?_
  unfold mkText
  repeat (any_goals (first | assumption | wp_step))
  refine codeAny_mono (codeAny_call_builtin (R := wants (fun _ _ => False) (fun e s' => ∃ h' tk a, s.heap.NewAttrErr h' a (.ref l) (Str.ofString "keys") ∧ e = .ref a ∧ s' = { s with heap := h', toks := tk })) F.slot_list_getattribute.plain am_entry_list_getattribute (F.slot_list_getattribute.check _ _ _ _ _ _ _ _ (show Shared.TypeIs { s with toks := s.toks + 1 } (.ref l) "list" from ⟨_, hl, rfl⟩) (F.args_list_getattribute_2 _ _)
    (meets_getattribute_miss_list l xs k sl (Str.ofString "keys") s.toks F.list_no_keys (by decide +kernel) (by decide +kernel) prog w A _ { s with toks := s.toks + 1 } ⟨hl, hh, fun h' tk e hn => ⟨h', tk, e, hn, rfl, rfl⟩⟩))) fun r s' hr => ?_
  rcases r with e | fl
  · obtain ⟨h', tk, a, hn, rfl, rfl⟩ := hr
    obtain ⟨t, u, ha⟩ := hn.there
    have hT : Shared.TypeIs { s with heap := h', toks := tk } (.ref a) "AttributeError" := ⟨_, ha, rfl⟩
    have hsub := F.sub_attrErr
    have hng := F.list_no_getattr
    have fin := q h' tk hn.keeps
    dsimp only
    repeat (any_goals (first | assumption | wp_step))
  cases fl <;> exact hr.elim
theorem pair_items {p : Addr} {key v : Value} {Q : List Value → Shared → Prop} (hp : s.heap.IsTuple p #[key, v])
    (q : Q [key, v] s) : wpAny (model prog w) A (Builtin.Dict.pairItems (.ref p)) Q E s := by
  obtain ⟨o, ho, hc, n, hd⟩ := id hp
  have ty : s.TypeIs (.ref p) "tuple" := ⟨_, ho, hc⟩
  unfold Builtin.Dict.pairItems
  refine wpAny_bind (wpAny_typeOf ty ?_)
  rw [if_pos (by decide)]
  refine wpAny_bind (wpAny_seqItems ho hd (wpAny_pure q))
end
end PySem
namespace PySem
open PyProof.Rows
namespace F
theorem entry_dict_update_loop : entryFor table "dict.update.loop" = some Builtin.«dict.update.loop» := by kernel_rfl
theorem plain_dict_update_loop : plainId "dict.update.loop" = true := by decide +kernel
end F
section
variable {prog : Program} {w : World} {A : Around} {E : Value → Shared → Prop} {s : Shared}
def PairsAt {K : Type} [DecidableEq K] (knd : KeyKind prog w K) (h : Heap) : List Value → List (K × Value) → Prop
  | [], ps => ps = []
  | x :: xs, ps => ∃ p k key v r, x = .ref p ∧ h.IsTuple p #[key, v] ∧ knd.is k key = true ∧ ps = (k, v) :: r ∧ PairsAt knd h xs r
theorem PairsAt.at {K : Type} [DecidableEq K] {knd : KeyKind prog w K} {h h' : Heap} (e : ∀ p o, h.get? p = some o → o.cls = .type "tuple" → h'.get? p = some o) : ∀ {xs : List Value} {ps : List (K × Value)}, PairsAt knd h xs ps → PairsAt knd h' xs ps
  | [], _, q => q
  | x :: xs, _, ⟨p, k, key, v, r, h1, ⟨o, ho, hc, h2⟩, h3, h4, h5⟩ => ⟨p, k, key, v, r, h1, ⟨o, e p o ho hc, hc, h2⟩, h3, h4, PairsAt.at e h5⟩
theorem upd_loop {K : Type} [DecidableEq K] {knd : KeyKind prog w K} {R : Result → Shared → Prop} (hh : A.handled = none) {d it l : Addr} {its : Array Value} (n1 : d ≠ it) (n2 : d ≠ l) (n3 : it ≠ l) :
    ∀ (xs : List Value) (ps : List (K × Value)) (i : Nat) (s : Shared) (kvs : List (K × Value)), its.toList.drop i = xs → s.heap.IsListIter it l i → s.heap.IsList l its → s.heap.DictOf knd d kvs → PairsAt knd s.heap xs ps → kvs.length + xs.length ≤ sizeLine →
      (∀ h' tk, h'.DictOf knd d (merged kvs ps) → (∀ b o, b ≠ d → b ≠ it → s.heap.get? b = some o → h'.get? b = some o) → R (.ok (.ret .none)) { s with heap := h', toks := tk }) →
      codeAny (model prog w) A (.builtin "dict.update.loop" ⟨[.ref d, .ref it, rawInt i, .none], []⟩) R s
  | [], ps, i, s, kvs, hx, hI, hL, hD, hP, hz, q => by
    have hP' : ps = [] := hP
    subst hP'
    have hn : its[i]? = none := by
      rw [Array.getElem?_eq_none_iff]
      have := congrArg List.length hx
      rw [List.length_drop, List.length_nil] at this
      simpa using Nat.le_of_sub_eq_zero this
    refine codeAny_builtin F.entry_dict_update_loop ?_
    rw [Around.under_plainId F.plain_dict_update_loop]
    unfold Builtin.«dict.update.loop»
    refine wpAny_bind (wpAny_pyNext_list_end (A := A.in1) hh hI hL hn fun h' he => ?_)
    have fin := q h' s.toks (by
      obtain ⟨o, es, ep, ho, r⟩ := hD
      exact ⟨o, es, ep, he d o n1 ho, r⟩) (fun b o hb hb2 e => he b o hb2 e)
    repeat (any_goals (first | assumption | wp_step))
  | x :: xs, ps, i, s, kvs, hx, hI, hL, hD, hP, hz, q => by
    obtain ⟨p, k, key, v, r, rfl, hp, hk, rfl, hr⟩ := hP
    have hi : its[i]? = some (.ref p) := by
      have : (its.toList.drop i)[0]? = some (.ref p) := by rw [hx]; rfl
      rw [List.getElem?_drop] at this
      simpa using this
    have hx2 : its.toList.drop (i + 1) = xs := by
      rw [← List.drop_drop, hx]; rfl
    refine codeAny_builtin F.entry_dict_update_loop ?_
    rw [Around.under_plainId F.plain_dict_update_loop]
    unfold Builtin.«dict.update.loop»
    refine wpAny_bind (wpAny_pyNext_list_item (A := A.in1) hI hL hi fun h1 hI1 hs1 => ?_)
    have hD1 : h1.DictOf knd d kvs := by
      obtain ⟨o, es, ep, ho, r⟩ := hD
      exact ⟨o, es, ep, (hs1.2 d n1).trans ho, r⟩
    have pit : ∀ p o, s.heap.get? p = some o → o.cls = .type "tuple" → p ≠ it := fun p o ho hc e => by
      subst e
      obtain ⟨o2, e2, c2, _⟩ := hI
      rw [ho] at e2; cases e2; rw [hc] at c2; exact absurd c2 (by decide)
    have hp1 : h1.IsTuple p #[key, v] := by
      obtain ⟨o, ho, hc, r⟩ := hp
      exact ⟨o, (hs1.2 p (pit p o ho hc)).trans ho, hc, r⟩
    refine wpAny_bind (wpAny_holding (wpAny_bind (wpAny_tryCatch (pair_items (s := { s with heap := h1 }) hp1 ?_))))
    refine wpAny_holding (wpAny_dictSet_pairs hk hD1 (fun h2 hD2 hs2 => ?_) (by omega))
    refine wpAny_pure ⟨plainId_quiet F.plain_dict_update_loop _, ?_⟩
    have pd : ∀ p o, h1.get? p = some o → o.cls = .type "tuple" → p ≠ d := fun p o ho hc e => by
      subst e
      obtain ⟨o2, es, ep, e2, c2, _⟩ := hD1
      rw [ho] at e2; cases e2; have c3 := c2.1; rw [hc] at c3; exact absurd c3 (by decide)
    have hlen : (stored kvs k v).length ≤ kvs.length + 1 := by
      unfold stored
      split
      · rw [List.length_map]; omega
      · rw [List.length_append]; exact Nat.le_refl _
    refine upd_loop hh n1 n2 n3 xs r (i + 1) _ (stored kvs k v) hx2 ?_ ?_ hD2 ?_ ?_ fun h' tk hd' hk' => ?_
    · exact hI1.extBut hs2.extBut (Ne.symm n1)
    · obtain ⟨o, ho, r⟩ := hL
      exact ⟨o, (hs2.2 l (Ne.symm n2)).trans ((hs1.2 l (Ne.symm n3)).trans ho), r⟩
    · exact hr.at fun p o ho hc => by
        have h1' := (hs1.2 p (pit p o ho hc)).trans ho
        exact (hs2.2 p (pd p o h1' hc)).trans h1'
    · rw [List.length_cons] at hz; omega
    · exact q h' tk hd' fun b o hb hb2 e => hk' b o hb hb2 ((hs2.2 b hb).trans ((hs1.2 b hb2).trans e))
end
end PySem
namespace PySem
section
variable {prog : Program} {w : World} {A : Around} {E : Value → Shared → Prop} {s : Shared}
theorem call_dict_pairs {K : Type} [DecidableEq K] {knd : KeyKind prog w K} {Q : Value → Shared → Prop} (hh : A.handled = none) {l : Addr} {its : Array Value} {n : Nat} {sl : Array (Option Value)} {ps : List (K × Value)}
    (hl : s.heap.get? l = some { cls := .type "list", data := .seq its n, slots := sl }) (hP : PairsAt knd s.heap its.toList ps) (hz : its.size ≤ sizeLine)
    (hQ : ∀ h' tk, h'.DictOf knd s.heap.objs.size (merged [] ps) → (∀ b o, s.heap.get? b = some o → h'.get? b = some o) → Q (.ref s.heap.objs.size) { s with heap := h', toks := tk }) :
    wpAny (model prog w) A (call (.type "dict") [.ref l]) Q E s := by
  have ltl : l < s.heap.objs.size := Heap.lt_size hl
  refine callType_codes (Q₁ := fun obj s₁ => obj = .ref s.heap.objs.size ∧ s₁ = { s with heap := s.heap.push { cls := .type "dict", data := .dict #[] } }) F.kt_called_dict (F.kt_typeCall_dict_1 _) F.entry_dict_init
    (kt_code_dict_new _ ⟨rfl, rfl⟩) fun obj s₁ h₁ => ?_
  obtain ⟨rfl, rfl⟩ := h₁
  have hS : (s.heap.push { cls := .type "dict", data := .dict #[] }).get? s.heap.objs.size = some { cls := .type "dict", data := .dict #[] } := Heap.get?_push_size _ rfl
  have tyd : Shared.TypeIs { s with heap := s.heap.push { cls := .type "dict", data := .dict #[] } } (.ref s.heap.objs.size) "dict" := ⟨_, hS, rfl⟩
  have hl1 : (s.heap.push { cls := .type "dict", data := .dict #[] }).get? l = some { cls := .type "list", data := .seq its n, slots := sl } := Heap.get?_push_of_some _ hl
  have tyl : Shared.TypeIs { s with heap := s.heap.push { cls := .type "dict", data := .dict #[] } } (.ref l) "list" := ⟨_, hl1, rfl⟩
  refine ⟨tyd, F.args_dict_init_2 _ _, ?_⟩
  unfold Builtin.«dict.__init__»
  unfold Builtin.Dict.selfAndRest Builtin.Dict.notOrdered
  refine wpAny_bind (wpAny_bind ?_)
  rw [if_pos (by decide)]
  refine wpAny_bind (wpAny_typeOf tyd ?_)
  rw [if_neg (by decide)]
  refine wpAny_pure (wpAny_bind (wpAny_pure (wpAny_pure ?_)))
  show wpAny _ _ (Builtin.Dict.updateFrom "dict.__init__" s.heap.objs.size (.ref l) [] .none) _ _ _
  unfold Builtin.Dict.updateFrom
  refine wpAny_bind (wpAny_typeOf tyl ?_)
  rw [if_pos (by decide)]
  refine wpAny_bind (keys_miss (A := A.in1.in1) hh hl1 fun h2 tk hk2 => ?_)
  rw [if_pos (show (none : Option Value).isNone = true from rfl)]
  refine wpAny_bind (wpAny_rule ?_)
  have hL2 : h2.IsList l its := ⟨_, hk2 _ _ hl1, rfl, n, rfl⟩
  refine wpAny_bind (wpAny_pyIter_list (s := { s with heap := h2, toks := tk }) hL2 ?_)
  refine wpAny_pure ⟨plainId_quiet F.plain_dict_update_loop _, ?_⟩
  have hd2 := hk2 _ _ hS
  have ltd : s.heap.objs.size < h2.objs.size := Heap.lt_size hd2
  have ltl2 : l < h2.objs.size := Heap.lt_size (hk2 _ _ hl1)
  have kp : ∀ b o, h2.get? b = some o → (h2.push { cls := .type "list_iterator", data := .fields #[.ref l, .int 0 0] }).get? b = some o := fun b o e => Heap.get?_push_of_some _ e
  refine upd_loop (knd := knd) (its := its) (A := A.in1) hh (Nat.ne_of_lt ltd) (Nat.ne_of_gt ltl) (Nat.ne_of_gt ltl2) its.toList ps 0 _ [] rfl ⟨_, Heap.get?_push_size _ rfl, rfl, rfl⟩ (hL2.at fun o e => kp _ _ e) ?_ ?_ (by simpa using hz) fun h' tk' hd' hk' => ⟨rfl, hQ h' tk' hd' fun b o e => hk' b o (Nat.ne_of_lt (Heap.lt_size e)) (Nat.ne_of_lt (Nat.lt_trans (Heap.lt_size e) ltd)) (kp _ _ (hk2 _ _ (Heap.get?_push_of_some _ e)))⟩
  · obtain ⟨o, es, ep, ho, r⟩ := Heap.DictOf.new (knd := knd) s.heap
    exact ⟨o, es, ep, kp _ _ (hk2 _ _ ho), r⟩
  · exact hP.at fun p o ho _ => kp _ _ (hk2 _ _ (Heap.get?_push_of_some _ ho))
end
end PySem
namespace L2
open PySem PySem.Spec PyProof.Rows
def PrV (H : Hp) : List V → List (Key × V) → Prop
  | [], ps => ps = []
  | x :: xs, ps => ∃ p k v r, x = .ref p ∧ H p = some (.tup [kV k, v]) ∧ ps = (k, v) :: r ∧ PrV H xs r
theorem PrV.len {H : Hp} : ∀ {xs : List V} {ps : List (Key × V)}, PrV H xs ps → ps.length = xs.length
  | [], ps, h => by rw [show ps = [] from h]; rfl
  | x :: xs, ps, ⟨p, k, v, r, _, _, e, h⟩ => by rw [e, List.length_cons, List.length_cons, PrV.len h]
section
variable {X : Cx} {K : PySem.W.Frag} {pins : List (Addr × Obj)} {σ : St} {H : Hp} {s : Shared}
theorem PrV.real (I : Inv X pins σ H s) : ∀ {xs : List V} {us : List Value} {ps : List (Key × V)}, Vals xs us → PrV H xs ps → ∃ rs : List (Key × Value), PairsAt (mixKind X.prog X.w) s.heap us rs ∧ KV ps rs
  | [], _, ps, .nil, h => by rw [show ps = [] from h]; exact ⟨[], rfl, .nil⟩
  | x :: xs, _, ps, .cons rx rr, ⟨p, k, v, r, e, hp, e2, h⟩ => by
    subst e; subst e2
    cases rx
    obtain ⟨rs, h1, h2⟩ := PrV.real I rr h
    obtain ⟨its, rv, pl, hz⟩ := I.tuple (SqT.of hp)
    cases rv with
    | cons r1 rv =>
      cases rv with
      | cons r2 rv =>
        cases rv
        exact ⟨(k, _) :: rs, ⟨p, k, _, _, rs, rfl, pl, kV_is r1, rfl, h1⟩, .cons ⟨rfl, r2⟩ h2⟩
theorem k_dictP (hc : X.calm = true) (hK : X.K = K := by rfl) : CallR X (.type "dict") (fun xs H Q => ∃ l ys ps, xs = [.ref l] ∧ SqL K H l ys ∧ PrV H ys ps ∧ ∀ d, H d = none → Q (.ref d) (upd H d (.dK (mergeK [] ps)))) := by
  subst hK
  intro pins s σ H xs us Q I r h
  obtain ⟨l, ys, ps, rfl, hS, hP, q⟩ := h
  obtain ⟨u, rfl, ru⟩ := vals1 r
  cases ru
  obtain ⟨its, rv, ⟨⟨c, dc, dt, sl⟩, n, hl, c1, c2, c3⟩, hz⟩ := I.list hS
  replace c1 : c = .type "list" := c1
  replace c2 : dc = none := c2
  replace c3 : dt = .seq its.toArray n := c3
  subst c1 c2 c3
  obtain ⟨rs, hA, hkv⟩ := hP.real I rv
  have hlen := rv.length
  refine call_dict_pairs (knd := mixKind X.prog X.w) (I.ok.hd hc) hl (by simpa using hA) (by rw [List.size_toArray, ← hlen]; exact hz) fun h' tk hd' kp => ?_
  have hzz : (mergeK [] ps).length ≤ sizeLine := by
    have h1 := length_mergeK ps []
    have h2 := hP.len
    rw [List.length_nil] at h1
    omega
  have hb : (s.heap.objs.size == sysModules) = false := beq_eq_false_iff_ne.mpr (Ne.symm (Nat.ne_of_lt I.big))
  exact ⟨.ref s.heap.objs.size, _, I.laid (t' := tk) kp (Nat.le_refl _) (dk_new hzz hb (hkv.merge .nil) hd'), rfl, q _ (I.hok.fresh (Nat.le_refl _))⟩
end
end L2
namespace L2
open PySem PySem.Spec PyProof.Rows
section
variable {X : Cx} {K : PySem.W.Frag}
end
end L2
namespace L2
open PySem PySem.Spec PyProof.Rows
def eqVs (xs ys : List V) : Bool := (List.range (min xs.length ys.length)).all (fun j => eqV ((xs[j]?).getD .non) ((ys[j]?).getD .non)) && xs.length == ys.length
section
variable {X : Cx} {K : PySem.W.Frag} {pins : List (Addr × Obj)} {σ : St} {H : Hp} {s : Shared}
theorem flat_at {A : Around} {xs ys : List V} {us vs : List Value} (r : Vals xs us) (r2 : Vals ys vs) (fx : xs.all flatV = true) (fy : ys.all flatV = true) (j : Nat) (h1 : j < us.toArray.size) (h2 : j < vs.toArray.size) :
    SeqAt.EqAt A s us.toArray[j] vs.toArray[j] (eqV ((xs[j]?).getD .non) ((ys[j]?).getD .non)) := by
  obtain ⟨x, hx, rx⟩ := vals_at2 r h1
  obtain ⟨y, hy, ry⟩ := vals_at2 r2 h2
  rw [hx, hy]
  exact eqAt_V rx ry (List.all_eq_true.mp fx x (List.mem_of_getElem? hx)) (List.all_eq_true.mp fy y (List.mem_of_getElem? hy))
def rEqF (K : PySem.W.Frag) (neg : Bool) : R2 := fun x y H Q => ∃ a b xs ys, x = .ref a ∧ y = .ref b ∧ SqT K H a xs ∧ SqT K H b ys ∧ xs.all flatV = true ∧ ys.all flatV = true ∧ Q (.bl (if neg then !eqVs xs ys else eqVs xs ys)) H
theorem op_eqF (hu : X.A.units < cLine) : OpR X (compareOp .Eq) (rEqF X.K false) := by
  intro pins s σ H x y v u Q I rx ry h
  obtain ⟨a, b, xs, ys, rfl, rfl, ha, hb, fx, fy, q⟩ := h
  cases rx; cases ry
  obtain ⟨its, r, pl, _⟩ := I.tuple ha
  obtain ⟨its2, r2, pl2, _⟩ := I.tuple hb
  have l1 := r.length
  have l2 := r2.length
  refine SeqAt.RcAt.tuples (e := fun j => eqV ((xs[j]?).getD .non) ((ys[j]?).getD .non)) pl pl2 hu (fun j h1 h2 => flat_at r r2 fx fy j h1 h2) X.prog X.w X.xe _ ⟨.bl (eqVs xs ys), H, I, ?_, q⟩
  show Value.bool _ = Value.bool _
  unfold eqVs
  simp only [List.size_toArray, l1, l2]
theorem op_neF (hu : X.A.units < cLine) : OpR X (compareOp .NotEq) (rEqF X.K true) := by
  intro pins s σ H x y v u Q I rx ry h
  obtain ⟨a, b, xs, ys, rfl, rfl, ha, hb, fx, fy, q⟩ := h
  cases rx; cases ry
  obtain ⟨its, r, pl, _⟩ := I.tuple ha
  obtain ⟨its2, r2, pl2, _⟩ := I.tuple hb
  have l1 := r.length
  have l2 := r2.length
  refine SeqAt.RcNeAt.tuples (e := fun j => eqV ((xs[j]?).getD .non) ((ys[j]?).getD .non)) pl pl2 hu (fun j h1 h2 => flat_at r r2 fx fy j h1 h2) X.prog X.w X.xe _ ⟨.bl (!eqVs xs ys), H, I, ?_, q⟩
  show Value.bool _ = Value.bool _
  unfold eqVs
  simp only [List.size_toArray, l1, l2]
theorem kEqF (hu : X.A.units < cLine) (hK : X.K = K := by rfl) : OpR X (compareOp .Eq) (rEqF K false) := by subst hK; exact op_eqF hu
theorem kNeF (hu : X.A.units < cLine) (hK : X.K = K := by rfl) : OpR X (compareOp .NotEq) (rEqF K true) := by subst hK; exact op_neF hu
def rNeLD (K : PySem.W.Frag) : R2 := fun x y H Q => ∃ a b xs ys n, x = .ref a ∧ y = .ref b ∧ SqL K H a xs ∧ SqL K H b ys ∧ xs.length = ys.length ∧ n ≤ 50 ∧ (∀ (j : Nat) u v, xs[j]? = some u → ys[j]? = some v → Dq K H n u v) ∧ Q (.bl false) H
theorem op_neLD (hu : X.A.units + 64 < cLine) : OpR X (compareOp .NotEq) (rNeLD X.K) := by
  intro pins s σ H x y v u Q I rx ry h
  obtain ⟨a, b, xs, ys, n, rfl, rfl, ha, hb, hl, hn, hd, q⟩ := h
  cases rx; cases ry
  obtain ⟨its, r, pl, _⟩ := I.list ha
  obtain ⟨its2, r2, pl2, _⟩ := I.list hb
  have hl2 : its.length = its2.length := by rw [← r.length, ← r2.length]; exact hl
  have h2 : X.A.in1.units + n < cLine := by
    show X.A.units + 1 + n < cLine
    exact Nat.lt_of_le_of_lt (by omega) hu
  refine SeqAt.RcNeAt.lists (e := fun _ => true) pl.isList pl2.isList (by simpa using hl2) (Nat.lt_of_le_of_lt (Nat.le_add_right _ _) hu) (fun j h1 h2' => ?_) X.prog X.w X.xe _ ⟨.bl false, H, I, ?_, q⟩
  · obtain ⟨x, hx, rx⟩ := vals_at2 r h1
    obtain ⟨y, hy, ry⟩ := vals_at2 r2 h2'
    exact eqAt_dq I n X.A.in1 x y _ _ h2 (hd j x y hx hy) rx ry
  · have : ((List.range its.toArray.size).all fun _ => true) = true := by simp
    rw [this]; rfl
theorem kNeLD (hu : X.A.units + 64 < cLine) (hK : X.K = K := by rfl) : OpR X (compareOp .NotEq) (rNeLD K) := by subst hK; exact op_neLD hu
end
end L2
namespace L2
open PySem PySem.Spec PyProof.Rows
theorem vals_range : ∀ (n : Nat) (its : List Value), its.length = n → (∀ (j : Nat) (v : Value), its[j]? = some v → ∃ t, v = .int (j : Nat) t) → Vals ((List.range n).map fun (i : Nat) => V.int (i : Nat)) its := by
  intro n
  induction n with
  | zero => intro its h _; rw [List.length_eq_zero_iff.mp h]; exact .nil
  | succ n ih =>
    intro its h q
    have hlt : n < its.length := by omega
    have e : its = its.take n ++ [its[n]] := by
      rw [List.take_append_getElem hlt]
      exact (List.take_of_length_le (by omega)).symm
    rw [e, List.range_succ, List.map_append]
    refine Vals.append (ih _ (by rw [List.length_take]; omega) fun j v hv => ?_) ?_
    · rw [List.getElem?_take] at hv
      split at hv
      · exact q j v hv
      · cases hv
    · obtain ⟨t, ht⟩ := q n its[n] (List.getElem?_eq_getElem hlt)
      rw [ht]
      exact .cons ⟨t, rfl⟩ .nil
section
variable {X : Cx}
def tListRng (ta : TA) : TE := fun σ H Q => ta σ H fun vs H1 => ∃ n : Nat, vs = [.int (n : Nat)] ∧ n ≤ 1000000 ∧ ∀ r, H1 r = none → Q (.ref r) (upd H1 r (.lst ((List.range n).map fun (i : Nat) => V.int (i : Nat))))
theorem pe_listRng {a : Expr} {ta : TA} {p p' pos pos' : Pos} (hg : Gl X "range") (hm : X.mg "range" = none) (hg' : Gl X "list") (hm' : X.mg "list" = none) (hc : X.calm = true) (ha : PA X [a] ta) (hs : starEach [a] X.env = [(false, eval a X.env)] := by rfl)
    (hs' : starEach [.Call (.Name "range" p) [a] [] pos] X.env = [(false, eval (.Call (.Name "range" p) [a] [] pos) X.env)] := by rfl) :
    PE X (.Call (.Name "list" p') [.Call (.Name "range" p) [a] [] pos] [] pos') (tListRng ta) := by
  intro pins s σ H Q I h
  refine wpAny_Call_Name_kw (ld_blt I hg' hm' bt_list ?_)
  refine PyProof.Rows.callWith_type1 ?_ hs' rfl
  rw [hs']
  refine Calls.spliced_cons (Call_ (ld_blt I hg hm boot_range (PyProof.Rows.callWith_type1 (thn (ha pos pins s σ H _ I h) fun us s1 ⟨vs, H1, I1, r1, q1⟩ => ?_) hs rfl)))
  obtain ⟨n, e, hn, q⟩ := q1
  subst e
  cases r1 with
  | cons r rr =>
    cases rr
    obtain ⟨t, rfl⟩ := r
    refine call_range_1 (Calls.spliced_nil ?_)
    have I2 : Inv X pins σ H1 { s1 with heap := s1.heap.push { cls := .type "range", data := .fields #[.int 0 s1.toks, .int (n : Nat) t, .int 1 (s1.toks + 1)] }, toks := s1.toks + 1 + 1 } := I1.kept fun b o e => Heap.get?_push_of_some _ e
    refine call_list_range (n := n) (I1.ok.hd hc) (IsRange.new ..) (small_one (by omega) (by omega) (by omega) (by omega)) (by rw [rangeSize_one]; split <;> omega) (Nat.le_trans hn (by decide)) fun h' tk acc c hk hS hacc => ?_
    have hz : (List.range n).length ≤ sizeLine := by rw [List.length_range]; exact Nat.le_trans hn (by decide)
    obtain ⟨a1, a2⟩ := hacc
    have hv : Vals ((List.range n).map fun (i : Nat) => V.int (i : Nat)) acc.toList := vals_range n acc.toList (by simpa using a1) fun j v hv => by
      obtain ⟨t', e⟩ := a2 j v (by simpa using hv)
      exact ⟨t', by rw [e]; congr 1; omega⟩
    exact ⟨.ref _, _, I2.laid (t' := tk) hk (Nat.le_refl _) (show ObjOk X.prog X.w _ h' _ (.lst _) from ⟨by rw [List.length_map]; exact hz, acc.toList, c, hv, by simpa using hS⟩), rfl, q _ (I2.hok.fresh (Nat.le_refl _))⟩
end
end L2
namespace L2
open PySem PySem.Spec PyProof.Rows
section
variable {X : Cx} {K : PySem.W.Frag}
def rEqE (K : PySem.W.Frag) : R2 := fun x y H Q => ∃ a b xs, x = .ref a ∧ y = .ref b ∧ SqT K H a xs ∧ SqT K H b [] ∧ xs ≠ [] ∧ Q (.bl false) H
theorem op_eqE (hu : X.A.units < cLine) : OpR X (compareOp .Eq) (rEqE X.K) := by
  intro pins s σ H x y v u Q I rx ry h
  obtain ⟨a, b, xs, rfl, rfl, ha, hb, hne, q⟩ := h
  cases rx; cases ry
  obtain ⟨its, r, pl, _⟩ := I.tuple ha
  obtain ⟨its2, r2, pl2, _⟩ := I.tuple hb
  cases r2
  have l1 := r.length
  have h0 : 0 < xs.length := by
    cases xs with
    | nil => exact absurd rfl hne
    | cons x xs => exact Nat.succ_pos _
  refine SeqAt.RcAt.tuples (e := fun _ => true) pl pl2 hu (fun j h1 h2 => absurd h2 (Nat.not_lt_zero _)) X.prog X.w X.xe _ ⟨.bl false, H, I, ?_, q⟩
  show Value.bool _ = Value.bool false
  congr 1
  rw [Bool.and_eq_false_iff]
  refine .inr (beq_false_of_ne ?_)
  rw [List.size_toArray]
  intro z
  have : its.length = 0 := z
  omega
theorem kEqE (hu : X.A.units < cLine) (hK : X.K = K := by rfl) : OpR X (compareOp .Eq) (rEqE K) := by subst hK; exact op_eqE hu
end
end L2
namespace BV
open PySem L2
theorem same_new {H : Hp} {p : Addr} (h : H p = none) (o : HO) : Same H (upd H p o) := fun b u q => by rw [upd_ne (ne_of_none q h)]; exact q
inductive All2 {α β : Type} (R : α → β → Prop) : List α → List β → Prop where
  | nil : All2 R [] []
  | cons {a b as bs} : R a b → All2 R as bs → All2 R (a :: as) (b :: bs)
namespace All2
variable {α β : Type} {R S : α → β → Prop}
theorem len {as : List α} {bs : List β} (h : All2 R as bs) : as.length = bs.length := by
  induction h with
  | nil => rfl
  | cons _ _ ih => simp only [List.length_cons, ih]
theorem get {as : List α} {bs : List β} (h : All2 R as bs) : ∀ {i : Nat} {b : β}, bs[i]? = some b → ∃ a, as[i]? = some a ∧ R a b := by
  induction h with
  | nil => intro i b e; simp at e
  | @cons a b as bs r _ ih =>
    intro i c e
    cases i with
    | zero => simp at e; subst e; exact ⟨a, rfl, r⟩
    | succ i => exact ih (by simpa using e)
theorem split {as as' : List α} : ∀ {bs : List β}, All2 R (as ++ as') bs → ∃ b1 b2, bs = b1 ++ b2 ∧ All2 R as b1 ∧ All2 R as' b2 := by
  induction as with
  | nil => intro bs h; exact ⟨[], bs, rfl, .nil, h⟩
  | cons a as ih =>
    intro bs h
    cases h with
    | cons r h =>
      obtain ⟨b1, b2, rfl, h1, h2⟩ := ih h
      exact ⟨_ :: b1, b2, rfl, .cons r h1, h2⟩
end All2
end BV
namespace BV
open PySem L2
end BV
namespace CL
open PySem L2 BV
def isSc : V → Bool
  | .int _ | .bl _ | .str _ | .non => true
  | _ => false
theorem sc_plain {x : V} (h : isSc x = true) : plainV x = true := by cases x <;> first | rfl | (cases h; done)
def Mo (H H' : Hp) : Prop := ∀ b xs, H b = some (.tup xs) → H' b = some (.tup xs)
theorem tups_of {H H' : Hp} (s : Same H H') : Mo H H' := fun b xs e => s _ _ e
theorem one1 : 1 ≤ sizeLine := by decide
theorem two2 : 2 ≤ sizeLine := by decide
theorem three3 : 3 ≤ sizeLine := by decide
theorem kit_tt {K : PySem.W.Frag} : PySem.W.kitOne K (.type "tuple") (.type "tuple") = some true := rfl
end CL
namespace JU
open PySem L2 BV
theorem ifT {c A B : Prop} [Decidable c] (h : c) (a : A) : if c then A else B := by rw [if_pos h]; exact a
theorem ifF {c A B : Prop} [Decidable c] (h : ¬ c) (b : B) : if c then A else B := by rw [if_neg h]; exact b
theorem upd_at {H : Hp} {a b : Addr} {o o' : HO} (h : H b = some o) (n : b ≠ a) : upd H a o' b = some o := by rw [upd_ne n]; exact h
theorem ixN_nat {n j : Nat} (h : j < n) : ixN n (j : Int) = some j := by
  unfold ixN
  rw [if_pos (by omega), if_pos (by omega), Int.toNat_natCast]
inductive Rw where
  | skip (k : Nat) | unl (k : Nat) | oth (xs : List V)
def rv : Rw → List V
  | .skip k => [.str "skip", .int (k : Nat)]
  | .unl k => [.str "unless", .int (k : Nat)]
  | .oth xs => xs
def wdO : List V → Str
  | .str w :: _ => w
  | _ => "push"
def wd : Rw → Str
  | .skip _ => "skip"
  | .unl _ => "unless"
  | .oth xs => wdO xs
def OkT (w : Str) (r : List V) : Prop := (w = "push" → (∃ n : Int, r = [.int n]) ∨ ∃ b : Bool, r = [.bl b]) ∧ (w = "load" ∨ w = "keep" → ∃ n : Nat, r = [.int (n : Nat)]) ∧ (w = "back" → r = [])
def Okr : Rw → Prop
  | .oth xs => ∃ w r, xs = .str w :: r ∧ w ≠ "skip" ∧ w ≠ "unless" ∧ r.all CL.isSc = true ∧ r.length ≤ 3 ∧ OkT w r
  | _ => True
theorem at0 {r : Rw} (h : Okr r) : atI (rv r) 0 = some (.str (wd r)) := by
  cases r with
  | oth xs => obtain ⟨w, r, rfl, _⟩ := h; exact atI_nat (j := 0) rfl
  | skip k => rfl
  | unl k => rfl
def isJ : Rw → Bool
  | .oth _ => false
  | _ => true
theorem inV2 (w a b : Str) : inV (.str w) [.str a, .str b] = (a == w || b == w) := by
  show ([V.str a, V.str b].any fun y => eqV y (.str w)) = _
  simp [eqV]
theorem inJ {r : Rw} (h : Okr r) : inV (.str (wd r)) [.str "skip", .str "unless"] = isJ r := by
  rw [inV2]
  cases r with
  | skip k => rfl
  | unl k => rfl
  | oth xs =>
    obtain ⟨w, r, rfl, h1, h2, _⟩ := h
    show (("skip" : Str) == w || ("unless" : Str) == w) = false
    rw [beq_false_of_ne (Ne.symm h1), beq_false_of_ne (Ne.symm h2)]; rfl
def gn : Rw → Nat → Option Nat
  | .skip k, i => some (i + 1 + k)
  | .unl k, i => some (i + 1 + k)
  | .oth _, _ => none
def gl (r : Rw) (i : Nat) : V := match gn r i with
  | some j => .int (j : Nat)
  | none => .non
theorem gl_non {r : Rw} {i : Nat} : gl r i = .non ↔ gn r i = none := by
  unfold gl
  cases h : gn r i with
  | none => simp
  | some j => simp
def stays : Rw → Bool
  | .skip _ => false
  | .unl _ => true
  | .oth xs => !(("back" : Str) == wdO xs)
theorem inL {r : Rw} (h : Okr r) : inV (.str (wd r)) [.str "skip", .str "back"] = !stays r := by
  rw [inV2]
  cases r with
  | skip k => rfl
  | unl k => rfl
  | oth xs =>
    obtain ⟨w, r, rfl, h1, h2, _⟩ := h
    show (("skip" : Str) == w || ("back" : Str) == w) = !(!(("back" : Str) == w))
    rw [beq_false_of_ne (Ne.symm h1), Bool.not_not, Bool.false_or]
def RowsAt (H : Hp) (p : Addr) (rs : List Rw) : Prop :=
  ∃ us : List V, H p = some (.tup us) ∧ us.length = rs.length ∧ (∀ r ∈ rs, Okr r) ∧ ∀ (i : Nat) (r : Rw), rs[i]? = some r → ∃ a : Addr, us[i]? = some (V.ref a) ∧ H a = some (.tup (rv r))
theorem RowsAt.mo {H H' : Hp} {p : Addr} {rs : List Rw} (m : CL.Mo H H') (h : RowsAt H p rs) : RowsAt H' p rs := by
  obtain ⟨us, h1, h2, h3, h4⟩ := h
  exact ⟨us, m _ _ h1, h2, h3, fun i r hi => let ⟨a, h5, h6⟩ := h4 i r hi; ⟨a, h5, m _ _ h6⟩⟩
theorem RowsAt.same {H H' : Hp} {p : Addr} {rs : List Rw} (m : Same H H') (h : RowsAt H p rs) : RowsAt H' p rs := h.mo (CL.tups_of m)
def gv (rs : List Rw) (i : Nat) : V := match rs[i]? with
  | some r => gl r i
  | none => .non
theorem gv_of {rs : List Rw} {i : Nat} {r : Rw} (h : rs[i]? = some r) : gv rs i = gl r i := by unfold gv; rw [h]
def glsV (rs : List Rw) : List V := (List.range rs.length).map (gv rs)
theorem glsV_at {rs : List Rw} {i : Nat} {r : Rw} (h : rs[i]? = some r) : (glsV rs)[i]? = some (gl r i) := by
  have hi : i < rs.length := (List.getElem?_eq_some_iff.mp h).1
  unfold glsV
  rw [List.getElem?_map, List.getElem?_range hi, Option.map_some, gv_of h]
theorem glsV_len (rs : List Rw) : (glsV rs).length = rs.length := by unfold glsV; rw [List.length_map, List.length_range]
def Src (rs : List Rw) (i j : Nat) : Prop := ∃ r, rs[i]? = some r ∧ ((stays r = true ∧ j = i + 1) ∨ gn r i = some j)
inductive R (rs : List Rw) : Nat → Prop where
  | zero : R rs 0
  | src {i j : Nat} : R rs i → Src rs i j → R rs j
theorem gn_lt {r : Rw} {i j : Nat} (h : gn r i = some j) : i < j := by
  cases r with
  | skip k => simp only [gn, Option.some.injEq] at h; omega
  | unl k => simp only [gn, Option.some.injEq] at h; omega
  | oth xs => cases h
theorem Src.lt {rs : List Rw} {i j : Nat} (h : Src rs i j) : i < j := by
  obtain ⟨r, _, ⟨_, rfl⟩ | h⟩ := h
  · omega
  · exact gn_lt h
theorem R.iff {rs : List Rw} {j : Nat} : R rs j ↔ j = 0 ∨ ∃ i, i < j ∧ R rs i ∧ Src rs i j := by
  constructor
  · intro h
    cases h with
    | zero => exact .inl rfl
    | src h s => exact .inr ⟨_, s.lt, h, s⟩
  · rintro (rfl | ⟨i, _, h, s⟩)
    · exact .zero
    · exact .src h s
def Wf (rs : List Rw) : Prop := 0 < rs.length ∧ ∀ i j, Src rs i j → j < rs.length
theorem R.lt {rs : List Rw} (w : Wf rs) {j : Nat} (h : R rs j) : j < rs.length := by
  cases h with
  | zero => exact w.1
  | src h s => exact w.2 _ _ s
open Classical in
noncomputable def rb (rs : List Rw) (j : Nat) : Bool := decide (R rs j)
open Classical in
theorem rb_iff {rs : List Rw} {j : Nat} : rb rs j = true ↔ R rs j := by unfold rb; exact decide_eq_true_iff
noncomputable def rL (rs : List Rw) (n : Nat) : List V := ((List.range n).filter (rb rs)).map fun j => V.int (j : Nat)
theorem rL_succ (rs : List Rw) (n : Nat) : rL rs (n + 1) = rL rs n ++ if rb rs n = true then [.int (n : Nat)] else [] := by
  unfold rL
  rw [List.range_succ, List.filter_append, List.map_append]
  congr 1
  by_cases h : rb rs n = true
  · rw [if_pos h, List.filter_cons_of_pos h]; rfl
  · rw [if_neg h, List.filter_cons_of_neg h]; rfl
theorem rL_len (rs : List Rw) (n : Nat) : (rL rs n).length ≤ n := by
  unfold rL
  rw [List.length_map]
  exact Nat.le_trans (List.length_filter_le _ _) (by rw [List.length_range]; exact Nat.le_refl _)
def Led (rs : List Rw) (i : Nat) (kvs : List (Key × V)) : Prop := ∀ j : Nat, (valV kvs (.inl (j : Int))).isSome = true ↔ (j = 0 ∨ ∃ s, s < i ∧ R rs s ∧ Src rs s j)
theorem Led.here {rs : List Rw} {i : Nat} {kvs : List (Key × V)} (h : Led rs i kvs) : (valV kvs (.inl (i : Int))).isSome = rb rs i := by
  have := (h i).trans (R.iff (rs := rs) (j := i)).symm
  rw [Bool.eq_iff_iff, rb_iff]
  exact this
theorem inl_eq {a b : Nat} : (Sum.inl (a : Int) : Key) = Sum.inl (b : Int) ↔ a = b := ⟨fun h => by have := Sum.inl.inj h; omega, fun h => by rw [h]⟩
theorem Led.no {rs : List Rw} {i : Nat} {kvs : List (Key × V)} (h : Led rs i kvs) (n : ¬ R rs i) : Led rs (i + 1) kvs := fun j => (h j).trans ⟨fun
  | .inl e => .inl e
  | .inr ⟨s, hs, h1, h2⟩ => .inr ⟨s, by omega, h1, h2⟩, fun
  | .inl e => .inl e
  | .inr ⟨s, hs, h1, h2⟩ => .inr ⟨s, by
      by_cases e : s = i
      · subst e; exact absurd h1 n
      · omega, h1, h2⟩⟩
def pj (kvs : List (Key × V)) : Option Nat → List (Key × V)
  | some j => putK kvs (.inl (j : Int)) (.bl true)
  | none => kvs
theorem pj_is (kvs : List (Key × V)) (o : Option Nat) (j : Nat) : (valV (pj kvs o) (.inl (j : Int))).isSome = true ↔ (o = some j ∨ (valV kvs (.inl (j : Int))).isSome = true) := by
  cases o with
  | none => simp [pj]
  | some k =>
    show (valV (putK kvs (.inl (k : Int)) (.bl true)) (.inl (j : Int))).isSome = true ↔ _
    rw [valV_put]
    by_cases e : j = k
    · subst e; simp
    · rw [if_neg fun z => e (inl_eq.mp z)]
      constructor
      · exact fun h => .inr h
      · rintro (h | h)
        · exact absurd (Option.some.inj h).symm e
        · exact h
theorem pj_len (kvs : List (Key × V)) (o : Option Nat) : (pj kvs o).length ≤ kvs.length + 1 := by
  cases o with
  | none => exact Nat.le_succ _
  | some k => exact length_putK _ _ _
theorem Led.yes {rs : List Rw} {i : Nat} {r : Rw} {kvs : List (Key × V)} (h : Led rs i kvs) (hR : R rs i) (hr : rs[i]? = some r) : Led rs (i + 1) (pj (pj kvs (gn r i)) (if stays r = true then some (i + 1) else none)) := fun j => by
  rw [pj_is, pj_is, h j]
  constructor
  · rintro (h | h | h | ⟨s, hs, h1, h2⟩)
    · refine .inr ⟨i, Nat.lt_succ_self _, hR, r, hr, .inl ?_⟩
      by_cases c : stays r = true
      · rw [if_pos c] at h; exact ⟨c, (Option.some.inj h).symm⟩
      · rw [if_neg c] at h; cases h
    · exact .inr ⟨i, Nat.lt_succ_self _, hR, r, hr, .inr h⟩
    · exact .inl h
    · exact .inr ⟨s, by omega, h1, h2⟩
  · rintro (h | ⟨s, hs, h1, h2⟩)
    · exact .inr (.inr (.inl h))
    · by_cases e : s = i
      · subst e
        obtain ⟨r', hr', h3⟩ := h2
        rw [hr] at hr'
        cases hr'
        rcases h3 with ⟨c, rfl⟩ | h3
        · rw [if_pos c]; exact .inl rfl
        · exact .inr (.inl h3)
      · exact .inr (.inr (.inr ⟨s, by omega, h1, h2⟩))
theorem Led.start (rs : List Rw) : Led rs 0 (mergeK [] [((.inl 0 : Key), V.bl true)]) := fun j => by
  show (valV (putK ([] : List (Key × V)) (Sum.inl 0 : Key) (V.bl true)) (Sum.inl (j : Int) : Key)).isSome = true ↔ _
  have := pj_is [] (some 0) j
  refine this.trans ?_
  constructor
  · rintro (h | h)
    · exact .inl (Option.some.inj h).symm
    · cases h
  · rintro (h | ⟨s, hs, _⟩)
    · exact .inl (by rw [h])
    · exact absurd hs (Nat.not_lt_zero _)
end JU
set_option maxHeartbeats 4000000
namespace JU
open PySem L2 BV
seal PE PT PW PA PS PSs PTs PI PG PGs PO
def top (i : Nat) : Stmt := PySem.Challenge.pw_speakmill_k72_threaded.main.body.getD i (.Pass ⟨0, 0, 0, 0⟩)
abbrev s_goals : Stmt := top 3
theorem sc_goals : FnScope ["rows"] ["rows"] (defScope s_goals) := ⟨rfl, rfl, rfl, by decide +kernel, rfl, by decide +kernel, by decide +kernel⟩
structure NoG (mg : Str → Option Value) : Prop where
  len_ : mg "len" = none
  list_ : mg "list" = none
  range_ : mg "range" = none
  reversed_ : mg "reversed" = none
  enumerate_ : mg "enumerate" = none
  isinstance_ : mg "isinstance" = none
  tuple_ : mg "tuple" = none
  int_ : mg "int" = none
  bool_ : mg "bool" = none
  dict_ : mg "dict" = none
  min_ : mg "min" = none
abbrev TopT (K : PySem.W.Frag) (a : Addr) (xs : List V) : Prop := ∀ H : Hp, SqT K H a xs
abbrev JV : List V := [.str "skip", .str "unless"]
abbrev LV : List V := [.str "skip", .str "back"]
section
variable {P : Program} {w : World} {K : PySem.W.Frag} {mg : Str → Option Value} {base : Heap} {f : Addr} {fd : FuncData} {f_goals aJ aL : Addr} {d_goals : FuncData}
def spGoals : Sp := fun vs H Q _ => ∃ (p : Addr) (rs : List Rw), vs = [.ref p] ∧ RowsAt H p rs ∧ rs.length ≤ 1000 ∧ ∀ l H', Same H H' → H l = none → H' l = some (.lst (glsV rs)) → Q (.ref l) H'
theorem ok_goals (F : Fun K "goals" "goals" s_goals f fd) (B : NoG mg) (TJ : TopT K aJ JV) (m_JUMPS : mg "JUMPS" = some (.ref aJ)) : FnOk P w K mg base CX0 1 f fd ["rows"] spGoals := by
  refine F.ok sc_goals (fun vs H Q E h => ?_) (fun cdv A outer s H vs Q E hr h => ?_)
  · obtain ⟨p, rs, rfl, _⟩ := h
    rfl
  obtain ⟨p, rs, rfl, hR, hn, q⟩ := h
  have nd := sc_goals.nd
  have hu := hr.units0
  have zz : (2000 : Nat) ≤ sizeLine := by decide
  obtain ⟨us, h1, h2, h3, h4⟩ := hR
  refine ⟨_, (pss_one (ps_ret (pe_comp2 (CompScope2.mk (N := ["rows"]) (sc := defScope s_goals) (caps := []) (ns := []) (by decide +kernel) rfl (by decide +kernel) rfl rfl (by decide +kernel) rfl (by decide +kernel) (by decide +kernel)) rfl rfl rfl (pi_enumX true (K := K) rfl B.enumerate_ (pa_cons (pv 0) pa_nil)) (fun _ _ _ _ _ => pts_nil) (fun _ _ _ _ _ => (pe_ifExp (pt_cmpR (kIn (K := K) (w := w)) (pe_ix (kIx (K := K) (w := w)) (pv 1) pe_int (fun _ _ => rfl)) (pe_glob (v := .ref _) rfl m_JUMPS rfl) rfl) (pe_op uAdd (pe_op uAdd (pv 0) pe_int) (pe_ix (kIx (K := K) (w := w)) (pv 1) pe_int (fun _ _ => rfl))) pe_non))))), ?_⟩
  refine ⟨_, rfl, p, us, rfl, SqT.of h1, comp_enumX (xs := us) (fun i zs H' => zs = (List.range i).map (gv rs) ∧ Same H H') ⟨rfl, fun _ _ h => h⟩ ?_ ?_ ?_⟩
  · rintro i zs H' hi ⟨rfl, s1⟩
    exact ⟨SqT.of (s1 _ _ h1), by rw [List.length_map, List.length_range]; omega⟩
  · rintro i x zs H' T hx ⟨rfl, s1⟩ hT
    have hi : i < rs.length := by rw [← h2]; exact (List.getElem?_eq_some_iff.mp hx).1
    obtain ⟨r, hr'⟩ : ∃ r, rs[i]? = some r := ⟨_, List.getElem?_eq_getElem hi⟩
    obtain ⟨a, ha, hra⟩ := h4 i r hr'
    rw [hx] at ha
    cases ha
    have hok : Okr r := h3 r (List.mem_of_getElem? hr')
    have s2 := s1.trans (same_new hT (.tup [.int (i : Nat), .ref a]))
    have hra2 := s2 _ _ hra
    generalize upd H' T (.tup [.int (i : Nat), .ref a]) = H2 at s2 hra2 ⊢
    have ez : (List.range (i + 1)).map (gv rs) = (List.range i).map (gv rs) ++ [gl r i] := by rw [List.range_succ, List.map_append, List.map_singleton, gv_of hr']
    refine noTest ?_
    refine ⟨_, rfl, .inr (.inl ⟨a, _, 0, _, rfl, rfl, SqT.of hra2, at0 hok, .inr (.inl ⟨aJ, JV, rfl, .inr (TJ H2), rfl, rfl, _, rfl, ?_⟩)⟩)⟩
    show if inV (.str (wd r)) JV = true then _ else _
    rw [inJ hok]
    cases r with
    | skip k =>
      refine ifT rfl ⟨_, rfl, .inl ⟨_, _, rfl, rfl, _, rfl, .inr (.inl ⟨a, _, 1, _, rfl, rfl, SqT.of hra2, rfl, .inl ⟨_, _, rfl, rfl, ?_⟩⟩)⟩⟩
      refine ⟨?_, s2⟩
      rw [ez]
      show _ = _ ++ [V.int ((i + 1 + k : Nat) : Int)]
      rw [show ((i + 1 + k : Nat) : Int) = (i : Int) + 1 + k by omega]
    | unl k =>
      refine ifT rfl ⟨_, rfl, .inl ⟨_, _, rfl, rfl, _, rfl, .inr (.inl ⟨a, _, 1, _, rfl, rfl, SqT.of hra2, rfl, .inl ⟨_, _, rfl, rfl, ?_⟩⟩)⟩⟩
      refine ⟨?_, s2⟩
      rw [ez]
      show _ = _ ++ [V.int ((i + 1 + k : Nat) : Int)]
      rw [show ((i + 1 + k : Nat) : Int) = (i : Int) + 1 + k by omega]
    | oth xs =>
      exact ifF Bool.false_ne_true ⟨by rw [ez]; rfl, s2⟩
  · rintro zs H' ⟨rfl, s1⟩ D hD
    rw [h2]
    exact q D _ (s1.trans (same_new hD _)) (s1.free hD) upd_same
end
end JU
set_option maxHeartbeats 4000000
namespace JU
open PySem L2 BV
seal PE PT PW PA PS PSs PTs PI PG PGs PO
abbrev s_reached : Stmt := top 4
theorem sc_reached : FnScope ["rows", "led_to", "found", "number", "goal"] ["rows"] (defScope s_reached) := ⟨rfl, rfl, rfl, by decide +kernel, rfl, by decide +kernel, by decide +kernel⟩
section
variable {P : Program} {w : World} {K : PySem.W.Frag} {mg : Str → Option Value} {base : Heap} {f : Addr} {fd : FuncData} {f_goals aJ aL : Addr} {d_goals : FuncData}
def stRe (p d fo : Addr) (a3 a4 : Option V) : St := [some (.ref p), some (.ref d), some (.ref fo), a3, a4]
def spReached : Sp := fun vs H Q _ => ∃ (p : Addr) (rs : List Rw), vs = [.ref p] ∧ RowsAt H p rs ∧ rs.length ≤ 1000 ∧ ∀ l H', Same H H' → H l = none → H' l = some (.lst (rL rs rs.length)) → Q (.ref l) H'
theorem ok_reached (F : Fun K "reached" "reached" s_reached f fd) (B : NoG mg) (TL : TopT K aL LV) (m_LEAVING : mg "LEAVING" = some (.ref aL))
    (G_goals : FnOk P w K mg base CX0 1 f_goals d_goals ["rows"] spGoals) (b_goals : Binds K d_goals ["rows"] []) (k_goals : PySem.W.keepIn K (.ref f_goals) = true) (m_goals : mg "goals" = some (.ref f_goals)) :
    FnOk P w K mg base CX0 2 f fd ["rows"] spReached := by
  refine F.ok sc_reached (fun vs H Q E h => ?_) (fun cdv A outer s H vs Q E hr h => ?_)
  · obtain ⟨p, rs, rfl, _⟩ := h
    rfl
  obtain ⟨p, rs, rfl, hR, hn, q⟩ := h
  have nd := sc_reached.nd
  have hu := hr.units0
  have zz : (4000 : Nat) ≤ sizeLine := by decide
  refine ⟨_, (pss_cons (ps_set (i := 1) nd rfl (Or.inl rfl) (pe_disp (pps_cons pe_int pe_bl pps_nil) rfl rfl (by simp) (by decide)))
      (pss_cons (ps_set (i := 2) nd rfl (Or.inl rfl) (pe_lst pa_nil))
      (pss_cons (ps_cut (ps_for PassesOwn.never rfl (pi_enumX false (K := K) rfl B.enumerate_ (pa_cons (pe_call G_goals (hr.mono (by first | decide | omega)) rfl m_goals k_goals b_goals .nil pass0 (pa_cons (pv 0) pa_nil)) pa_nil)) (pg_tup rfl (pgs_cons (pg_name (i := 3) nd rfl (Or.inl rfl)) (pgs_cons (pg_name (i := 4) nd rfl (Or.inl rfl)) pgs_nil))) (pss_one (ps_cut (ps_if (pt_cmpR (kInD hr.units) (pv 3) (pv 1) rfl) (pss_cons (ps_expr (k_bm (K := K) PySem.F.plainAttrs_list PySem.F.slot_list_append PySem.F.type_list_append mt_append (pv 2) (pa_cons (pv 3) pa_nil)))
      (pss_cons (ps_cut (ps_if (pt_cmpR op_notN (pv 4) pe_non rfl) (pss_one (ps_asg pe_bl (pg_sub (pv 1) (pv 4) (set_dict hr.units)))) pss_nil))
      (pss_one (ps_cut (ps_if (pt_cmpR (kNotIn (K := K)) (pe_ix (kIx (K := K) (w := w)) (pe_ix (kIx (K := K) (w := w)) (pv 0) (pv 3) (fun _ _ => rfl)) pe_int (fun _ _ => rfl)) (pe_glob (v := .ref _) rfl m_LEAVING rfl) rfl) (pss_one (ps_asg pe_bl (pg_sub (pv 1) (pe_op uAdd (pv 3) pe_int) (set_dict hr.units)))) pss_nil))))) pss_nil)))))
      (pss_one (ps_ret (pv 2)))))), ?_⟩
  refine fun d hd => ⟨upd_same, [((.inl 0 : Key), V.bl true)], rfl, by decide, ?_⟩
  rw [upd_upd]
  refine ⟨(by show 0 ≤ sizeLine; decide), fun fo hfo => ?_⟩
  have sd := same_new hd (.dK (mergeK [] [((.inl 0 : Key), V.bl true)]))
  have hd1 : upd H d (.dK (mergeK [] [((.inl 0 : Key), V.bl true)])) d = some (.dK (mergeK [] [((.inl 0 : Key), V.bl true)])) := upd_same
  generalize upd H d (.dK (mergeK [] [((.inl 0 : Key), V.bl true)])) = H1 at sd hd1 hfo ⊢
  have hfoH : H fo = none := sd.free hfo
  have s1 := sd.trans (same_new hfo (.lst []))
  have hd2 := (same_new hfo (.lst [])) _ _ hd1
  have hf2 : upd H1 fo (.lst []) fo = some (.lst []) := upd_same
  generalize upd H1 fo (.lst []) = H2 at s1 hd2 hf2 ⊢
  refine ⟨fun σ H' => ∃ a3 a4, σ = stRe p d fo a3 a4 ∧ Same H H' ∧ H' fo = some (.lst (rL rs rs.length)), ?_, ?_⟩
  · refine ⟨_, rfl, p, rs, rfl, hR.same s1, hn, fun l H3 s3 hl hgl => ⟨l, glsV rs, rfl, SqL.of hgl, for_enumX (xs := glsV rs) (fun i σ H' => ∃ a3 a4 kvs, σ = stRe p d fo a3 a4 ∧ Same H H' ∧ H' l = some (.lst (glsV rs)) ∧ H' d = some (.dK kvs) ∧ H' fo = some (.lst (rL rs i)) ∧ Led rs i kvs ∧ kvs.length ≤ 1 + 2 * i) ?_ ?_ ?_ ?_⟩⟩
    · exact ⟨none, none, _, rfl, s1.trans s3, hgl, s3 _ _ hd2, s3 _ _ hf2, Led.start rs, by decide⟩
    · rintro i σ H' _ ⟨a3, a4, kvs, rfl, _, hl', _⟩
      exact SqL.of hl'
    · rintro i x σ H' T hx ⟨a3, a4, kvs, rfl, sH, hl', hd', hf', hL, hlen⟩ hT
      have nlf : l ≠ fo := fun e => by subst e; rw [hf2] at hl; cases hl
      have nld : l ≠ d := fun e => by subst e; rw [hd2] at hl; cases hl
      have ndf : d ≠ fo := ne_of hd' hf' (by intro z; cases z)
      have hi : i < rs.length := by rw [← glsV_len]; exact (List.getElem?_eq_some_iff.mp hx).1
      obtain ⟨r, hrr⟩ : ∃ r, rs[i]? = some r := ⟨_, List.getElem?_eq_getElem hi⟩
      have ex : x = gl r i := by rw [glsV_at hrr] at hx; exact (Option.some.inj hx).symm
      subst ex
      have st := same_new hT (.tup [.int (i : Nat), gl r i])
      refine ⟨T, _, rfl, SqT.of upd_same, rfl, _, _, rfl, _, _, rfl, rfl, ?_⟩
      have sH' := sH.trans st
      replace hl' := st _ _ hl'
      replace hd' := st _ _ hd'
      replace hf' := st _ _ hf'
      generalize upd H' T (.tup [.int (i : Nat), gl r i]) = H4 at sH' hl' hd' hf' ⊢
      clear st sH
      refine ⟨fun σ H' => ∃ a3 a4 kvs, σ = stRe p d fo a3 a4 ∧ Same H H' ∧ H' l = some (.lst (glsV rs)) ∧ H' d = some (.dK kvs) ∧ H' fo = some (.lst (rL rs (i + 1))) ∧ Led rs (i + 1) kvs ∧ kvs.length ≤ 1 + 2 * (i + 1), ?_, fun _ _ h => h⟩
      refine ⟨_, rfl, _, rfl, d, _, rfl, DGet.k (k := .inl (i : Int)) hd', _, rfl, ?_⟩
      rw [hL.here]
      cases hb : rb rs i
      · refine ifF Bool.false_ne_true ⟨_, _, kvs, rfl, sH', hl', hd', ?_, hL.no (fun z => by rw [rb_iff.mpr z] at hb; cases hb), by omega⟩
        rw [rL_succ, hb, if_neg Bool.false_ne_true, List.append_nil]
        exact hf'
      · have hRi : R rs i := rb_iff.mp hb
        have hfl := rL_len rs i
        refine ifT rfl ⟨_, rfl, .inl ⟨rfl, _, SqL.of hf'⟩, _, rfl, fo, _, _, rfl, rfl, hf', by omega, ?_⟩
        have e5 : rL rs i ++ [V.int (i : Nat)] = rL rs (i + 1) := by rw [rL_succ, hb, if_pos rfl]
        rw [e5]
        have s5 : Same H (upd H4 fo (.lst (rL rs (i + 1)))) := fun b o h => by rw [upd_ne (fun e => by subst e; rw [hfoH] at h; cases h)]; exact sH' _ _ h
        have hl5 := upd_at (o' := .lst (rL rs (i + 1))) hl' nlf
        have hd5 := upd_at (o' := .lst (rL rs (i + 1))) hd' ndf
        have hf5 : upd H4 fo (.lst (rL rs (i + 1))) fo = some (.lst (rL rs (i + 1))) := upd_same
        generalize upd H4 fo (.lst (rL rs (i + 1))) = H5 at s5 hl5 hd5 hf5 ⊢
        have wr : ∀ (H' : Hp) (kv : List (Key × V)), Same H H' → H' l = some (.lst (glsV rs)) → H' fo = some (.lst (rL rs (i + 1))) → Same H (upd H' d (.dK kv)) ∧ upd H' d (.dK kv) l = some (.lst (glsV rs)) ∧ upd H' d (.dK kv) d = some (.dK kv) ∧ upd H' d (.dK kv) fo = some (.lst (rL rs (i + 1))) := fun H' kv a b c =>
          ⟨fun x o h => by rw [upd_ne (fun e => by subst e; rw [hd] at h; cases h)]; exact a _ _ h, upd_at b nld, upd_same, upd_at c (Ne.symm ndf)⟩
        refine ⟨fun σ H' => σ = stRe p d fo (some (.int (i : Nat))) (some (gl r i)) ∧ Same H H' ∧ H' l = some (.lst (glsV rs)) ∧ H' d = some (.dK (pj kvs (gn r i))) ∧ H' fo = some (.lst (rL rs (i + 1))), ?_, ?_⟩
        · refine ⟨_, rfl, rfl, _, rfl, ?_⟩
          cases hg : gn r i with
          | none =>
            have e : gl r i = .non := gl_non.mpr hg
            rw [e]
            exact ifF (by decide) ⟨rfl, s5, hl5, hd5, hf5⟩
          | some j =>
            have e : gl r i = .int (j : Nat) := by unfold gl; rw [hg]
            rw [e]
            refine ifT (by simp) ⟨_, rfl, _, rfl, d, _, rfl, DPut.k (k := .inl (j : Int)) hd5 (by omega), ?_⟩
            obtain ⟨w1, w2, w3, w4⟩ := wr H5 (putK kvs (.inl (j : Int)) (.bl true)) s5 hl5 hf5
            exact ⟨rfl, w1, w2, w3, w4⟩
        rintro σ H6 ⟨rfl, s6, hl6, hd6, hf6⟩
        have hp6 : (pj kvs (gn r i)).length ≤ kvs.length + 1 := pj_len _ _
        obtain ⟨us, h1, h2, h3, h4⟩ := hR.same s6
        obtain ⟨a, ha, hra⟩ := h4 i r hrr
        have hok : Okr r := h3 r (List.mem_of_getElem? hrr)
        refine ⟨fun σ H' => σ = stRe p d fo (some (.int (i : Nat))) (some (gl r i)) ∧ Same H H' ∧ H' l = some (.lst (glsV rs)) ∧ H' d = some (.dK (pj (pj kvs (gn r i)) (if stays r = true then some (i + 1) else none))) ∧ H' fo = some (.lst (rL rs (i + 1))), ?_, ?_⟩
        · refine ⟨_, rfl, _, rfl, .inr (.inl ⟨p, us, (i : Nat), _, rfl, rfl, SqT.of h1, atI_nat ha, .inr (.inl ⟨a, _, 0, _, rfl, rfl, SqT.of hra, at0 hok, .inr ⟨aL, LV, rfl, .inr (TL H6), rfl, rfl, _, rfl, ?_⟩⟩)⟩)⟩
          show if (!inV (.str (wd r)) LV) = true then _ else _
          rw [inL hok, Bool.not_not]
          cases hs : stays r
          · exact ifF Bool.false_ne_true ⟨rfl, s6, hl6, hd6, hf6⟩
          · refine ifT rfl ⟨_, rfl, _, rfl, .inl ⟨_, _, rfl, rfl, d, _, rfl, DPut.k (k := .inl ((i : Int) + 1)) hd6 (by omega), ?_⟩⟩
            obtain ⟨w1, w2, w3, w4⟩ := wr H6 (putK (pj kvs (gn r i)) (.inl ((i : Int) + 1)) (.bl true)) s6 hl6 hf6
            exact ⟨rfl, w1, w2, w3, w4⟩
        rintro σ H7 ⟨rfl, s7, hl7, hd7, hf7⟩
        exact ⟨_, _, _, rfl, s7, hl7, hd7, hf7, hL.yes hRi hrr, Nat.le_trans (pj_len _ _) (by omega)⟩
    · rintro σ H' ⟨a3, a4, kvs, rfl, sH, hl', hd', hf', hL, hlen⟩
      rw [glsV_len] at hf'
      exact ⟨_, _, rfl, sH, hf'⟩
  rintro σ H' ⟨a3, a4, rfl, sH, hf'⟩
  exact ⟨_, rfl, q fo _ sH hfoH hf'⟩
end
end JU
namespace JU
open PySem L2 BV
def lf (gs : List Nat) (n : Nat) : List Nat := (List.range n).filter fun i => !gs.contains i
def nn (gs : List Nat) (i : Nat) : Nat := (lf gs i).length
theorem lf_succ (gs : List Nat) (n : Nat) : lf gs (n + 1) = lf gs n ++ if gs.contains n = true then [] else [n] := by
  unfold lf
  rw [List.range_succ, List.filter_append]
  congr 1
  by_cases h : gs.contains n = true
  · rw [if_pos h, List.filter_cons_of_neg (by rw [h]; decide)]; rfl
  · rw [if_neg h, List.filter_cons_of_pos (by rw [Bool.not_eq_true] at h; rw [h]; rfl)]; rfl
theorem nn_succ (gs : List Nat) (n : Nat) : nn gs (n + 1) = nn gs n + if gs.contains n = true then 0 else 1 := by
  unfold nn
  rw [lf_succ, List.length_append]
  split <;> rfl
theorem nn_le {gs : List Nat} {i j : Nat} (h : i ≤ j) : nn gs i ≤ nn gs j := by
  induction j with
  | zero => rw [Nat.le_zero.mp h]; exact Nat.le_refl _
  | succ j ih =>
    by_cases e : i = j + 1
    · rw [e]; exact Nat.le_refl _
    · have := ih (by omega)
      rw [nn_succ]; omega
theorem nn_lt {gs : List Nat} {i j : Nat} (h : i < j) (hl : gs.contains i = false) : nn gs i < nn gs j := by
  have h1 : nn gs (i + 1) ≤ nn gs j := nn_le h
  rw [nn_succ, hl, if_neg Bool.false_ne_true] at h1
  omega
theorem nn_bound (gs : List Nat) (i : Nat) : nn gs i ≤ i := by
  unfold nn lf
  exact Nat.le_trans (List.length_filter_le _ _) (by rw [List.length_range]; exact Nat.le_refl _)
theorem lf_get {gs : List Nat} {n i : Nat} (hi : i < n) (hl : gs.contains i = false) : (lf gs n)[nn gs i]? = some i := by
  induction n with
  | zero => omega
  | succ n ih =>
    rw [lf_succ]
    by_cases e : i = n
    · subst e
      rw [hl, if_neg Bool.false_ne_true]
      show (lf gs i ++ [i])[(lf gs i).length]? = some i
      rw [List.getElem?_append_right (Nat.le_refl _), Nat.sub_self]; rfl
    · have h := ih (by omega)
      rw [List.getElem?_append_left (List.getElem?_eq_some_iff.mp h).1]
      exact h
theorem lf_mem {gs : List Nat} {n i : Nat} : i ∈ lf gs n ↔ i < n ∧ gs.contains i = false := by
  unfold lf
  rw [List.mem_filter, List.mem_range]
  simp
theorem lf_inj {gs : List Nat} {n : Nat} {t i : Nat} (h : (lf gs n)[t]? = some i) : t = nn gs i := by
  obtain ⟨h1, h2⟩ := lf_mem.mp (List.mem_of_getElem? h)
  have h3 := lf_get h1 h2
  have hn : (lf gs n).Nodup := List.Pairwise.filter _ List.nodup_range
  have ht := (List.getElem?_eq_some_iff.mp h).1
  have hi := (List.getElem?_eq_some_iff.mp h3).1
  exact (List.getElem?_inj ht hn).mp (h.trans h3.symm)
def rowAt (rs : List Rw) (i : Nat) : Rw := (rs[i]?).getD (.oth [])
theorem rowAt_of {rs : List Rw} {i : Nat} {r : Rw} (h : rs[i]? = some r) : rowAt rs i = r := by unfold rowAt; rw [h]; rfl
def wg (gs : List Nat) : Rw → Nat → Rw
  | .skip k, i => .skip (nn gs (i + 1 + k) - nn gs i - 1)
  | .unl k, i => .unl (nn gs (i + 1 + k) - nn gs i - 1)
  | .oth xs, _ => .oth xs
def wo (gs : List Nat) (rs : List Rw) : List Rw := (lf gs rs.length).map fun i => wg gs (rowAt rs i) i
theorem wo_len (gs : List Nat) (rs : List Rw) : (wo gs rs).length = nn gs rs.length := by unfold wo nn; rw [List.length_map]
theorem wg_ok {gs : List Nat} {r : Rw} {i : Nat} (h : Okr r) : Okr (wg gs r i) := by
  cases r with
  | oth xs => exact h
  | _ => trivial
theorem wo_ok {gs : List Nat} {rs : List Rw} (h : ∀ r ∈ rs, Okr r) : ∀ r ∈ wo gs rs, Okr r := by
  intro r hr
  unfold wo at hr
  obtain ⟨i, hi, rfl⟩ := List.mem_map.mp hr
  obtain ⟨h1, _⟩ := lf_mem.mp hi
  have e : rs[i]? = some rs[i] := List.getElem?_eq_getElem h1
  rw [rowAt_of e]
  exact wg_ok (h _ (List.getElem_mem h1))
theorem wo_at {gs : List Nat} {rs : List Rw} {t i : Nat} (h : (lf gs rs.length)[t]? = some i) : (wo gs rs)[t]? = some (wg gs (rowAt rs i) i) := by
  unfold wo
  rw [List.getElem?_map, h]; rfl
def gd (gs : List Nat) : List (Key × V) := gs.map fun (i : Nat) => ((Sum.inl (i : Int) : Key), V.bl true)
theorem gd_is (gs : List Nat) (j : Nat) : ∀ kvs : List (Key × V), (valV (mergeK kvs (gd gs)) (.inl (j : Int))).isSome = true ↔ (j ∈ gs ∨ (valV kvs (.inl (j : Int))).isSome = true) := by
  induction gs with
  | nil => intro kvs; show (valV kvs (.inl (j : Int))).isSome = true ↔ _; simp
  | cons g r ih =>
    intro kvs
    show (valV (mergeK (putK kvs (Sum.inl (g : Int) : Key) (V.bl true)) (gd r)) (.inl (j : Int))).isSome = true ↔ _
    rw [ih]
    have := pj_is kvs (some g) j
    rw [show (valV (putK kvs (Sum.inl (g : Int) : Key) (V.bl true)) (.inl (j : Int))).isSome = true ↔ (some g = some j ∨ (valV kvs (.inl (j : Int))).isSome = true) from this]
    simp only [List.mem_cons, Option.some.injEq]
    constructor
    · rintro (h | h | h)
      · exact .inl (.inr h)
      · exact .inl (.inl h.symm)
      · exact .inr h
    · rintro ((h | h) | h)
      · exact .inr (.inl h.symm)
      · exact .inl h
      · exact .inr (.inr h)
theorem gd_here (gs : List Nat) (j : Nat) : (valV (mergeK [] (gd gs)) (.inl (j : Int))).isSome = gs.contains j := by
  rw [Bool.eq_iff_iff, gd_is]
  constructor
  · rintro (h | h)
    · exact List.contains_iff_mem.mpr h
    · cases h
  · intro h
    exact .inl (List.contains_iff_mem.mp h)
theorem prV_snoc {H : Hp} {p : Addr} {k : Key} {v : V} (hp : H p = some (.tup [kV k, v])) : ∀ {xs : List V} {ps : List (Key × V)}, PrV H xs ps → PrV H (xs ++ [.ref p]) (ps ++ [(k, v)])
  | [], ps, h => by rw [show ps = [] from h]; exact ⟨p, k, v, [], rfl, hp, rfl, rfl⟩
  | x :: xs, ps, ⟨q, k', v', r, h1, h2, h3, h4⟩ => ⟨q, k', v', r ++ [(k, v)], h1, h2, by rw [h3]; rfl, prV_snoc hp h4⟩
theorem prV_same {H H' : Hp} (s : Same H H') : ∀ {xs : List V} {ps : List (Key × V)}, PrV H xs ps → PrV H' xs ps
  | [], _, h => h
  | _ :: _, _, ⟨q, k', v', r, h1, h2, h3, h4⟩ => ⟨q, k', v', r, h1, s _ _ h2, h3, prV_same s h4⟩
end JU
set_option maxHeartbeats 4000000
namespace JU
open PySem L2 BV
open CL (one1 two2 three3)
seal PE PT PW PA PS PSs PTs PI PG PGs PO
abbrev s_without : Stmt := top 5
abbrev s_new_goal : Stmt := top 6
abbrev s_with_goal : Stmt := top 7
theorem sc_without : FnScope ["rows", "gone", "dropped", "left", "new_numbers", "number", "old_goals"] ["rows", "gone"] (defScope s_without) := ⟨rfl, rfl, rfl, by decide +kernel, rfl, by decide +kernel, by decide +kernel⟩
theorem sc_new_goal : FnScope ["goal", "new_numbers"] ["goal", "new_numbers"] (defScope s_new_goal) := ⟨rfl, rfl, rfl, by decide +kernel, rfl, by decide +kernel, by decide +kernel⟩
theorem sc_with_goal : FnScope ["row", "number", "goal"] ["row", "number", "goal"] (defScope s_with_goal) := ⟨rfl, rfl, rfl, by decide +kernel, rfl, by decide +kernel, by decide +kernel⟩
section
variable {P : Program} {w : World} {K : PySem.W.Frag} {mg : Str → Option Value} {base : Heap} {f : Addr} {fd : FuncData} {f_goals f_new_goal f_with_goal aJ aL : Addr} {d_goals d_new_goal d_with_goal : FuncData}
def spNewGoal (K : PySem.W.Frag) : Sp := fun vs H Q _ => ∃ (g : V) (l : Addr) (xs : List V), vs = [g, .ref l] ∧ SqL K H l xs ∧ ((g = .non ∧ Q .non H) ∨ ∃ (j : Nat) (v : V), g = .int (j : Nat) ∧ xs[j]? = some v ∧ Q v H)
theorem ok_new_goal (F : Fun K "new_goal" "new_goal" s_new_goal f fd) : FnOk P w K mg base CX0 1 f fd ["goal", "new_numbers"] (spNewGoal K) := by
  refine F.ok sc_new_goal (fun vs H Q E h => ?_) (fun cdv A outer s H vs Q E hr h => ?_)
  · obtain ⟨g, l, xs, rfl, _⟩ := h
    rfl
  obtain ⟨g, l, xs, rfl, hS, q⟩ := h
  refine ⟨_, (pss_one (ps_ret (pe_ifExp (pt_cmpR op_isN (pv 0) pe_non rfl) pe_non (pe_ix (kIx (K := K) (w := w)) (pv 1) (pv 0) (fun _ _ => rfl))))), ?_⟩
  refine ⟨_, rfl, rfl, _, rfl, ?_⟩
  rcases q with ⟨rfl, q⟩ | ⟨j, v, rfl, hv, q⟩
  · exact ifT (by decide) q
  · exact ifF (by simp) ⟨_, rfl, _, rfl, .inl ⟨l, xs, _, v, rfl, rfl, hS, atI_nat hv, q⟩⟩
def spWithGoal : Sp := fun vs H Q _ => ∃ (a : Addr) (m : Int) (g : V) (r : Rw), vs = [.ref a, .int m, g] ∧ H a = some (.tup (rv r)) ∧ Okr r ∧ ((g = .non ∧ Q (.ref a) H) ∨ ∃ j : Int, g = .int j ∧ ∀ b, H b = none → Q (.ref b) (upd H b (.tup [.str (wd r), .int (j - m - 1)])))
theorem ok_with_goal (F : Fun K "with_goal" "with_goal" s_with_goal f fd) : FnOk P w K mg base CX0 1 f fd ["row", "number", "goal"] spWithGoal := by
  refine F.ok sc_with_goal (fun vs H Q E h => ?_) (fun cdv A outer s H vs Q E hr h => ?_)
  · obtain ⟨a, m, g, r, rfl, _⟩ := h
    rfl
  obtain ⟨a, m, g, r, rfl, ha, hok, q⟩ := h
  refine ⟨_, (pss_one (ps_ret (pe_ifExp (pt_cmpR op_isN (pv 2) pe_non rfl) (pv 0) (pe_tup (pa_cons (pe_ix (kIx (K := K) (w := w)) (pv 0) pe_int (fun _ _ => rfl)) (pa_cons (pe_op op_sub (pe_op op_sub (pv 2) (pv 1)) pe_int) pa_nil)))))), ?_⟩
  refine ⟨_, rfl, rfl, _, rfl, ?_⟩
  rcases q with ⟨rfl, q⟩ | ⟨j, rfl, q⟩
  · exact ifT (by decide) ⟨_, rfl, q⟩
  · exact ifF (by simp) ⟨_, rfl, .inr (.inl ⟨a, _, 0, _, rfl, rfl, SqT.of ha, at0 hok, _, rfl, _, rfl, _, _, rfl, rfl, _, _, rfl, rfl, two2, fun b hb => q b hb⟩)⟩
def stW (p g d le ne : Addr) (a5 a6 : Option V) : St := [some (.ref p), some (.ref g), some (.ref d), some (.ref le), some (.ref ne), a5, a6]
def iv (xs : List Nat) : List V := xs.map fun i => V.int (i : Nat)
theorem iv_len (xs : List Nat) : (iv xs).length = xs.length := List.length_map ..
theorem iv_at {xs : List Nat} {t i : Nat} (h : xs[t]? = some i) : (iv xs)[t]? = some (.int (i : Nat)) := by unfold iv; rw [List.getElem?_map, h]; rfl
def spWithout (K : PySem.W.Frag) : Sp := fun vs H Q _ => ∃ (p g : Addr) (rs : List Rw) (gs : List Nat), vs = [.ref p, .ref g] ∧ RowsAt H p rs ∧ rs.length ≤ 1000 ∧ SqL K H g (iv gs) ∧ gs.length ≤ 1000 ∧ (∀ (i j : Nat) (r : Rw), rs[i]? = some r → gn r i = some j → j < rs.length) ∧
  ∀ p' H', Same H H' → H p' = none → RowsAt H' p' (wo gs rs) → Q (.ref p') H'
theorem ok_without (F : Fun K "without" "without" s_without f fd) (B : NoG mg)
    (G_goals : FnOk P w K mg base CX0 1 f_goals d_goals ["rows"] spGoals) (b_goals : Binds K d_goals ["rows"] []) (k_goals : PySem.W.keepIn K (.ref f_goals) = true) (m_goals : mg "goals" = some (.ref f_goals))
    (G_new_goal : FnOk P w K mg base CX0 1 f_new_goal d_new_goal ["goal", "new_numbers"] (spNewGoal K)) (b_new_goal : Binds K d_new_goal ["goal", "new_numbers"] []) (k_new_goal : PySem.W.keepIn K (.ref f_new_goal) = true) (m_new_goal : mg "new_goal" = some (.ref f_new_goal))
    (G_with_goal : FnOk P w K mg base CX0 1 f_with_goal d_with_goal ["row", "number", "goal"] spWithGoal) (b_with_goal : Binds K d_with_goal ["row", "number", "goal"] []) (k_with_goal : PySem.W.keepIn K (.ref f_with_goal) = true) (m_with_goal : mg "with_goal" = some (.ref f_with_goal)) :
    FnOk P w K mg base CX0 2 f fd ["rows", "gone"] (spWithout K) := by
  refine F.ok sc_without (fun vs H Q E h => ?_) (fun cdv A outer s H vs Q E hr h => ?_)
  · obtain ⟨p, g, rs, gs, rfl, _⟩ := h
    rfl
  obtain ⟨p, g, rs, gs, rfl, hR, hn, hG, hgn, hB, q⟩ := h
  have nd := sc_without.nd
  have hu := hr.units0
  have zz : (4000 : Nat) ≤ sizeLine := by decide
  refine ⟨_, (pss_cons (ps_set (i := 2) nd rfl (Or.inl rfl) (pe_callTy (k_dictP (K := K) rfl) rfl B.dict_ bt_dict (pa_cons (pe_comp (CompScope.mk (N := ["rows", "gone", "dropped", "left", "new_numbers", "number", "old_goals"]) (sc := defScope s_without) (caps := []) (ns := []) (by decide +kernel) rfl (by decide +kernel) rfl (by decide +kernel) rfl (by decide +kernel) (by decide +kernel)) rfl rfl rfl (k_ilist (K := K) (pv 1)) (fun _ _ _ _ _ => pts_nil) (fun _ _ _ _ _ => (pe_tup (pa_cons (pv 0) (pa_cons pe_bl pa_nil))))) pa_nil)))
      (pss_cons (ps_set (i := 3) nd rfl (Or.inl rfl) (pe_lst pa_nil))
      (pss_cons (ps_set (i := 4) nd rfl (Or.inr rfl) (pe_lst pa_nil))
      (pss_cons (ps_cut (ps_for PassesOwn.never rfl (pi_range1 rfl B.range_ (pa_cons (pe_callB (k_len (K := K)) rfl B.len_ bt_len (pa_cons (pv 0) pa_nil)) pa_nil)) (pg_name (i := 5) nd rfl (Or.inl rfl)) (pss_cons (ps_expr (k_bm (K := K) PySem.F.plainAttrs_list PySem.F.slot_list_append PySem.F.type_list_append mt_append (pv 4) (pa_cons (pe_callB (k_len (K := K)) rfl B.len_ bt_len (pa_cons (pv 3) pa_nil)) pa_nil)))
      (pss_one (ps_cut (ps_if (pt_cmpR (kNotInD hr.units) (pv 5) (pv 2) rfl) (pss_one (ps_expr (k_bm (K := K) PySem.F.plainAttrs_list PySem.F.slot_list_append PySem.F.type_list_append mt_append (pv 3) (pa_cons (pv 5) pa_nil)))) pss_nil))))))
      (pss_cons (ps_set (i := 6) nd rfl (Or.inr rfl) (pe_call G_goals (hr.mono (by first | decide | omega)) rfl m_goals k_goals b_goals .nil pass0 (pa_cons (pv 0) pa_nil)))
      (pss_one (ps_ret (pe_callTy (k_tuple (K := K)) rfl B.tuple_ bt_tuple (pa_cons (pe_comp (CompScope.mk (N := ["rows", "gone", "dropped", "left", "new_numbers", "number", "old_goals"]) (sc := defScope s_without) (caps := [0, 4, 6]) (ns := ["rows", "new_numbers", "old_goals"]) (by decide +kernel) rfl (by decide +kernel) rfl (by decide +kernel) rfl (by decide +kernel) (by decide +kernel)) rfl rfl rfl (k_ilist (K := K) (pv 3)) (fun _ _ _ _ _ => pts_nil) (fun _ _ _ _ _ => (pe_call G_with_goal (hr.mono (by first | decide | omega)) rfl m_with_goal k_with_goal b_with_goal .nil pass0 (pa_cons (pe_ix (kIx (K := K) (w := w)) (pv 1) (pv 0) (fun _ _ => rfl)) (pa_cons (pe_ix (kIx (K := K) (w := w)) (pv 2) (pv 0) (fun _ _ => rfl)) (pa_cons (pe_call G_new_goal (hr.mono (by first | decide | omega)) rfl m_new_goal k_new_goal b_new_goal .nil pass0 (pa_cons (pe_ix (kIx (K := K) (w := w)) (pv 3) (pv 0) (fun _ _ => rfl)) (pa_cons (pv 2) pa_nil))) pa_nil)))))) pa_nil))))))))), ?_⟩
  refine ⟨_, rfl, g, rfl, ⟨_, hG⟩, comp_list (xs := iv gs) (fun i zs H' => Same H H' ∧ PrV H' zs (gd (gs.take i)) ∧ zs.length = i) ⟨Same.refl _, rfl, rfl⟩ ?_ ?_ ?_⟩
  · rintro i zs H' hi ⟨s1, _, rfl⟩
    rw [iv_len] at hi
    exact ⟨s1.seq hG, by omega⟩
  · rintro i x zs H' hx ⟨s1, hP, rfl⟩
    have hi : zs.length < gs.length := by rw [← iv_len]; exact (List.getElem?_eq_some_iff.mp hx).1
    have ex : x = .int (gs[zs.length] : Nat) := by
      rw [iv_at (List.getElem?_eq_getElem hi)] at hx; exact (Option.some.inj hx).symm
    subst ex
    refine noTest ⟨_, rfl, two2, fun t ht => ?_⟩
    have st := same_new ht (.tup [.int (gs[zs.length] : Nat), .bl true])
    refine ⟨s1.trans st, ?_, by rw [List.length_append]; rfl⟩
    have e : gd (gs.take (zs.length + 1)) = gd (gs.take zs.length) ++ [((Sum.inl (gs[zs.length] : Int) : Key), V.bl true)] := by
      unfold gd
      rw [List.take_succ, List.map_append, List.getElem?_eq_getElem hi]; rfl
    rw [e]
    exact prV_snoc (k := .inl (gs[zs.length] : Int)) upd_same (prV_same st hP)
  rintro zs H1 ⟨s1, hP, hzl⟩ D hD
  rw [iv_len, List.take_length] at hP
  have sD := same_new hD (.lst zs)
  refine ⟨D, zs, gd gs, rfl, SqL.of upd_same, prV_same sD hP, fun d hd => ?_⟩
  have s2 := s1.trans (sD.trans (same_new hd (.dK (mergeK [] (gd gs)))))
  have hd2 : upd (upd H1 D (.lst zs)) d (.dK (mergeK [] (gd gs))) d = some (.dK (mergeK [] (gd gs))) := upd_same
  have hdH : H d = none := s1.free (sD.free hd)
  generalize upd (upd H1 D (.lst zs)) d (.dK (mergeK [] (gd gs))) = H2 at s2 hd2 ⊢
  clear hP hzl sD hd hD s1
  refine ⟨(by show 0 ≤ sizeLine; decide), fun le hle => ⟨(by show 0 ≤ sizeLine; decide), fun ne hne => ?_⟩⟩
  have s3 := s2.trans ((same_new hle (.lst [])).trans (same_new hne (.lst [])))
  have hd3 := (same_new hne (.lst [])) _ _ ((same_new hle (.lst [])) _ _ hd2)
  have hle3 : upd (upd H2 le (.lst [])) ne (.lst []) le = some (.lst []) := (same_new hne (.lst [])) _ _ upd_same
  have hne3 : upd (upd H2 le (.lst [])) ne (.lst []) ne = some (.lst []) := upd_same
  have nel : ne ≠ le := fun e => by subst e; rw [upd_same] at hne; cases hne
  have nld : le ≠ d := fun e => by subst e; rw [hd2] at hle; cases hle
  have nnd : ne ≠ d := fun e => by subst e; rw [(same_new hle (.lst [])) _ _ hd2] at hne; cases hne
  have hleH : H le = none := s2.free hle
  have hneH : H ne = none := s2.free ((same_new hle (.lst [])).free hne)
  generalize upd (upd H2 le (.lst [])) ne (.lst []) = H3 at s3 hd3 hle3 hne3 ⊢
  have wl : ∀ (Hx : Hp) (o : HO), Same H Hx → Same H (upd Hx le o) := fun Hx o a x u h => by rw [upd_ne (fun e => by subst e; rw [hleH] at h; cases h)]; exact a _ _ h
  have wn : ∀ (Hx : Hp) (o : HO), Same H Hx → Same H (upd Hx ne o) := fun Hx o a x u h => by rw [upd_ne (fun e => by subst e; rw [hneH] at h; cases h)]; exact a _ _ h
  obtain ⟨us, h1, h2, h3, h4⟩ := id hR
  refine ⟨fun σ H' => ∃ a5, σ = stW p g d le ne a5 none ∧ Same H H' ∧ H' le = some (.lst (iv (lf gs rs.length))) ∧ H' ne = some (.lst (iv ((List.range rs.length).map (nn gs)))), ?_, ?_⟩
  · refine ⟨_, rfl, _, _, rfl, .inr ⟨_, SqT.of (s3 _ _ h1), rfl⟩, _, rfl, by omega, by omega, for_range (n := us.length) (fun i σ H' => ∃ a5, σ = stW p g d le ne a5 none ∧ Same H H' ∧ H' d = some (.dK (mergeK [] (gd gs))) ∧ H' le = some (.lst (iv (lf gs i))) ∧ H' ne = some (.lst (iv ((List.range i).map (nn gs))))) ?_ ?_ ?_⟩
    · exact ⟨none, rfl, s3, hd3, hle3, hne3⟩
    · rintro i σ H' hi ⟨a5, rfl, s', hd', hle', hne'⟩
      have hnb := nn_bound gs i
      refine ⟨_, rfl, .inl ⟨rfl, _, SqL.of hne'⟩, _, rfl, _, _, rfl, .inl ⟨_, SqL.of hle', rfl⟩, ne, _, _, rfl, rfl, hne', ?_, ?_⟩
      · rw [iv_len, List.length_map, List.length_range]; omega
      have e1 : iv ((List.range i).map (nn gs)) ++ [V.int ((iv (lf gs i)).length : Nat)] = iv ((List.range (i + 1)).map (nn gs)) := by
        rw [iv_len, List.range_succ, List.map_append]
        unfold iv
        rw [List.map_append]
        rfl
      rw [e1]
      have s4 := wn H' (.lst (iv ((List.range (i + 1)).map (nn gs)))) s'
      have hd4 := upd_at (o' := .lst (iv ((List.range (i + 1)).map (nn gs)))) hd' (Ne.symm nnd)
      have hle4 := upd_at (o' := .lst (iv ((List.range (i + 1)).map (nn gs)))) hle' (Ne.symm nel)
      have hne4 : upd H' ne (.lst (iv ((List.range (i + 1)).map (nn gs)))) ne = some (.lst (iv ((List.range (i + 1)).map (nn gs)))) := upd_same
      generalize upd H' ne (.lst (iv ((List.range (i + 1)).map (nn gs)))) = H4 at s4 hd4 hle4 hne4 ⊢
      refine ⟨fun σ H' => ∃ a5, σ = stW p g d le ne a5 none ∧ Same H H' ∧ H' d = some (.dK (mergeK [] (gd gs))) ∧ H' le = some (.lst (iv (lf gs (i + 1)))) ∧ H' ne = some (.lst (iv ((List.range (i + 1)).map (nn gs)))), ?_, fun _ _ h => h⟩
      have ei : (0 : Int) + (i : Int) = (i : Int) := Int.zero_add _
      rw [ei]
      refine ⟨_, rfl, _, rfl, d, _, rfl, DGet.k (k := .inl (i : Int)) hd4, _, rfl, ?_⟩
      rw [gd_here]
      cases hc : gs.contains i
      · refine ifT rfl ⟨_, rfl, .inl ⟨rfl, _, SqL.of hle4⟩, _, rfl, le, _, _, rfl, rfl, hle4, ?_, _, rfl, wl _ _ s4, upd_at hd4 (Ne.symm nld), ?_, upd_at hne4 nel⟩
        · rw [iv_len]; show nn gs i < sizeLine; omega
        · rw [upd_same, lf_succ, hc, if_neg Bool.false_ne_true]
          unfold iv
          rw [List.map_append]; rfl
      · refine ifF (by decide) ⟨_, rfl, s4, hd4, ?_, hne4⟩
        rw [lf_succ, hc, if_pos rfl, List.append_nil]
        exact hle4
    · rintro σ H' ⟨a5, rfl, s', hd', hle', hne'⟩
      rw [h2] at hle' hne'
      exact ⟨a5, rfl, s', hle', hne'⟩
  rintro σ H4 ⟨a5, rfl, s4, hle4, hne4⟩
  refine ⟨_, rfl, p, rs, rfl, hR.same s4, hn, fun og H5 s5 hog hog5 => ?_⟩
  have hle5 := s5 _ _ hle4
  have hne5 := s5 _ _ hne4
  have s5' := s4.trans s5
  refine ⟨_, rfl, le, rfl, ⟨_, SqL.of hle5⟩, comp_list (xs := iv (lf gs rs.length)) (fun k zs H' => Same H5 H' ∧ zs.length = k ∧ ∀ t i, t < k → (lf gs rs.length)[t]? = some i → ∃ a : Addr, zs[t]? = some (V.ref a) ∧ H' a = some (.tup (rv (wg gs (rowAt rs i) i)))) ⟨Same.refl _, rfl, fun t i ht => absurd ht (Nat.not_lt_zero _)⟩ ?_ ?_ ?_⟩
  · rintro k zs H' hk ⟨s6, rfl, _⟩
    have := nn_bound gs rs.length
    rw [iv_len] at hk
    have hk' : zs.length ≤ nn gs rs.length := hk
    exact ⟨SqL.of (s6 _ _ hle5), by omega⟩
  · rintro k x zs H' hx ⟨s6, rfl, hz⟩
    have hk : zs.length < (lf gs rs.length).length := by rw [← iv_len]; exact (List.getElem?_eq_some_iff.mp hx).1
    obtain ⟨i, hi⟩ : ∃ i, (lf gs rs.length)[zs.length]? = some i := ⟨_, List.getElem?_eq_getElem hk⟩
    have ex : x = .int (i : Nat) := by rw [iv_at hi] at hx; exact (Option.some.inj hx).symm
    subst ex
    obtain ⟨hil, hic⟩ := lf_mem.mp (List.mem_of_getElem? hi)
    obtain ⟨r, hr'⟩ : ∃ r, rs[i]? = some r := ⟨_, List.getElem?_eq_getElem hil⟩
    obtain ⟨a, ha, hra⟩ := h4 i r hr'
    have hok : Okr r := h3 r (List.mem_of_getElem? hr')
    have s7 := s5'.trans s6
    have fin : ∀ H8 b, Same H' H8 → H8 b = some (.tup (rv (wg gs r i))) → Same H5 H8 ∧ (zs ++ [V.ref b]).length = zs.length + 1 ∧ ∀ t i, t < zs.length + 1 → (lf gs rs.length)[t]? = some i → ∃ a : Addr, (zs ++ [V.ref b])[t]? = some (V.ref a) ∧ H8 a = some (.tup (rv (wg gs (rowAt rs i) i))) := fun H8 b s8 hb => by
      refine ⟨s6.trans s8, by rw [List.length_append]; rfl, fun t i' ht hi' => ?_⟩
      by_cases c : t < zs.length
      · obtain ⟨a', e1, e2⟩ := hz t i' c hi'
        exact ⟨a', by rw [List.getElem?_append_left c]; exact e1, s8 _ _ e2⟩
      · have e : t = zs.length := by omega
        subst e
        rw [hi] at hi'
        cases hi'
        rw [rowAt_of hr']
        exact ⟨b, by rw [List.getElem?_append_right (Nat.le_refl _), Nat.sub_self]; rfl, hb⟩
    have hgat : (glsV rs)[i]? = some (gl r i) := glsV_at hr'
    refine noTest ⟨_, rfl, _, rfl, .inr (.inl ⟨p, us, (i : Nat), _, rfl, rfl, SqT.of (s7 _ _ h1), atI_nat ha, ?_⟩)⟩
    have hnat : ∀ j, j < rs.length → (iv ((List.range rs.length).map (nn gs)))[j]? = some (.int (nn gs j : Nat)) := fun j hj => iv_at (by rw [List.getElem?_map, List.getElem?_range hj]; rfl)
    refine ⟨_, rfl, _, rfl, .inl ⟨ne, _, (i : Nat), _, rfl, rfl, SqL.of (s6 _ _ hne5), atI_nat (hnat i hil), ?_⟩⟩
    refine ⟨_, rfl, _, rfl, .inl ⟨og, _, (i : Nat), _, rfl, rfl, SqL.of (s6 _ _ hog5), atI_nat hgat, ?_⟩⟩
    refine ⟨_, rfl, gl r i, ne, _, rfl, SqL.of (s6 _ _ hne5), ?_⟩
    cases hg : gn r i with
    | none =>
      refine .inl ⟨gl_non.mpr hg, a, _, _, r, rfl, s7 _ _ hra, hok, .inl ⟨rfl, fin H' a (Same.refl _) ?_⟩⟩
      have : wg gs r i = r := by
        cases r with
        | oth xs => rfl
        | _ => cases hg
      rw [this]
      exact s7 _ _ hra
    | some j =>
      have e : gl r i = .int (j : Nat) := by unfold gl; rw [hg]
      have hj := hB i j r hr' hg
      refine .inr ⟨j, _, e, hnat j hj, a, _, _, r, rfl, s7 _ _ hra, hok, .inr ⟨_, rfl, fun b hb => fin _ b (same_new hb _) ?_⟩⟩
      rw [upd_same]
      have hlt := nn_lt (gs := gs) (gn_lt hg) hic
      have en : ((nn gs j : Nat) : Int) - ((nn gs i : Nat) : Int) - 1 = ((nn gs j - nn gs i - 1 : Nat) : Int) := by omega
      rw [en]
      cases r with
      | skip k => cases hg; rfl
      | unl k => cases hg; rfl
      | oth xs => cases hg
  · rintro zs H' ⟨s6, hzl, hz⟩ D hD
    rw [iv_len] at hzl
    refine ⟨D, zs, rfl, .inl ⟨SqL.of upd_same, fun t ht => ?_⟩⟩
    have s7 := s6.trans ((same_new hD (.lst zs)).trans (same_new ht (.tup zs)))
    refine q t _ (s5'.trans s7) (s5'.free (s6.free ((same_new hD (.lst zs)).free ht))) ⟨zs, upd_same, by rw [hzl]; exact (wo_len gs rs).symm, wo_ok h3, fun t' r' ht' => ?_⟩
    have hl : t' < (lf gs rs.length).length := by
      have := (List.getElem?_eq_some_iff.mp ht').1
      rw [wo_len] at this; exact this
    obtain ⟨i, hi⟩ : ∃ i, (lf gs rs.length)[t']? = some i := ⟨_, List.getElem?_eq_getElem hl⟩
    rw [wo_at hi] at ht'
    cases ht'
    obtain ⟨a, e1, e2⟩ := hz t' i (by rw [iv_len]; exact hl) hi
    exact ⟨a, e1, (same_new ht _) _ _ ((same_new hD _) _ _ e2)⟩
end
end JU
namespace JU
open PySem L2 BV
def isB : Rw → Bool
  | .oth xs => ("back" : Str) == wdO xs
  | _ => false
def isS : Rw → Bool
  | .skip _ => true
  | _ => false
inductive Run (rs : List Rw) : Nat → Int → List (List V) → Nat → Prop where
  | back {a : Nat} {b : Int} {r : Rw} : rs[a]? = some r → isB r = true → Run rs a b [] 0
  | skip {a k m : Nat} {b : Int} {d : List (List V)} : rs[a]? = some (.skip k) → Run rs (a + 1 + k) b d m → Run rs a b d (m + 1)
  | unl {a k m : Nat} {b : Int} {d : List (List V)} : rs[a]? = some (.unl k) → Run rs (if b % 2 = 0 then a + 1 + k else a + 1) (b / 2) d m → Run rs a b ([.str "unless"] :: d) (m + 1)
  | oth {a m : Nat} {b : Int} {xs : List V} {d : List (List V)} : rs[a]? = some (.oth xs) → isB (.oth xs) = false → Run rs (a + 1) b d m → Run rs a b (xs :: d) (m + 1)
theorem Run.det {rs : List Rw} {a m : Nat} {b : Int} {d : List (List V)} (h : Run rs a b d m) : ∀ {d' : List (List V)} {m' : Nat}, Run rs a b d' m' → d = d' ∧ m = m' := by
  induction h with
  | back h1 h2 =>
    intro d' m' h'
    cases h' with
    | back _ _ => exact ⟨rfl, rfl⟩
    | skip g _ => rw [h1] at g; cases g; cases h2
    | unl g _ => rw [h1] at g; cases g; cases h2
    | oth g1 g2 _ => rw [h1] at g1; cases g1; rw [h2] at g2; cases g2
  | skip h1 _ ih =>
    intro d' m' h'
    cases h' with
    | back g1 g2 => rw [h1] at g1; cases g1; cases g2
    | skip g h => rw [h1] at g; cases g; obtain ⟨rfl, rfl⟩ := ih h; exact ⟨rfl, rfl⟩
    | unl g _ => rw [h1] at g; cases g
    | oth g1 _ _ => rw [h1] at g1; cases g1
  | unl h1 _ ih =>
    intro d' m' h'
    cases h' with
    | back g1 g2 => rw [h1] at g1; cases g1; cases g2
    | skip g _ => rw [h1] at g; cases g
    | unl g h => rw [h1] at g; cases g; obtain ⟨rfl, rfl⟩ := ih h; exact ⟨rfl, rfl⟩
    | oth g1 _ _ => rw [h1] at g1; cases g1
  | oth h1 h2 _ ih =>
    intro d' m' h'
    cases h' with
    | back g1 g2 => rw [h1] at g1; cases g1; rw [h2] at g2; cases g2
    | skip g _ => rw [h1] at g; cases g
    | unl g _ => rw [h1] at g; cases g
    | oth g1 _ h => rw [h1] at g1; cases g1; obtain ⟨rfl, rfl⟩ := ih h; exact ⟨rfl, rfl⟩
def enF (rs : List Rw) : Nat → Nat → Nat
  | 0, i => i
  | f + 1, i => match rs[i]? with
    | some (.skip k) => enF rs f (i + 1 + k)
    | _ => i
theorem enF_st (rs : List Rw) : ∀ f i, rs.length ≤ f + i → enF rs f i = enF rs (f + 1) i
  | 0, i, h => by
    have : rs[i]? = none := List.getElem?_eq_none (by omega)
    simp only [enF, this]
  | f + 1, i, h => by
    rw [enF, enF]
    cases hr : rs[i]? with
    | none => rfl
    | some r =>
      cases r with
      | skip k => exact enF_st rs f (i + 1 + k) (by omega)
      | _ => rfl
def en (rs : List Rw) (i : Nat) : Nat := enF rs rs.length i
theorem en_skip {rs : List Rw} {i k : Nat} (h : rs[i]? = some (.skip k)) : en rs i = en rs (i + 1 + k) := by
  have hi : i < rs.length := (List.getElem?_eq_some_iff.mp h).1
  unfold en
  obtain ⟨m, hm⟩ : ∃ m, rs.length = m + 1 := ⟨rs.length - 1, by omega⟩
  rw [hm, enF, h]
  exact enF_st rs m (i + 1 + k) (by omega)
theorem en_other {rs : List Rw} {i : Nat} (h : ∀ k, rs[i]? ≠ some (.skip k)) : en rs i = i := by
  unfold en
  cases hm : rs.length with
  | zero => rfl
  | succ m =>
    rw [enF]
    cases hr : rs[i]? with
    | none => rfl
    | some r =>
      cases r with
      | skip k => exact absurd hr (h k)
      | _ => rfl
theorem en_ok {rs : List Rw} (w : Wf rs) : ∀ m i, rs.length - i = m → i < rs.length → i ≤ en rs i ∧ en rs i < rs.length ∧ ∀ k, rs[en rs i]? ≠ some (.skip k) := by
  intro m
  induction m using Nat.strongRecOn with
  | _ m ih =>
    intro i hm hi
    cases hr : rs[i] with
    | skip k =>
      have h : rs[i]? = some (.skip k) := by rw [List.getElem?_eq_getElem hi, hr]
      have hj : i + 1 + k < rs.length := w.2 i _ ⟨_, h, .inr rfl⟩
      rw [en_skip h]
      obtain ⟨a, b, c⟩ := ih (rs.length - (i + 1 + k)) (by omega) (i + 1 + k) rfl hj
      exact ⟨by omega, b, c⟩
    | unl k =>
      have h : ∀ k, rs[i]? ≠ some (.skip k) := fun k' e => by rw [List.getElem?_eq_getElem hi, hr] at e; cases e
      rw [en_other h]
      exact ⟨Nat.le_refl _, hi, h⟩
    | oth xs =>
      have h : ∀ k, rs[i]? ≠ some (.skip k) := fun k' e => by rw [List.getElem?_eq_getElem hi, hr] at e; cases e
      rw [en_other h]
      exact ⟨Nat.le_refl _, hi, h⟩
def sr (rs : List Rw) : Rw → Nat → Rw
  | .skip k, i => if isB (rowAt rs (en rs (i + 1 + k))) = true then rowAt rs (en rs (i + 1 + k)) else .skip (en rs (i + 1 + k) - i - 1)
  | .unl k, i => .unl (en rs (i + 1 + k) - i - 1)
  | .oth xs, _ => .oth xs
def st (rs : List Rw) : List Rw := (List.range rs.length).map fun i => sr rs (rowAt rs i) i
theorem st_len (rs : List Rw) : (st rs).length = rs.length := by unfold st; rw [List.length_map, List.length_range]
theorem st_at {rs : List Rw} {i : Nat} {r : Rw} (h : rs[i]? = some r) : (st rs)[i]? = some (sr rs r i) := by
  have hi : i < rs.length := (List.getElem?_eq_some_iff.mp h).1
  unfold st
  rw [List.getElem?_map, List.getElem?_range hi, Option.map_some, rowAt_of h]
theorem rowAt_get {rs : List Rw} {i : Nat} (h : i < rs.length) : rs[i]? = some (rowAt rs i) := by
  rw [rowAt_of (List.getElem?_eq_getElem h), List.getElem?_eq_getElem h]
theorem isB_oth {r : Rw} (h : isB r = true) : ∃ xs, r = .oth xs := by
  cases r with
  | oth xs => exact ⟨xs, rfl⟩
  | _ => cases h
theorem Run.en {rs : List Rw} {a m : Nat} {b : Int} {d : List (List V)} (h : Run rs a b d m) : ∃ m', m' ≤ m ∧ Run rs (en rs a) b d m' := by
  induction h with
  | back h1 h2 =>
    obtain ⟨xs, rfl⟩ := isB_oth h2
    rw [en_other (fun k e => by rw [h1] at e; cases e)]
    exact ⟨0, Nat.le_refl _, .back h1 h2⟩
  | skip h1 _ ih =>
    rw [en_skip h1]
    obtain ⟨m', h3, h4⟩ := ih
    exact ⟨m', by omega, h4⟩
  | unl h1 h2 ih =>
    rw [en_other (fun k e => by rw [h1] at e; cases e)]
    exact ⟨_, Nat.le_refl _, .unl h1 h2⟩
  | oth h1 h2 h3 ih =>
    rw [en_other (fun k e => by rw [h1] at e; cases e)]
    exact ⟨_, Nat.le_refl _, .oth h1 h2 h3⟩
theorem st_run {rs : List Rw} (w : Wf rs) : ∀ (m a : Nat) (b : Int) (d : List (List V)), Run rs a b d m → ∃ m', m' ≤ m ∧ Run (st rs) a b d m' := by
  intro m
  induction m using Nat.strongRecOn with
  | _ m ih =>
    intro a b d h
    cases h with
    | back h1 h2 =>
      obtain ⟨xs, rfl⟩ := isB_oth h2
      exact ⟨0, Nat.le_refl _, .back (st_at h1) h2⟩
    | @skip _ k m1 _ _ h1 h2 =>
      have ha := (List.getElem?_eq_some_iff.mp h1).1
      have hj : a + 1 + k < rs.length := w.2 a _ ⟨_, h1, .inr rfl⟩
      obtain ⟨e1, e2, e3⟩ := en_ok w _ _ rfl hj
      obtain ⟨m2, h3, h4⟩ := h2.en
      have hs := st_at h1
      have hs' : (st rs)[a]? = some (if isB (rowAt rs (JU.en rs (a + 1 + k))) = true then rowAt rs (JU.en rs (a + 1 + k)) else .skip (JU.en rs (a + 1 + k) - a - 1)) := hs
      cases hb : isB (rowAt rs (JU.en rs (a + 1 + k))) with
      | true =>
        rw [hb, if_pos rfl] at hs'
        obtain ⟨rfl, rfl⟩ := h4.det (.back (rowAt_get e2) hb)
        exact ⟨0, Nat.zero_le _, .back hs' hb⟩
      | false =>
        rw [hb, if_neg Bool.false_ne_true] at hs'
        obtain ⟨m3, h5, h6⟩ := ih m2 (by omega) _ _ _ h4
        refine ⟨m3 + 1, by omega, .skip hs' ?_⟩
        rw [show a + 1 + (JU.en rs (a + 1 + k) - a - 1) = JU.en rs (a + 1 + k) by omega]
        exact h6
    | @unl _ k m1 _ d1 h1 h2 =>
      have hj : a + 1 + k < rs.length := w.2 a _ ⟨_, h1, .inr rfl⟩
      obtain ⟨e1, e2, e3⟩ := en_ok w _ _ rfl hj
      have hs : (st rs)[a]? = some (.unl (JU.en rs (a + 1 + k) - a - 1)) := st_at h1
      by_cases c : b % 2 = 0
      · rw [if_pos c] at h2
        obtain ⟨m2, h3, h4⟩ := h2.en
        obtain ⟨m3, h5, h6⟩ := ih m2 (by omega) _ _ _ h4
        refine ⟨m3 + 1, by omega, .unl hs ?_⟩
        rw [if_pos c, show a + 1 + (JU.en rs (a + 1 + k) - a - 1) = JU.en rs (a + 1 + k) by omega]
        exact h6
      · rw [if_neg c] at h2
        obtain ⟨m3, h5, h6⟩ := ih m1 (by omega) _ _ _ h2
        refine ⟨m3 + 1, by omega, .unl hs ?_⟩
        rw [if_neg c]
        exact h6
    | @oth _ m1 _ xs d1 h1 h2 h3 =>
      obtain ⟨m3, h5, h6⟩ := ih m1 (by omega) _ _ _ h3
      exact ⟨m3 + 1, by omega, .oth (st_at h1) h2 h6⟩
theorem wo_at' {gs : List Nat} {rs : List Rw} {a : Nat} {r : Rw} (h : rs[a]? = some r) (hc : gs.contains a = false) : (wo gs rs)[nn gs a]? = some (wg gs r a) := by
  have ha : a < rs.length := (List.getElem?_eq_some_iff.mp h).1
  rw [wo_at (lf_get ha hc), rowAt_of h]
theorem nn_zero (gs : List Nat) : nn gs 0 = 0 := rfl
theorem nn_left {gs : List Nat} {a : Nat} (h : gs.contains a = false) : nn gs (a + 1) = nn gs a + 1 := by rw [nn_succ, h, if_neg Bool.false_ne_true]
theorem nn_gone {gs : List Nat} {a : Nat} (h : gs.contains a = true) : nn gs (a + 1) = nn gs a := by rw [nn_succ, h, if_pos rfl]; rfl
def Gone (gs : List Nat) (rs : List Rw) : Prop := ∀ a, R rs a → gs.contains a = true → rs[a]? = some (.skip 0)
theorem wo_run {gs : List Nat} {rs : List Rw} (hG : Gone gs rs) {a m : Nat} {b : Int} {d : List (List V)} (h : Run rs a b d m) : R rs a → ∃ m', m' ≤ m ∧ Run (wo gs rs) (nn gs a) b d m' := by
  induction h with
  | @back a b r h1 h2 =>
    intro hR
    obtain ⟨xs, rfl⟩ := isB_oth h2
    cases hc : gs.contains a with
    | true => have := hG a hR hc; rw [h1] at this; cases this
    | false => exact ⟨0, Nat.le_refl _, .back (wo_at' h1 hc) h2⟩
  | @skip a k m b d h1 h2 ih =>
    intro hR
    obtain ⟨m', h3, h4⟩ := ih (.src hR ⟨_, h1, .inr rfl⟩)
    cases hc : gs.contains a with
    | true =>
      have := hG a hR hc
      rw [h1] at this
      cases this
      rw [show a + 1 + 0 = a + 1 from rfl, nn_gone hc] at h4
      exact ⟨m', by omega, h4⟩
    | false =>
      have hlt := nn_lt (gs := gs) (show a < a + 1 + k by omega) hc
      refine ⟨m' + 1, by omega, .skip (wo_at' h1 hc) ?_⟩
      rw [show nn gs a + 1 + (nn gs (a + 1 + k) - nn gs a - 1) = nn gs (a + 1 + k) by omega]
      exact h4
  | @unl a k m b d h1 h2 ih =>
    intro hR
    have hR1 : R rs (if b % 2 = 0 then a + 1 + k else a + 1) := by
      split
      · exact .src hR ⟨_, h1, .inr rfl⟩
      · exact .src hR ⟨_, h1, .inl ⟨rfl, rfl⟩⟩
    obtain ⟨m', h3, h4⟩ := ih hR1
    cases hc : gs.contains a with
    | true => have := hG a hR hc; rw [h1] at this; cases this
    | false =>
      have hlt := nn_lt (gs := gs) (show a < a + 1 + k by omega) hc
      refine ⟨m' + 1, by omega, .unl (wo_at' h1 hc) ?_⟩
      by_cases c : b % 2 = 0
      · rw [if_pos c] at h4 ⊢
        rw [show nn gs a + 1 + (nn gs (a + 1 + k) - nn gs a - 1) = nn gs (a + 1 + k) by omega]
        exact h4
      · rw [if_neg c] at h4 ⊢
        rw [nn_left hc] at h4
        exact h4
  | @oth a m b xs d h1 h2 h3 ih =>
    intro hR
    have hs : stays (.oth xs) = true := by
      show (!(("back" : Str) == wdO xs)) = true
      have : (("back" : Str) == wdO xs) = false := h2
      rw [this]; rfl
    obtain ⟨m', h4, h5⟩ := ih (.src hR ⟨_, h1, .inl ⟨hs, rfl⟩⟩)
    cases hc : gs.contains a with
    | true => have := hG a hR hc; rw [h1] at this; cases this
    | false =>
      rw [nn_left hc] at h5
      exact ⟨m' + 1, by omega, .oth (wo_at' h1 hc) h2 h5⟩
theorem wg_stays (gs : List Nat) (r : Rw) (i : Nat) : stays (wg gs r i) = stays r := by cases r <;> rfl
theorem wg_gn {gs : List Nat} {r : Rw} {i j : Nat} (hc : gs.contains i = false) (h : gn r i = some j) : gn (wg gs r i) (nn gs i) = some (nn gs j) := by
  have hlt := nn_lt (gs := gs) (gn_lt h) hc
  cases r with
  | skip k =>
    cases h
    show some (nn gs i + 1 + (nn gs (i + 1 + k) - nn gs i - 1)) = _
    congr 1; omega
  | unl k =>
    cases h
    show some (nn gs i + 1 + (nn gs (i + 1 + k) - nn gs i - 1)) = _
    congr 1; omega
  | oth xs => cases h
theorem wo_R {gs : List Nat} {rs : List Rw} (hG : Gone gs rs) {a : Nat} (h : R rs a) : R (wo gs rs) (nn gs a) := by
  induction h with
  | zero => exact .zero
  | @src i j hi s ih =>
    obtain ⟨r, hr, hj⟩ := id s
    cases hc : gs.contains i with
    | true =>
      have := hG i hi hc
      rw [hr] at this
      cases this
      rcases hj with ⟨h, _⟩ | h
      · cases h
      · have : j = i + 1 := (Option.some.inj h).symm
        rw [this, nn_gone hc]; exact ih
    | false =>
      refine .src ih ⟨_, wo_at' hr hc, ?_⟩
      rcases hj with ⟨h, rfl⟩ | h
      · exact .inl ⟨by rw [wg_stays]; exact h, nn_left hc⟩
      · exact .inr (wg_gn hc h)
end JU
namespace JU
open PySem L2 BV
def Jok (rs : List Rw) : Prop := ∀ (a j : Nat) (r r' : Rw), rs[a]? = some r → gn r a = some j → rs[j]? = some r' → isS r' = false ∧ (isS r = true → isB r' = false)
def AllR (rs : List Rw) : Prop := ∀ a, a < rs.length → R rs a
theorem st_wf {rs : List Rw} (w : Wf rs) : Wf (st rs) := by
  refine ⟨by rw [st_len]; exact w.1, ?_⟩
  rintro i j ⟨r', hr', hj⟩
  have hi : i < rs.length := by rw [← st_len]; exact (List.getElem?_eq_some_iff.mp hr').1
  have hr := rowAt_get hi
  rw [st_at hr] at hr'
  rw [st_len]
  generalize rowAt rs i = r at hr hr'
  cases r with
  | oth xs =>
    cases hr'
    exact w.2 i j ⟨_, hr, hj⟩
  | unl k =>
    cases hr'
    have hk := w.2 i _ ⟨_, hr, .inr rfl⟩
    obtain ⟨e1, e2, e3⟩ := en_ok w _ _ rfl hk
    rcases hj with ⟨_, rfl⟩ | h
    · exact w.2 i _ ⟨_, hr, .inl ⟨rfl, rfl⟩⟩
    · have : i + 1 + (en rs (i + 1 + k) - i - 1) = j := Option.some.inj h
      omega
  | skip k =>
    have hk := w.2 i _ ⟨_, hr, .inr rfl⟩
    obtain ⟨e1, e2, e3⟩ := en_ok w _ _ rfl hk
    have hr2 : (if isB (rowAt rs (en rs (i + 1 + k))) = true then rowAt rs (en rs (i + 1 + k)) else .skip (en rs (i + 1 + k) - i - 1)) = r' := Option.some.inj hr'
    cases hb : isB (rowAt rs (en rs (i + 1 + k))) with
    | true =>
      rw [hb, if_pos rfl] at hr2
      obtain ⟨xs, hxs⟩ := isB_oth hb
      rw [hxs] at hr2 hb
      subst hr2
      rcases hj with ⟨h, _⟩ | h
      · have h' : (!(("back" : Str) == wdO xs)) = true := h
        rw [show (("back" : Str) == wdO xs) = true from hb] at h'
        cases h'
      · cases h
    | false =>
      rw [hb, if_neg Bool.false_ne_true] at hr2
      subst hr2
      rcases hj with ⟨h, _⟩ | h
      · cases h
      · have : i + 1 + (en rs (i + 1 + k) - i - 1) = j := Option.some.inj h
        omega
theorem st_J {rs : List Rw} (w : Wf rs) : Jok (st rs) := by
  intro a j r' r'' hr' hg hr''
  have hi : a < rs.length := by rw [← st_len]; exact (List.getElem?_eq_some_iff.mp hr').1
  have hr := rowAt_get hi
  rw [st_at hr] at hr'
  have land : ∀ k, a + 1 + k < rs.length → j = en rs (a + 1 + k) → isS r'' = false ∧ (isB (rowAt rs (en rs (a + 1 + k))) = false → isB r'' = false) := fun k hk e => by
    obtain ⟨e1, e2, e3⟩ := en_ok w _ _ rfl hk
    have hx := rowAt_get e2
    have hy := st_at hx
    rw [← e, hr''] at hy
    have hy' := Option.some.inj hy
    rw [← e] at e3 hx ⊢
    generalize rowAt rs j = x at hx hy' ⊢
    cases x with
    | skip k' => exact absurd hx (e3 k')
    | unl k' => subst hy'; exact ⟨rfl, fun _ => rfl⟩
    | oth xs => subst hy'; exact ⟨rfl, fun h => h⟩
  generalize rowAt rs a = r at hr hr'
  cases r with
  | oth xs => cases hr'; cases hg
  | unl k =>
    cases hr'
    have hk := w.2 a _ ⟨_, hr, .inr rfl⟩
    obtain ⟨e1, e2, e3⟩ := en_ok w _ _ rfl hk
    have e : a + 1 + (en rs (a + 1 + k) - a - 1) = j := Option.some.inj hg
    obtain ⟨l1, _⟩ := land k hk (by omega)
    exact ⟨l1, fun h => by cases h⟩
  | skip k =>
    have hk := w.2 a _ ⟨_, hr, .inr rfl⟩
    obtain ⟨e1, e2, e3⟩ := en_ok w _ _ rfl hk
    have hr2 : (if isB (rowAt rs (en rs (a + 1 + k))) = true then rowAt rs (en rs (a + 1 + k)) else .skip (en rs (a + 1 + k) - a - 1)) = r' := Option.some.inj hr'
    cases hb : isB (rowAt rs (en rs (a + 1 + k))) with
    | true =>
      rw [hb, if_pos rfl] at hr2
      obtain ⟨xs, hxs⟩ := isB_oth hb
      rw [hxs] at hr2
      subst hr2
      cases hg
    | false =>
      rw [hb, if_neg Bool.false_ne_true] at hr2
      subst hr2
      have e : a + 1 + (en rs (a + 1 + k) - a - 1) = j := Option.some.inj hg
      obtain ⟨l1, l2⟩ := land k hk (by omega)
      exact ⟨l1, fun _ => l2 hb⟩
theorem wo_from {gs : List Nat} {rs : List Rw} {t : Nat} {r' : Rw} (h : (wo gs rs)[t]? = some r') : ∃ a r, rs[a]? = some r ∧ gs.contains a = false ∧ t = nn gs a ∧ r' = wg gs r a := by
  have ht : t < (lf gs rs.length).length := by
    have := (List.getElem?_eq_some_iff.mp h).1
    rw [wo_len] at this; exact this
  obtain ⟨a, ha⟩ : ∃ a, (lf gs rs.length)[t]? = some a := ⟨_, List.getElem?_eq_getElem ht⟩
  obtain ⟨h1, h2⟩ := lf_mem.mp (List.mem_of_getElem? ha)
  rw [wo_at ha] at h
  exact ⟨a, rowAt rs a, rowAt_get h1, h2, lf_inj ha, (Option.some.inj h).symm⟩
theorem wg_S (gs : List Nat) (r : Rw) (i : Nat) : isS (wg gs r i) = isS r := by cases r <;> rfl
theorem wg_B (gs : List Nat) (r : Rw) (i : Nat) : isB (wg gs r i) = isB r := by cases r <;> rfl
theorem wg_none {gs : List Nat} {r : Rw} {i t : Nat} (h : gn r i = none) : gn (wg gs r i) t = none := by
  cases r with
  | oth xs => rfl
  | _ => cases h
theorem wo_J {gs : List Nat} {rs : List Rw} (hJ : Jok rs) (hL : ∀ (a j : Nat) (r : Rw), rs[a]? = some r → gs.contains a = false → gn r a = some j → gs.contains j = false ∧ j < rs.length) : Jok (wo gs rs) := by
  intro t j' r1 r2 h1 hg h2
  obtain ⟨a, r, hr, hc, rfl, rfl⟩ := wo_from h1
  cases hg0 : gn r a with
  | none => rw [wg_none hg0] at hg; cases hg
  | some j =>
    rw [wg_gn hc hg0] at hg
    cases hg
    obtain ⟨hcj, hjl⟩ := hL a j r hr hc hg0
    have hj := rowAt_get hjl
    rw [wo_at' hj hcj] at h2
    cases h2
    rw [wg_S, wg_B, wg_S]
    exact hJ a j r _ hr hg0 hj
theorem wo_wf {gs : List Nat} {rs : List Rw} (h0 : ∃ z, z < rs.length ∧ gs.contains z = false) (hW : ∀ a j, gs.contains a = false → Src rs a j → ∃ z, j ≤ z ∧ z < rs.length ∧ gs.contains z = false) : Wf (wo gs rs) := by
  refine ⟨?_, ?_⟩
  · obtain ⟨z, hz, hc⟩ := h0
    rw [wo_len]
    have := nn_lt hz hc
    omega
  · rintro t j' ⟨r1, h1, hj⟩
    obtain ⟨a, r, hr, hc, rfl, rfl⟩ := wo_from h1
    rw [wo_len]
    rcases hj with ⟨hs, rfl⟩ | hg
    · rw [wg_stays] at hs
      obtain ⟨z, h2, h3, h4⟩ := hW a (a + 1) hc ⟨r, hr, .inl ⟨hs, rfl⟩⟩
      have e1 := nn_lt h3 h4
      have e2 : nn gs (a + 1) ≤ nn gs z := nn_le h2
      rw [nn_left hc] at e2
      omega
    · cases hg0 : gn r a with
      | none => rw [wg_none hg0] at hg; cases hg
      | some j =>
        rw [wg_gn hc hg0] at hg
        cases hg
        obtain ⟨z, h2, h3, h4⟩ := hW a j hc ⟨r, hr, .inr hg0⟩
        have e1 := nn_lt h3 h4
        have e2 : nn gs j ≤ nn gs z := nn_le h2
        omega
theorem wo_all {gs : List Nat} {rs : List Rw} (hG : Gone gs rs) (h : ∀ a, a < rs.length → gs.contains a = false → R rs a) : AllR (wo gs rs) := by
  intro t ht
  obtain ⟨a, r, hr, hc, rfl, _⟩ := wo_from (List.getElem?_eq_getElem ht)
  exact wo_R hG (h a (List.getElem?_eq_some_iff.mp hr).1 hc)
noncomputable def u1 (rs : List Rw) : List Nat := (List.range rs.length).filter fun i => !rb rs i
theorem u1_is {rs : List Rw} {a : Nat} (h : a < rs.length) : (u1 rs).contains a = !rb rs a := by
  rw [Bool.eq_iff_iff, List.contains_iff_mem]
  unfold u1
  rw [List.mem_filter, List.mem_range]
  simp [h]
theorem u1_left {rs : List Rw} {a : Nat} (h : a < rs.length) (hc : (u1 rs).contains a = false) : R rs a := by
  rw [u1_is h] at hc
  exact rb_iff.mp (by simpa using hc)
theorem u1_of {rs : List Rw} (w : Wf rs) {a : Nat} (h : R rs a) : (u1 rs).contains a = false := by
  rw [u1_is (h.lt w), rb_iff.mpr h]; rfl
theorem u1_gone {rs : List Rw} (w : Wf rs) : Gone (u1 rs) rs := fun a h hc => by rw [u1_of w h] at hc; cases hc
theorem ra_ok {rs : List Rw} (w : Wf rs) (hJ : Jok rs) : Wf (wo (u1 rs) rs) ∧ Jok (wo (u1 rs) rs) ∧ AllR (wo (u1 rs) rs) := by
  have hl : ∀ a, (u1 rs).contains a = false → ∀ j, Src rs a j → R rs j := fun a hc j s => .src (u1_left (by obtain ⟨r, hr, _⟩ := s; exact (List.getElem?_eq_some_iff.mp hr).1) hc) s
  refine ⟨wo_wf ⟨0, w.1, u1_of w .zero⟩ fun a j hc s => ⟨j, Nat.le_refl _, w.2 _ _ s, u1_of w (hl a hc j s)⟩, wo_J hJ fun a j r hr hc hg => ⟨u1_of w (hl a hc j ⟨r, hr, .inr hg⟩), w.2 _ _ ⟨r, hr, .inr hg⟩⟩, wo_all (u1_gone w) fun a ha hc => u1_left ha hc⟩
def isZ : Rw → Bool
  | .skip 0 => true
  | _ => false
def z2 (rs : List Rw) : List Nat := (List.range rs.length).filter fun i => isZ (rowAt rs i)
theorem z2_is {rs : List Rw} {a : Nat} {r : Rw} (h : rs[a]? = some r) : (z2 rs).contains a = isZ r := by
  have ha := (List.getElem?_eq_some_iff.mp h).1
  rw [Bool.eq_iff_iff, List.contains_iff_mem]
  unfold z2
  rw [List.mem_filter, List.mem_range, rowAt_of h]
  simp [ha]
theorem isZ_skip {r : Rw} (h : isZ r = true) : r = .skip 0 := by
  cases r with
  | skip k => cases k with
    | zero => rfl
    | succ k => cases h
  | _ => cases h
theorem isZ_S {r : Rw} (h : isS r = false) : isZ r = false := by
  cases r with
  | skip k => cases h
  | _ => rfl
theorem last_back {rs : List Rw} (w : Wf rs) {r : Rw} (h : rs[rs.length - 1]? = some r) : isB r = true := by
  have h0 := w.1
  have no : ∀ j, ¬ Src rs (rs.length - 1) j := fun j s => by
    have h1 := s.lt
    have h2 := w.2 _ _ s
    omega
  cases r with
  | skip k => exact absurd ⟨_, h, .inr rfl⟩ (no _)
  | unl k => exact absurd ⟨_, h, .inr rfl⟩ (no _)
  | oth xs =>
    cases hb : isB (.oth xs) with
    | true => rfl
    | false =>
      refine absurd ⟨_, h, .inl ⟨?_, rfl⟩⟩ (no (rs.length - 1 + 1))
      show (!(("back" : Str) == wdO xs)) = true
      rw [show (("back" : Str) == wdO xs) = false from hb]; rfl
theorem zs_ok {rs : List Rw} (w : Wf rs) (hJ : Jok rs) (hA : AllR rs) : Gone (z2 rs) rs ∧ Wf (wo (z2 rs) rs) ∧ Jok (wo (z2 rs) rs) ∧ AllR (wo (z2 rs) rs) ∧ ∀ t : Nat, (wo (z2 rs) rs)[t]? ≠ some (.skip 0) := by
  have hG : Gone (z2 rs) rs := fun a hR hc => by
    have ha := hR.lt w
    have hr := rowAt_get ha
    rw [z2_is hr] at hc
    rw [hr, isZ_skip hc]
  have hlast : (z2 rs).contains (rs.length - 1) = false := by
    have hr := rowAt_get (show rs.length - 1 < rs.length by have := w.1; omega)
    rw [z2_is hr]
    obtain ⟨xs, e⟩ := isB_oth (last_back w hr)
    rw [e]; rfl
  refine ⟨hG, wo_wf ⟨_, (by have := w.1; omega), hlast⟩ fun a j hc s => ⟨rs.length - 1, (by have := w.2 _ _ s; omega), (by have := w.1; omega), hlast⟩, wo_J hJ fun a j r hr hc hg => ?_, wo_all hG fun a ha _ => hA a ha, fun t ht => ?_⟩
  · have hj := w.2 _ _ ⟨r, hr, .inr hg⟩
    refine ⟨?_, hj⟩
    rw [z2_is (rowAt_get hj)]
    exact isZ_S (hJ a j r _ hr hg (rowAt_get hj)).1
  · obtain ⟨a, r, hr, hc, rfl, e⟩ := wo_from ht
    cases r with
    | oth xs => cases e
    | unl k => cases e
    | skip k =>
      rw [z2_is hr] at hc
      have hk : k ≠ 0 := fun e => by subst e; cases hc
      have hz : nn (z2 rs) (a + 1 + k) - nn (z2 rs) a - 1 = 0 := by
        have := e.symm
        injection this
      have hj := w.2 _ _ ⟨_, hr, .inr rfl⟩
      have ha1 : a + 1 < rs.length := by omega
      have hc1 : (z2 rs).contains (a + 1) = false := by
        rw [z2_is (rowAt_get ha1)]
        have hR := hA _ ha1
        rcases R.iff.mp hR with h | ⟨s, hs, _, hS⟩
        · omega
        · obtain ⟨r', hr', hj'⟩ := hS
          rcases hj' with ⟨hst, h⟩ | h
          · have : s = a := by omega
            subst this
            rw [hr] at hr'
            cases hr'
            cases hst
          · exact isZ_S (hJ s (a + 1) r' _ hr' h (rowAt_get ha1)).1
      have hca : (z2 rs).contains a = false := by rw [z2_is hr]; exact hc
      have e1 := nn_left hca
      have e2 : nn (z2 rs) (a + 1) < nn (z2 rs) (a + 1 + k) := nn_lt (by omega) hc1
      omega
noncomputable def th (rs : List Rw) : List Rw := wo (z2 (wo (u1 (st rs)) (st rs))) (wo (u1 (st rs)) (st rs))
theorem wo_le (gs : List Nat) (rs : List Rw) : (wo gs rs).length ≤ rs.length := by rw [wo_len]; exact nn_bound _ _
theorem th_len (rs : List Rw) : (th rs).length ≤ rs.length := by
  refine Nat.le_trans (wo_le _ _) (Nat.le_trans (wo_le _ _) ?_)
  rw [st_len]; exact Nat.le_refl _
theorem th_ok {rs : List Rw} (w : Wf rs) : Wf (th rs) ∧ Jok (th rs) ∧ AllR (th rs) ∧ (∀ t : Nat, (th rs)[t]? ≠ some (.skip 0)) ∧ ∀ (b : Int) (d : List (List V)) (m : Nat), Run rs 0 b d m → ∃ m', m' ≤ m ∧ Run (th rs) 0 b d m' := by
  have w1 := st_wf w
  obtain ⟨w2, j2, a2⟩ := ra_ok w1 (st_J w)
  obtain ⟨g3, w3, j3, a3, n3⟩ := zs_ok w2 j2 a2
  refine ⟨w3, j3, a3, n3, fun b d m h => ?_⟩
  obtain ⟨m1, l1, h1⟩ := st_run w _ _ _ _ h
  obtain ⟨m2, l2, h2⟩ := wo_run (u1_gone w1) h1 .zero
  rw [nn_zero] at h2
  obtain ⟨m3, l3, h3⟩ := wo_run g3 h2 .zero
  rw [nn_zero] at h3
  exact ⟨m3, by omega, h3⟩
theorem sr_ok {rs : List Rw} (h : ∀ r ∈ rs, Okr r) (w : Wf rs) {i : Nat} {r : Rw} (hr : rs[i]? = some r) : Okr (sr rs r i) := by
  cases r with
  | oth xs => exact h _ (List.mem_of_getElem? hr)
  | unl k => trivial
  | skip k =>
    have hk := w.2 i _ ⟨_, hr, .inr rfl⟩
    obtain ⟨e1, e2, e3⟩ := en_ok w _ _ rfl hk
    show Okr (if isB (rowAt rs (en rs (i + 1 + k))) = true then rowAt rs (en rs (i + 1 + k)) else .skip (en rs (i + 1 + k) - i - 1))
    by_cases c : isB (rowAt rs (en rs (i + 1 + k))) = true
    · rw [if_pos c]; exact h _ (List.mem_of_getElem? (rowAt_get e2))
    · rw [if_neg c]; trivial
theorem st_okr {rs : List Rw} (h : ∀ r ∈ rs, Okr r) (w : Wf rs) : ∀ r ∈ st rs, Okr r := by
  intro r hr
  unfold st at hr
  obtain ⟨i, hi, rfl⟩ := List.mem_map.mp hr
  exact sr_ok h w (rowAt_get (List.mem_range.mp hi))
end JU
set_option maxHeartbeats 4000000
namespace JU
open PySem L2 BV
open CL (one1 two2 three3)
seal PE PT PW PA PS PSs PTs PI PG PGs PO
abbrev s_ends_of_skips : Stmt := top 11
abbrev s_with_goal_at_end : Stmt := top 12
abbrev s_straightened : Stmt := top 10
abbrev s_reached_alone : Stmt := top 8
abbrev s_threaded : Stmt := top 9
theorem sc_ends_of_skips : FnScope ["rows", "ends", "old_goals", "number"] ["rows"] (defScope s_ends_of_skips) := ⟨rfl, rfl, rfl, by decide +kernel, rfl, by decide +kernel, by decide +kernel⟩
theorem sc_with_goal_at_end : FnScope ["rows", "number", "end", "row"] ["rows", "number", "end"] (defScope s_with_goal_at_end) := ⟨rfl, rfl, rfl, by decide +kernel, rfl, by decide +kernel, by decide +kernel⟩
theorem sc_straightened : FnScope ["rows", "ends"] ["rows"] (defScope s_straightened) := ⟨rfl, rfl, rfl, by decide +kernel, rfl, by decide +kernel, by decide +kernel⟩
theorem sc_reached_alone : FnScope ["rows", "is_reached"] ["rows"] (defScope s_reached_alone) := ⟨rfl, rfl, rfl, by decide +kernel, rfl, by decide +kernel, by decide +kernel⟩
theorem sc_threaded : FnScope ["rows", "straight"] ["rows"] (defScope s_threaded) := ⟨rfl, rfl, rfl, by decide +kernel, rfl, by decide +kernel, by decide +kernel⟩
theorem iv_snoc' (gs : List Nat) (i : Nat) : iv gs ++ [V.int (i : Nat)] = iv (gs ++ [i]) := by unfold iv; rw [List.map_append]; rfl
def esL (rs : List Rw) (t : Nat) : List Nat := (List.range rs.length).map fun j => if t ≤ j then en rs j else j
theorem esL_len (rs : List Rw) (t : Nat) : (esL rs t).length = rs.length := by unfold esL; rw [List.length_map, List.length_range]
theorem esL_at {rs : List Rw} {t j : Nat} (h : j < rs.length) : (esL rs t)[j]? = some (if t ≤ j then en rs j else j) := by
  unfold esL
  rw [List.getElem?_map, List.getElem?_range h, Option.map_some]
theorem esL_set {rs : List Rw} {t : Nat} (h : t < rs.length) : (esL rs (t + 1)).set t (en rs t) = esL rs t := by
  refine List.ext_getElem? fun j => ?_
  by_cases hj : j < rs.length
  · by_cases e : t = j
    · subst e
      rw [List.getElem?_set_self (by rw [esL_len]; exact h), esL_at h, if_pos (Nat.le_refl _)]
    · rw [List.getElem?_set_ne e, esL_at hj, esL_at hj]
      by_cases c : t ≤ j
      · rw [if_pos c, if_pos (by omega)]
      · rw [if_neg c, if_neg (by omega)]
  · rw [List.getElem?_eq_none (by rw [List.length_set, esL_len]; omega), List.getElem?_eq_none (by rw [esL_len]; omega)]
theorem esL_same {rs : List Rw} {t : Nat} (h : t < rs.length) (he : en rs t = t) : esL rs (t + 1) = esL rs t := by
  rw [← esL_set h]
  refine List.ext_getElem? fun j => ?_
  by_cases e : t = j
  · subst e
    rw [List.getElem?_set_self (by rw [esL_len]; exact h), esL_at h, if_neg (by omega), he]
  · rw [List.getElem?_set_ne e]
theorem esL_all (rs : List Rw) : esL rs rs.length = List.range rs.length := by
  unfold esL
  refine List.ext_getElem? fun j => ?_
  rw [List.getElem?_map]
  by_cases hj : j < rs.length
  · rw [List.getElem?_range hj, Option.map_some, if_neg (by omega)]
  · rw [List.getElem?_eq_none (by rw [List.length_range]; omega)]; rfl
theorem iv_set (xs : List Nat) (j v : Nat) : (iv xs).set j (.int (v : Nat)) = iv (xs.set j v) := by unfold iv; rw [List.map_set]
section
variable {P : Program} {w : World} {K : PySem.W.Frag} {mg : Str → Option Value} {base : Heap} {f : Addr} {fd : FuncData} {f_goals f_reached f_without f_new_goal f_with_goal f_ends_of_skips f_with_goal_at_end f_straightened f_reached_alone : Addr} {d_goals d_reached d_without d_new_goal d_with_goal d_ends_of_skips d_with_goal_at_end d_straightened d_reached_alone : FuncData}
def stE (p l g : Addr) (o : Option V) : St := [some (.ref p), some (.ref l), some (.ref g), o]
def spEnds : Sp := fun vs H Q _ => ∃ (p : Addr) (rs : List Rw), vs = [.ref p] ∧ RowsAt H p rs ∧ rs.length ≤ 1000 ∧ Wf rs ∧ ∀ l H', Same H H' → H l = none → H' l = some (.lst (iv (esL rs 0))) → Q (.ref l) H'
theorem ok_ends_of_skips (F : Fun K "ends_of_skips" "ends_of_skips" s_ends_of_skips f fd) (B : NoG mg)
    (G_goals : FnOk P w K mg base CX0 1 f_goals d_goals ["rows"] spGoals) (b_goals : Binds K d_goals ["rows"] []) (k_goals : PySem.W.keepIn K (.ref f_goals) = true) (m_goals : mg "goals" = some (.ref f_goals)) :
    FnOk P w K mg base CX0 2 f fd ["rows"] spEnds := by
  refine F.ok sc_ends_of_skips (fun vs H Q E h => ?_) (fun cdv A outer s H vs Q E hr h => ?_)
  · obtain ⟨p, rs, rfl, _⟩ := h
    rfl
  obtain ⟨p, rs, rfl, hR, hn, hW, q⟩ := h
  have nd := sc_ends_of_skips.nd
  have hu := hr.units0
  have h0 := hW.1
  obtain ⟨us, h1, h2, h3, h4⟩ := id hR
  refine ⟨_, (pss_cons (ps_set (i := 1) nd rfl (Or.inl rfl) (pe_listRng rfl B.range_ rfl B.list_ rfl (pa_cons (pe_callB (k_len (K := K)) rfl B.len_ bt_len (pa_cons (pv 0) pa_nil)) pa_nil)))
      (pss_cons (ps_set (i := 2) nd rfl (Or.inl rfl) (pe_call G_goals (hr.mono (by first | decide | omega)) rfl m_goals k_goals b_goals .nil pass0 (pa_cons (pv 0) pa_nil)))
      (pss_cons (ps_cut (ps_for PassesOwn.never rfl (pi_range3 rfl B.range_ (pa_cons (pe_op op_sub (pe_callB (k_len (K := K)) rfl B.len_ bt_len (pa_cons (pv 0) pa_nil)) pe_int) (pa_cons (pe_un un_neg pe_int) (pa_cons (pe_un un_neg pe_int) pa_nil)))) (pg_name (i := 3) nd rfl (Or.inl rfl)) (pss_one (ps_cut (ps_if (pt_cmpR (kEq (K := K) hu) (pe_ix (kIx (K := K) (w := w)) (pe_ix (kIx (K := K) (w := w)) (pv 0) (pv 3) (fun _ _ => rfl)) pe_int (fun _ _ => rfl)) pe_str rfl) (pss_one (ps_asg (pe_ix (kIx (K := K) (w := w)) (pv 1) (pe_ix (kIx (K := K) (w := w)) (pv 2) (pv 3) (fun _ _ => rfl)) (fun _ _ => rfl)) (pg_sub (pv 1) (pv 3) set_list))) pss_nil)))))
      (pss_one (ps_ret (pv 1)))))), ?_⟩
  refine ⟨_, rfl, _, _, rfl, .inr ⟨_, SqT.of h1, rfl⟩, us.length, rfl, by omega, fun l hl => ?_⟩
  have e0 : ((List.range us.length).map fun (i : Nat) => V.int (i : Nat)) = iv (esL rs rs.length) := by rw [esL_all, h2]; rfl
  rw [e0]
  have s1 := same_new hl (.lst (iv (esL rs rs.length)))
  have hl1 : upd H l (.lst (iv (esL rs rs.length))) l = some (.lst (iv (esL rs rs.length))) := upd_same
  generalize upd H l (.lst (iv (esL rs rs.length))) = H1 at s1 hl1 ⊢
  have wl : ∀ (Hx : Hp) (o : HO), Same H Hx → Same H (upd Hx l o) := fun Hx o a x u h => by rw [upd_ne (fun e => by subst e; rw [hl] at h; cases h)]; exact a _ _ h
  refine ⟨_, rfl, p, rs, rfl, hR.same s1, hn, fun g H2 s2 hg hg2 => ?_⟩
  have nlg : g ≠ l := fun e => by subst e; rw [hl1] at hg; cases hg
  refine ⟨fun σ H' => ∃ o, σ = stE p l g o ∧ Same H H' ∧ H' l = some (.lst (iv (esL rs 0))), ?_, ?_⟩
  · refine ⟨_, rfl, _, _, rfl, .inr ⟨_, SqT.of (s2 _ _ (s1 _ _ h1)), rfl⟩, _, _, rfl, rfl, ?_⟩
    refine ⟨_, rfl, _, rfl, _, _, rfl, ⟨by omega, by omega, by decide, by decide⟩, ?_⟩
    have en0 : ((us.length : Int) - 1 - -1).toNat = us.length := by omega
    rw [en0]
    refine for_down (hi := (us.length : Int) - 1) (n := us.length) (fun i σ H' => ∃ o, σ = stE p l g o ∧ Same H H' ∧ H' g = some (.lst (glsV rs)) ∧ H' l = some (.lst (iv (esL rs (us.length - i))))) ?_ ?_ ?_
    · refine ⟨none, rfl, s1.trans s2, hg2, ?_⟩
      rw [Nat.sub_zero, h2]
      exact s2 _ _ hl1
    · rintro i σ H' hi ⟨o, rfl, s', hg', hl'⟩
      obtain ⟨t, ht⟩ : ∃ t : Nat, t = us.length - 1 - i := ⟨_, rfl⟩
      have et : (us.length : Int) - 1 - (i : Int) = (t : Int) := by omega
      rw [et]
      have htn : t < rs.length := by omega
      rw [show us.length - i = t + 1 by omega] at hl'
      rw [show us.length - (i + 1) = t by omega]
      have hrr := rowAt_get htn
      generalize rowAt rs t = r at hrr
      obtain ⟨a, ha, hra⟩ := h4 t r hrr
      have hok : Okr r := h3 r (List.mem_of_getElem? hrr)
      refine ⟨fun σ H' => ∃ o, σ = stE p l g o ∧ Same H H' ∧ H' g = some (.lst (glsV rs)) ∧ H' l = some (.lst (iv (esL rs t))), ?_, fun _ _ h => h⟩
      refine ⟨_, rfl, _, rfl, .inr (.inl ⟨p, us, (t : Nat), _, rfl, rfl, SqT.of (s' _ _ h1), atI_nat ha, .inr (.inl ⟨a, _, 0, _, rfl, rfl, SqT.of (s' _ _ hra), at0 hok, .inl ⟨rfl, _, rfl, ?_⟩⟩)⟩)⟩
      cases r with
      | skip k =>
        have hj := hW.2 t _ ⟨_, hrr, .inr rfl⟩
        refine ifT (by show decide (V.str "skip" = V.str "skip") = true; decide +kernel) ?_
        have hgat : (glsV rs)[t]? = some (.int ((t + 1 + k : Nat) : Nat)) := glsV_at hrr
        refine ⟨_, rfl, _, rfl, _, rfl, .inl ⟨g, _, _, _, rfl, rfl, SqL.of hg', atI_nat hgat, .inl ⟨l, _, _, _, rfl, rfl, SqL.of hl', atI_nat (iv_at (esL_at hj)), ?_⟩⟩⟩
        rw [if_pos (by omega), ← en_skip hrr]
        refine ⟨_, rfl, _, rfl, l, _, _, t, rfl, rfl, hl', ixN_nat (by rw [iv_len, esL_len]; exact htn), _, rfl, wl _ _ s', upd_at hg' nlg, ?_⟩
        rw [upd_same, iv_set, esL_set htn]
      | unl k =>
        refine ifF (by show ¬ decide (V.str "unless" = V.str "skip") = true; decide +kernel) ⟨_, rfl, s', hg', ?_⟩
        rw [← esL_same htn (en_other fun k e => by rw [hrr] at e; cases e)]
        exact hl'
      | oth xs =>
        obtain ⟨w, r, rfl, hne, _⟩ := hok
        refine ifF (by show ¬ decide (V.str w = V.str "skip") = true; rw [decide_eq_false (fun e => hne (by injection e))]; decide) ⟨_, rfl, s', hg', ?_⟩
        rw [← esL_same htn (en_other fun k e => by rw [hrr] at e; cases e)]
        exact hl'
    · rintro σ H' ⟨o, rfl, s', hg', hl'⟩
      rw [Nat.sub_self] at hl'
      exact ⟨o, rfl, s', hl'⟩
  rintro σ H' ⟨o, rfl, s', hl'⟩
  exact ⟨_, rfl, q l _ s' hl hl'⟩
def evOf (rs : List Rw) (r : Rw) (i : Nat) : V := match gn r i with
  | some j => .int (en rs j : Nat)
  | none => .non
def spAtEnd : Sp := fun vs H Q _ => ∃ (p : Addr) (rs : List Rw) (i : Nat) (r : Rw), vs = [.ref p, .int (i : Nat), evOf rs r i] ∧ RowsAt H p rs ∧ rs[i]? = some r ∧ Wf rs ∧ ∀ a H', Same H H' → H' a = some (.tup (rv (sr rs r i))) → Q (.ref a) H'
theorem ok_with_goal_at_end (F : Fun K "with_goal_at_end" "with_goal_at_end" s_with_goal_at_end f fd) (B : NoG mg)
    (G_with_goal : FnOk P w K mg base CX0 1 f_with_goal d_with_goal ["row", "number", "goal"] spWithGoal) (b_with_goal : Binds K d_with_goal ["row", "number", "goal"] []) (k_with_goal : PySem.W.keepIn K (.ref f_with_goal) = true) (m_with_goal : mg "with_goal" = some (.ref f_with_goal)) :
    FnOk P w K mg base CX0 2 f fd ["rows", "number", "end"] spAtEnd := by
  refine F.ok sc_with_goal_at_end (fun vs H Q E h => ?_) (fun cdv A outer s H vs Q E hr h => ?_)
  · obtain ⟨p, rs, i, r, rfl, _⟩ := h
    rfl
  obtain ⟨p, rs, i, r, rfl, hR, hi, hW, q⟩ := h
  have nd := sc_with_goal_at_end.nd
  have hu := hr.units0
  obtain ⟨us, h1, h2, h3, h4⟩ := id hR
  obtain ⟨a, ha, hra⟩ := h4 i r hi
  have hok : Okr r := h3 r (List.mem_of_getElem? hi)
  refine ⟨_, (pss_cons (ps_set (i := 3) nd rfl (Or.inl rfl) (pe_ix (kIx (K := K) (w := w)) (pv 0) (pv 1) (fun _ _ => rfl)))
      (pss_cons (ps_cut (ps_if (PW.pt (pw_and (pt_cmpR (kEq (K := K) hu) (pe_ix (kIx (K := K) (w := w)) (pv 3) pe_int (fun _ _ => rfl)) pe_str rfl) (pw_and1 (pt_cmpR (kEq (K := K) hu) (pe_ix (kIx (K := K) (w := w)) (pe_ix (kIx (K := K) (w := w)) (pv 0) (pv 2) (fun _ _ => rfl)) pe_int (fun _ _ => rfl)) pe_str rfl)))) (pss_one (ps_ret (pe_ix (kIx (K := K) (w := w)) (pv 0) (pv 2) (fun _ _ => rfl)))) pss_nil))
      (pss_one (ps_ret (pe_call G_with_goal (hr.mono (by first | decide | omega)) rfl m_with_goal k_with_goal b_with_goal .nil pass0 (pa_cons (pv 3) (pa_cons (pv 1) (pa_cons (pv 2) pa_nil)))))))), ?_⟩
  refine ⟨_, rfl, _, rfl, .inr (.inl ⟨p, us, (i : Nat), _, rfl, rfl, SqT.of h1, atI_nat ha, ?_⟩)⟩
  refine ⟨fun σ H' => σ = [some (.ref p), some (.int (i : Nat)), some (evOf rs r i), some (.ref a)] ∧ H' = H ∧ (∀ k, r = .skip k → isB (rowAt rs (en rs (i + 1 + k))) = false), ?_, ?_⟩
  · refine ⟨_, rfl, .inr (.inl ⟨a, _, 0, _, rfl, rfl, SqT.of hra, at0 hok, .inl ⟨rfl, _, rfl, ?_⟩⟩)⟩
    cases r with
    | unl k => exact ifF (by show ¬ decide (V.str "unless" = V.str "skip") = true; decide +kernel) (ifF Bool.false_ne_true ⟨rfl, rfl, fun k e => by cases e⟩)
    | oth xs =>
      obtain ⟨w, r, rfl, hne, _⟩ := id hok
      exact ifF (by show ¬ decide (V.str w = V.str "skip") = true; rw [decide_eq_false (fun e => hne (by injection e))]; decide) (ifF Bool.false_ne_true ⟨rfl, rfl, fun k e => by cases e⟩)
    | skip k =>
      have hj := hW.2 i _ ⟨_, hi, .inr rfl⟩
      obtain ⟨e1, e2, e3⟩ := en_ok hW _ _ rfl hj
      have hx := rowAt_get e2
      have hsr : ∀ x, rowAt rs (en rs (i + 1 + k)) = x → sr rs (.skip k) i = if isB x = true then x else .skip (en rs (i + 1 + k) - i - 1) := fun x e => by subst e; rfl
      generalize hxe : rowAt rs (en rs (i + 1 + k)) = x at hx hsr ⊢
      obtain ⟨b, hb, hrb⟩ := h4 _ x hx
      have hokb : Okr x := h3 x (List.mem_of_getElem? hx)
      refine ifT (by show decide (V.str "skip" = V.str "skip") = true; decide +kernel) ?_
      refine ⟨_, rfl, _, rfl, .inr (.inl ⟨p, us, (en rs (i + 1 + k) : Nat), _, rfl, rfl, SqT.of h1, atI_nat hb, .inr (.inl ⟨b, _, 0, _, rfl, rfl, SqT.of hrb, at0 hokb, .inl ⟨rfl, _, rfl, ?_⟩⟩)⟩)⟩
      have eb : decide (V.str (wd x) = V.str "back") = isB x := by
        cases x with
        | skip k' => show decide (V.str "skip" = V.str "back") = false; decide +kernel
        | unl k' => show decide (V.str "unless" = V.str "back") = false; decide +kernel
        | oth xs =>
          show decide (V.str (wdO xs) = V.str "back") = (("back" : Str) == wdO xs)
          by_cases c : ("back" : Str) = wdO xs
          · rw [← c]; simp
          · rw [beq_false_of_ne c]; exact decide_eq_false fun e => c (by injection e with e; exact e.symm)
      rw [eb]
      cases hB : isB x with
      | true =>
        refine ifT rfl ⟨_, rfl, _, rfl, .inr (.inl ⟨p, us, (en rs (i + 1 + k) : Nat), _, rfl, rfl, SqT.of h1, atI_nat hb, q b H (Same.refl _) ?_⟩)⟩
        rw [hsr x rfl, hB, if_pos rfl]
        exact hrb
      | false => exact ifF Bool.false_ne_true ⟨rfl, rfl, fun k' e => by cases e; rw [hxe]; exact hB⟩
  rintro σ H' ⟨rfl, rfl, hnb⟩
  refine ⟨_, rfl, _, rfl, _, rfl, a, _, _, r, rfl, hra, hok, ?_⟩
  cases r with
  | oth xs => exact .inl ⟨rfl, q a _ (Same.refl _) hra⟩
  | unl k =>
    have hj := hW.2 i _ ⟨_, hi, .inr rfl⟩
    obtain ⟨e1, e2, e3⟩ := en_ok hW _ _ rfl hj
    refine .inr ⟨_, rfl, fun b hb => q b _ (same_new hb _) ?_⟩
    rw [upd_same]
    show some (HO.tup [.str "unless", .int ((en rs (i + 1 + k) : Nat) - (i : Nat) - 1)]) = some (HO.tup [.str "unless", .int ((en rs (i + 1 + k) - i - 1 : Nat) : Int)])
    rw [show ((en rs (i + 1 + k) : Nat) : Int) - (i : Nat) - 1 = ((en rs (i + 1 + k) - i - 1 : Nat) : Int) by omega]
  | skip k =>
    have hj := hW.2 i _ ⟨_, hi, .inr rfl⟩
    obtain ⟨e1, e2, e3⟩ := en_ok hW _ _ rfl hj
    refine .inr ⟨_, rfl, fun b hb => q b _ (same_new hb _) ?_⟩
    rw [upd_same]
    have : sr rs (.skip k) i = .skip (en rs (i + 1 + k) - i - 1) := by
      show (if isB (rowAt rs (en rs (i + 1 + k))) = true then _ else _) = _
      rw [hnb k rfl, if_neg Bool.false_ne_true]
    rw [this]
    show some (HO.tup [.str "skip", .int ((en rs (i + 1 + k) : Nat) - (i : Nat) - 1)]) = some (HO.tup [.str "skip", .int ((en rs (i + 1 + k) - i - 1 : Nat) : Int)])
    rw [show ((en rs (i + 1 + k) : Nat) : Int) - (i : Nat) - 1 = ((en rs (i + 1 + k) - i - 1 : Nat) : Int) by omega]
end
end JU
set_option maxHeartbeats 4000000
namespace JU
open PySem L2 BV
open CL (one1 two2 three3)
seal PE PT PW PA PS PSs PTs PI PG PGs PO
theorem eqZ {r : Rw} (h : Okr r) : eqVs (rv r) [.str "skip", .int 0] = isZ r := by
  cases r with
  | skip k =>
    show ((eqV (.str "skip") (.str "skip") && (eqV (.int (k : Nat)) (.int 0) && true)) && (2 == 2)) = _
    cases k with
    | zero => decide +kernel
    | succ k =>
      have : eqV (.int ((k + 1 : Nat) : Int)) (.int 0) = false := by
        show (((k + 1 : Nat) : Int) == 0) = false
        exact beq_false_of_ne (by omega)
      rw [this, Bool.false_and, Bool.and_false]; rfl
  | unl k =>
    show ((eqV (.str "unless") (.str "skip") && (eqV (.int (k : Nat)) (.int 0) && true)) && (2 == 2)) = false
    rw [show eqV (.str "unless") (.str "skip") = false by decide +kernel]; rfl
  | oth xs =>
    obtain ⟨w, r, rfl, hne, _⟩ := h
    show eqVs (.str w :: r) [.str "skip", .int 0] = false
    have h1 : eqV (.str w) (.str "skip") = false := by
      show (w == "skip") = false
      exact beq_false_of_ne hne
    unfold eqVs
    rw [Bool.and_eq_false_iff]
    refine .inl ?_
    rw [Bool.eq_false_iff]
    intro z
    have := List.all_eq_true.mp z 0 (List.mem_range.mpr (by simp only [List.length_cons, List.length_nil]; omega))
    rw [show eqV (((.str w :: r : List V)[0]?).getD .non) (([.str "skip", .int 0] : List V)[0]?.getD .non) = eqV (.str w) (.str "skip") from rfl, h1] at this
    cases this
theorem rv_flat {r : Rw} (h : Okr r) : (rv r).all flatV = true := by
  cases r with
  | oth xs =>
    obtain ⟨w, r, rfl, _, _, hr, _⟩ := h
    show (flatV (.str w) && r.all flatV) = true
    rw [Bool.and_eq_true]
    refine ⟨rfl, List.all_eq_true.mpr fun x hx => ?_⟩
    have := List.all_eq_true.mp hr x hx
    cases x <;> first | rfl | (cases this; done)
  | skip k => rfl
  | unl k => rfl
theorem rf_is {rs : List Rw} {j : Nat} (h : j < rs.length) : ((List.range rs.length).filter (rb rs)).contains j = rb rs j := by
  rw [Bool.eq_iff_iff, List.contains_iff_mem, List.mem_filter, List.mem_range]
  simp [h]
section
variable {P : Program} {w : World} {K : PySem.W.Frag} {mg : Str → Option Value} {base : Heap} {f : Addr} {fd : FuncData} {f_goals f_reached f_without f_new_goal f_with_goal f_ends_of_skips f_with_goal_at_end f_straightened f_reached_alone : Addr} {d_goals d_reached d_without d_new_goal d_with_goal d_ends_of_skips d_with_goal_at_end d_straightened d_reached_alone : FuncData}
def spStraight : Sp := fun vs H Q _ => ∃ (p : Addr) (rs : List Rw), vs = [.ref p] ∧ RowsAt H p rs ∧ rs.length ≤ 1000 ∧ Wf rs ∧ ∀ p' H', Same H H' → H p' = none → RowsAt H' p' (st rs) → Q (.ref p') H'
theorem ok_straightened (F : Fun K "straightened" "straightened" s_straightened f fd) (B : NoG mg)
    (G_goals : FnOk P w K mg base CX0 1 f_goals d_goals ["rows"] spGoals) (b_goals : Binds K d_goals ["rows"] []) (k_goals : PySem.W.keepIn K (.ref f_goals) = true) (m_goals : mg "goals" = some (.ref f_goals))
    (G_new_goal : FnOk P w K mg base CX0 1 f_new_goal d_new_goal ["goal", "new_numbers"] (spNewGoal K)) (b_new_goal : Binds K d_new_goal ["goal", "new_numbers"] []) (k_new_goal : PySem.W.keepIn K (.ref f_new_goal) = true) (m_new_goal : mg "new_goal" = some (.ref f_new_goal))
    (G_ends_of_skips : FnOk P w K mg base CX0 2 f_ends_of_skips d_ends_of_skips ["rows"] spEnds) (b_ends_of_skips : Binds K d_ends_of_skips ["rows"] []) (k_ends_of_skips : PySem.W.keepIn K (.ref f_ends_of_skips) = true) (m_ends_of_skips : mg "ends_of_skips" = some (.ref f_ends_of_skips))
    (G_with_goal_at_end : FnOk P w K mg base CX0 2 f_with_goal_at_end d_with_goal_at_end ["rows", "number", "end"] spAtEnd) (b_with_goal_at_end : Binds K d_with_goal_at_end ["rows", "number", "end"] []) (k_with_goal_at_end : PySem.W.keepIn K (.ref f_with_goal_at_end) = true) (m_with_goal_at_end : mg "with_goal_at_end" = some (.ref f_with_goal_at_end)) :
    FnOk P w K mg base CX0 3 f fd ["rows"] spStraight := by
  refine F.ok sc_straightened (fun vs H Q E h => ?_) (fun cdv A outer s H vs Q E hr h => ?_)
  · obtain ⟨p, rs, rfl, _⟩ := h
    rfl
  obtain ⟨p, rs, rfl, hR, hn, hW, q⟩ := h
  have nd := sc_straightened.nd
  have zz : (4000 : Nat) ≤ sizeLine := by decide
  refine ⟨_, (pss_cons (ps_set (i := 1) nd rfl (Or.inr rfl) (pe_call G_ends_of_skips (hr.mono (by first | decide | omega)) rfl m_ends_of_skips k_ends_of_skips b_ends_of_skips .nil pass0 (pa_cons (pv 0) pa_nil)))
      (pss_one (ps_ret (pe_callTy (k_tuple (K := K)) rfl B.tuple_ bt_tuple (pa_cons (pe_comp2 (CompScope2.mk (N := ["rows", "ends"]) (sc := defScope s_straightened) (caps := [0, 1]) (ns := ["rows", "ends"]) (by decide +kernel) rfl (by decide +kernel) rfl rfl (by decide +kernel) rfl (by decide +kernel) (by decide +kernel)) rfl rfl rfl (pi_enumX false (K := K) rfl B.enumerate_ (pa_cons (pe_call G_goals (hr.mono (by first | decide | omega)) rfl m_goals k_goals b_goals .nil pass0 (pa_cons (pv 0) pa_nil)) pa_nil)) (fun _ _ _ _ _ => pts_nil) (fun _ _ _ _ _ => (pe_call G_with_goal_at_end (hr.mono (by first | decide | omega)) rfl m_with_goal_at_end k_with_goal_at_end b_with_goal_at_end .nil pass0 (pa_cons (pv 2) (pa_cons (pv 0) (pa_cons (pe_call G_new_goal (hr.mono (by first | decide | omega)) rfl m_new_goal k_new_goal b_new_goal .nil pass0 (pa_cons (pv 1) (pa_cons (pv 3) pa_nil))) pa_nil)))))) pa_nil))))), ?_⟩
  refine ⟨_, rfl, p, rs, rfl, hR, hn, hW, fun l H1 s1 hl hl1 => ?_⟩
  refine ⟨_, rfl, p, rs, rfl, hR.same s1, hn, fun g H2 s2 hg hg2 => ⟨g, glsV rs, rfl, SqL.of hg2, comp_enumX (xs := glsV rs) (fun i zs H' => zs.length = i ∧ Same H2 H' ∧ ∀ (t : Nat) (r : Rw), t < i → rs[t]? = some r → ∃ a : Addr, zs[t]? = some (V.ref a) ∧ H' a = some (.tup (rv (sr rs r t)))) ⟨rfl, Same.refl _, fun t r ht => absurd ht (Nat.not_lt_zero _)⟩ ?_ ?_ ?_⟩⟩
  · rintro i zs H' hi ⟨rfl, s3, _⟩
    rw [glsV_len] at hi
    exact ⟨SqL.of (s3 _ _ hg2), by omega⟩
  · rintro i x zs H' T hx ⟨rfl, s3, hz⟩ hT
    have hi : zs.length < rs.length := by rw [← glsV_len]; exact (List.getElem?_eq_some_iff.mp hx).1
    obtain ⟨r, hrr⟩ : ∃ r, rs[zs.length]? = some r := ⟨_, List.getElem?_eq_getElem hi⟩
    have ex : x = gl r zs.length := by rw [glsV_at hrr] at hx; exact (Option.some.inj hx).symm
    subst ex
    have s4 := s3.trans (same_new hT (.tup [.int (zs.length : Nat), gl r zs.length]))
    have hz4 : ∀ (t : Nat) (r' : Rw), t < zs.length → rs[t]? = some r' → ∃ a : Addr, zs[t]? = some (V.ref a) ∧ upd H' T (HO.tup [.int (zs.length : Nat), gl r zs.length]) a = some (HO.tup (rv (sr rs r' t))) := by
      intro t r' ht hr'
      obtain ⟨a, e1, e2⟩ := hz t r' ht hr'
      exact ⟨a, e1, (same_new hT _) _ _ e2⟩
    generalize upd H' T (.tup [.int (zs.length : Nat), gl r zs.length]) = H4 at s4 hz4 ⊢
    have hl4 := s4 _ _ (s2 _ _ hl1)
    have hR4 := (hR.same s1).same (s2.trans s4)
    have fin : ∀ a H5, Same H4 H5 → H5 a = some (.tup (rv (sr rs r zs.length))) → (zs ++ [V.ref a]).length = zs.length + 1 ∧ Same H2 H5 ∧ ∀ (t : Nat) (r : Rw), t < zs.length + 1 → rs[t]? = some r → ∃ a' : Addr, (zs ++ [V.ref a])[t]? = some (V.ref a') ∧ H5 a' = some (.tup (rv (sr rs r t))) := fun a H5 s5 ha5 => by
      refine ⟨by rw [List.length_append]; rfl, s4.trans s5, fun t r' ht hr' => ?_⟩
      by_cases c : t < zs.length
      · obtain ⟨a', e1, e2⟩ := hz4 t r' c hr'
        exact ⟨a', by rw [List.getElem?_append_left c]; exact e1, s5 _ _ e2⟩
      · have e : t = zs.length := by omega
        subst e
        rw [hrr] at hr'
        cases hr'
        exact ⟨a, by rw [List.getElem?_append_right (Nat.le_refl _), Nat.sub_self]; rfl, ha5⟩
    refine noTest ⟨_, rfl, _, rfl, _, rfl, _, rfl, gl r zs.length, l, _, rfl, SqL.of hl4, ?_⟩
    cases hgn : gn r zs.length with
    | none => exact .inl ⟨gl_non.mpr hgn, p, rs, zs.length, r, by unfold evOf; rw [hgn]; rfl, hR4, hrr, hW, fun a H5 s5 ha5 => fin a H5 s5 ha5⟩
    | some j =>
      have hj := hW.2 _ _ ⟨r, hrr, .inr hgn⟩
      have ev : (iv (esL rs 0))[j]? = some (.int (en rs j : Nat)) := by rw [iv_at (esL_at hj), if_pos (Nat.zero_le _)]
      refine .inr ⟨j, _, by unfold gl; rw [hgn], ev, p, rs, zs.length, r, by unfold evOf; rw [hgn]; rfl, hR4, hrr, hW, fun a H5 s5 ha5 => fin a H5 s5 ha5⟩
  · rintro zs H' ⟨hzl, s3, hz⟩ D hD
    rw [glsV_len] at hzl hz
    refine ⟨D, zs, rfl, .inl ⟨SqL.of upd_same, fun t ht => ?_⟩⟩
    have s4 := s3.trans ((same_new hD (.lst zs)).trans (same_new ht (.tup zs)))
    obtain ⟨us, h1, h2, h3, h4⟩ := id hR
    refine q t _ (s1.trans (s2.trans s4)) (s1.free (s2.free (s3.free ((same_new hD (.lst zs)).free ht)))) ⟨zs, upd_same, by rw [hzl, st_len], st_okr h3 hW, fun t' r' ht' => ?_⟩
    have hlt : t' < rs.length := by rw [← st_len]; exact (List.getElem?_eq_some_iff.mp ht').1
    rw [st_at (rowAt_get hlt)] at ht'
    cases ht'
    obtain ⟨a, e1, e2⟩ := hz t' _ hlt (rowAt_get hlt)
    exact ⟨a, e1, (same_new ht _) _ _ ((same_new hD _) _ _ e2)⟩
def spAlone : Sp := fun vs H Q _ => ∃ (p : Addr) (rs : List Rw), vs = [.ref p] ∧ RowsAt H p rs ∧ rs.length ≤ 1000 ∧ Wf rs ∧ ∀ p' H', Same H H' → H p' = none → RowsAt H' p' (wo (u1 rs) rs) → Q (.ref p') H'
theorem ok_reached_alone (F : Fun K "reached_alone" "reached_alone" s_reached_alone f fd) (B : NoG mg)
    (G_reached : FnOk P w K mg base CX0 2 f_reached d_reached ["rows"] spReached) (b_reached : Binds K d_reached ["rows"] []) (k_reached : PySem.W.keepIn K (.ref f_reached) = true) (m_reached : mg "reached" = some (.ref f_reached))
    (G_without : FnOk P w K mg base CX0 2 f_without d_without ["rows", "gone"] (spWithout K)) (b_without : Binds K d_without ["rows", "gone"] []) (k_without : PySem.W.keepIn K (.ref f_without) = true) (m_without : mg "without" = some (.ref f_without)) :
    FnOk P w K mg base CX0 3 f fd ["rows"] spAlone := by
  refine F.ok sc_reached_alone (fun vs H Q E h => ?_) (fun cdv A outer s H vs Q E hr h => ?_)
  · obtain ⟨p, rs, rfl, _⟩ := h
    rfl
  obtain ⟨p, rs, rfl, hR, hn, hW, q⟩ := h
  have nd := sc_reached_alone.nd
  have zz : (4000 : Nat) ≤ sizeLine := by decide
  have hgl : ((List.range rs.length).filter (rb rs)).length ≤ rs.length := Nat.le_trans (List.length_filter_le _ _) (by rw [List.length_range]; exact Nat.le_refl _)
  refine ⟨_, (pss_cons (ps_set (i := 1) nd rfl (Or.inr rfl) (pe_callTy (k_dictP (K := K) rfl) rfl B.dict_ bt_dict (pa_cons (pe_comp (CompScope.mk (N := ["rows", "is_reached"]) (sc := defScope s_reached_alone) (caps := []) (ns := []) (by decide +kernel) rfl (by decide +kernel) rfl (by decide +kernel) rfl (by decide +kernel) (by decide +kernel)) rfl rfl rfl (k_ilist (K := K) (pe_call G_reached (hr.mono (by first | decide | omega)) rfl m_reached k_reached b_reached .nil pass0 (pa_cons (pv 0) pa_nil))) (fun _ _ _ _ _ => pts_nil) (fun _ _ _ _ _ => (pe_tup (pa_cons (pv 0) (pa_cons pe_bl pa_nil))))) pa_nil)))
      (pss_one (ps_ret (pe_call G_without (hr.mono (by first | decide | omega)) rfl m_without k_without b_without .nil pass0 (pa_cons (pv 0) (pa_cons (pe_comp (CompScope.mk (N := ["rows", "is_reached"]) (sc := defScope s_reached_alone) (caps := [1]) (ns := ["is_reached"]) (by decide +kernel) rfl (by decide +kernel) rfl (by decide +kernel) rfl (by decide +kernel) (by decide +kernel)) rfl rfl rfl (pi_range1 rfl B.range_ (pa_cons (pe_callB (k_len (K := K)) rfl B.len_ bt_len (pa_cons (pv 0) pa_nil)) pa_nil)) (fun _ _ _ _ _ => (pts_one (pt_cmpR (kNotInD hr.units) (pv 0) (pv 1) rfl))) (fun _ _ _ _ _ => (pv 0))) pa_nil)))))), ?_⟩
  refine ⟨_, rfl, p, rs, rfl, hR, hn, fun l H1 s1 hl hl1 => ?_⟩
  have hl1' : H1 l = some (.lst (iv ((List.range rs.length).filter (rb rs)))) := hl1
  have hcon : ∀ j, j < rs.length → ((List.range rs.length).filter (rb rs)).contains j = rb rs j := fun j hj => rf_is hj
  generalize (List.range rs.length).filter (rb rs) = gs at hgl hl1' hcon
  refine ⟨l, rfl, ⟨_, SqL.of hl1'⟩, comp_list (xs := iv gs) (fun i zs H' => Same H1 H' ∧ PrV H' zs (gd (gs.take i)) ∧ zs.length = i) ⟨Same.refl _, rfl, rfl⟩ ?_ ?_ ?_⟩
  · rintro i zs H' hi ⟨s2, _, rfl⟩
    rw [iv_len] at hi
    exact ⟨SqL.of (s2 _ _ hl1'), by omega⟩
  · rintro i x zs H' hx ⟨s2, hP, rfl⟩
    have hi : zs.length < gs.length := by rw [← iv_len]; exact (List.getElem?_eq_some_iff.mp hx).1
    have ex : x = .int (gs[zs.length] : Nat) := by
      rw [iv_at (List.getElem?_eq_getElem hi)] at hx; exact (Option.some.inj hx).symm
    subst ex
    refine noTest ⟨_, rfl, two2, fun t ht => ?_⟩
    have st := same_new ht (.tup [.int (gs[zs.length] : Nat), .bl true])
    refine ⟨s2.trans st, ?_, by rw [List.length_append]; rfl⟩
    have e : gd (gs.take (zs.length + 1)) = gd (gs.take zs.length) ++ [((Sum.inl (gs[zs.length] : Int) : Key), V.bl true)] := by
      unfold gd
      rw [List.take_succ, List.map_append, List.getElem?_eq_getElem hi]; rfl
    rw [e]
    exact prV_snoc (k := .inl (gs[zs.length] : Int)) upd_same (prV_same st hP)
  rintro zs H2 ⟨s2, hP, hzl⟩ D hD
  rw [iv_len, List.take_length] at hP
  have sD := same_new hD (.lst zs)
  refine ⟨D, zs, gd gs, rfl, SqL.of upd_same, prV_same sD hP, fun d hd => ?_⟩
  have s3 := s1.trans (s2.trans (sD.trans (same_new hd (.dK (mergeK [] (gd gs))))))
  have hd3 : upd (upd H2 D (.lst zs)) d (.dK (mergeK [] (gd gs))) d = some (.dK (mergeK [] (gd gs))) := upd_same
  generalize upd (upd H2 D (.lst zs)) d (.dK (mergeK [] (gd gs))) = H3 at s3 hd3 ⊢
  obtain ⟨us, h1, h2, h3, h4⟩ := id hR
  refine ⟨_, rfl, _, rfl, _, _, rfl, .inr ⟨_, SqT.of (s3 _ _ h1), rfl⟩, _, rfl, by omega, by omega, comp_range (n := us.length) (fun i zs H' => H3 = H' ∧ zs = iv ((List.range i).filter fun j => !rb rs j)) ⟨rfl, rfl⟩ ?_ ?_ ?_⟩
  · rintro i zs H' hi ⟨_, rfl⟩
    rw [iv_len]
    refine Nat.le_trans (List.length_filter_le _ _) ?_
    rw [List.length_range]; omega
  · rintro i zs H' hi ⟨rfl, rfl⟩
    rw [Int.zero_add]
    refine ⟨_, rfl, _, rfl, d, _, rfl, DGet.k (k := .inl (i : Int)) hd3, _, rfl, ?_⟩
    rw [gd_here, hcon i (by omega), List.range_succ, List.filter_append]
    cases hb : rb rs i
    · refine ifT rfl ⟨_, rfl, rfl, ?_⟩
      rw [List.filter_cons_of_pos (p := fun j => !rb rs j) (a := i) (by rw [hb]; rfl), List.filter_nil, iv_snoc']
    · refine ifF (by decide) ⟨rfl, ?_⟩
      rw [List.filter_cons_of_neg (p := fun j => !rb rs j) (a := i) (by rw [hb]; decide), List.filter_nil, List.append_nil]
  rintro zs' H' ⟨rfl, rfl⟩ g hg
  rw [h2]
  have hg4 : upd H3 g (.lst (iv (u1 rs))) g = some (.lst (iv (u1 rs))) := upd_same
  have s4 := s3.trans (same_new hg (.lst (iv (u1 rs))))
  have hul : (u1 rs).length ≤ 1000 := by
    unfold u1
    refine Nat.le_trans (List.length_filter_le _ _) ?_
    rw [List.length_range]; omega
  refine ⟨p, g, rs, u1 rs, rfl, hR.same s4, hn, SqL.of hg4, hul, fun i j r hr' hgn => hW.2 _ _ ⟨r, hr', .inr hgn⟩, fun p' H' s' hp' hR' => q p' H' (s4.trans s') (s4.free hp') hR'⟩
def spThread : Sp := fun vs H Q _ => ∃ (p : Addr) (rs : List Rw), vs = [.ref p] ∧ RowsAt H p rs ∧ rs.length ≤ 1000 ∧ Wf rs ∧ ∀ p' H', Same H H' → H p' = none → RowsAt H' p' (th rs) → Q (.ref p') H'
theorem ok_threaded (F : Fun K "threaded" "threaded" s_threaded f fd) (B : NoG mg)
    (G_straightened : FnOk P w K mg base CX0 3 f_straightened d_straightened ["rows"] spStraight) (b_straightened : Binds K d_straightened ["rows"] []) (k_straightened : PySem.W.keepIn K (.ref f_straightened) = true) (m_straightened : mg "straightened" = some (.ref f_straightened))
    (G_reached_alone : FnOk P w K mg base CX0 3 f_reached_alone d_reached_alone ["rows"] spAlone) (b_reached_alone : Binds K d_reached_alone ["rows"] []) (k_reached_alone : PySem.W.keepIn K (.ref f_reached_alone) = true) (m_reached_alone : mg "reached_alone" = some (.ref f_reached_alone))
    (G_without : FnOk P w K mg base CX0 2 f_without d_without ["rows", "gone"] (spWithout K)) (b_without : Binds K d_without ["rows", "gone"] []) (k_without : PySem.W.keepIn K (.ref f_without) = true) (m_without : mg "without" = some (.ref f_without)) :
    FnOk P w K mg base CX0 4 f fd ["rows"] spThread := by
  refine F.ok sc_threaded (fun vs H Q E h => ?_) (fun cdv A outer s H vs Q E hr h => ?_)
  · obtain ⟨p, rs, rfl, _⟩ := h
    rfl
  obtain ⟨p, rs, rfl, hR, hn, hW, q⟩ := h
  have nd := sc_threaded.nd
  have hu := hr.units0
  have zz : (4000 : Nat) ≤ sizeLine := by decide
  refine ⟨_, (pss_cons (ps_set (i := 1) nd rfl (Or.inl rfl) (pe_call G_reached_alone (hr.mono (by first | decide | omega)) rfl m_reached_alone k_reached_alone b_reached_alone .nil pass0 (pa_cons (pe_call G_straightened (hr.mono (by first | decide | omega)) rfl m_straightened k_straightened b_straightened .nil pass0 (pa_cons (pv 0) pa_nil)) pa_nil)))
      (pss_one (ps_ret (pe_call G_without (hr.mono (by first | decide | omega)) rfl m_without k_without b_without .nil pass0 (pa_cons (pv 1) (pa_cons (pe_comp2 (CompScope2.mk (N := ["rows", "straight"]) (sc := defScope s_threaded) (caps := []) (ns := []) (by decide +kernel) rfl (by decide +kernel) rfl rfl (by decide +kernel) rfl (by decide +kernel) (by decide +kernel)) rfl rfl rfl (pi_enumX true (K := K) rfl B.enumerate_ (pa_cons (pv 1) pa_nil)) (fun _ _ _ _ _ => (pts_one (pt_cmpR (kEqF (K := K) hu) (pv 1) (pe_tup (pa_cons pe_str (pa_cons pe_int pa_nil))) rfl))) (fun _ _ _ _ _ => (pv 0))) pa_nil)))))), ?_⟩
  refine ⟨_, rfl, p, rs, rfl, hR, hn, hW, fun p1 H1 s1 hp1 hR1 => ?_⟩
  have w1 := st_wf hW
  refine ⟨p1, st rs, rfl, hR1, by rw [st_len]; exact hn, w1, fun p2 H2 s2 hp2 hR2 => ?_⟩
  obtain ⟨w2, j2, a2⟩ := ra_ok w1 (st_J hW)
  have hl2 : (wo (u1 (st rs)) (st rs)).length ≤ 1000 := Nat.le_trans (wo_le _ _) (by rw [st_len]; exact hn)
  have q2 : ∀ p' H', Same H H' → H p' = none → RowsAt H' p' (wo (z2 (wo (u1 (st rs)) (st rs))) (wo (u1 (st rs)) (st rs))) → Q (.ref p') H' := q
  generalize wo (u1 (st rs)) (st rs) = rt at w2 hl2 hR2 q2
  obtain ⟨us, h1, h2, h3, h4⟩ := id hR2
  have s12 := s1.trans s2
  refine ⟨_, rfl, _, rfl, p2, us, rfl, SqT.of h1, comp_enumX (xs := us) (fun i zs H' => Same H2 H' ∧ zs = iv ((List.range i).filter fun j => isZ (rowAt rt j))) ⟨Same.refl _, rfl⟩ ?_ ?_ ?_⟩
  · rintro i zs H' hi ⟨s3, rfl⟩
    refine ⟨SqT.of (s3 _ _ h1), ?_⟩
    rw [iv_len]
    refine Nat.le_trans (List.length_filter_le _ _) ?_
    rw [List.length_range]; omega
  · rintro i x zs H' T hx ⟨s3, rfl⟩ hT
    have hi : i < rt.length := by rw [← h2]; exact (List.getElem?_eq_some_iff.mp hx).1
    have hrr := rowAt_get hi
    obtain ⟨a, ha, hra⟩ := h4 i _ hrr
    have hok : Okr (rowAt rt i) := h3 _ (List.mem_of_getElem? hrr)
    rw [hx] at ha
    cases ha
    have s4 := s3.trans (same_new hT (.tup [.int (i : Nat), .ref a]))
    generalize upd H' T (.tup [.int (i : Nat), .ref a]) = H4 at s4 ⊢
    refine ⟨_, rfl, two2, fun tt htt => ?_⟩
    have s5 := s4.trans (same_new htt (.tup [.str "skip", .int 0]))
    refine ⟨a, tt, rv (rowAt rt i), [.str "skip", .int 0], rfl, rfl, SqT.of (s5 _ _ hra), SqT.of upd_same, rv_flat hok, rfl, _, rfl, ?_⟩
    show if eqVs (rv (rowAt rt i)) [.str "skip", .int 0] = true then _ else _
    rw [eqZ hok, List.range_succ, List.filter_append]
    cases hz : isZ (rowAt rt i)
    · refine ifF Bool.false_ne_true ⟨s5, ?_⟩
      rw [List.filter_cons_of_neg (p := fun j => isZ (rowAt rt j)) (a := i) (by rw [hz]; decide), List.filter_nil, List.append_nil]
    · refine ifT rfl ⟨_, rfl, s5, ?_⟩
      rw [List.filter_cons_of_pos (p := fun j => isZ (rowAt rt j)) (a := i) hz, List.filter_nil, iv_snoc']
  rintro zs H3 ⟨s3, rfl⟩ g hg
  rw [h2]
  have hg4 : upd H3 g (.lst (iv (z2 rt))) g = some (.lst (iv (z2 rt))) := upd_same
  have s4 := s3.trans (same_new hg (.lst (iv (z2 rt))))
  have hul : (z2 rt).length ≤ 1000 := by
    unfold z2
    refine Nat.le_trans (List.length_filter_le _ _) ?_
    rw [List.length_range]; exact hl2
  refine ⟨p2, g, rt, z2 rt, rfl, hR2.same s4, hl2, SqL.of hg4, hul, fun i j r hr' hgn => w2.2 _ _ ⟨r, hr', .inr hgn⟩, fun p' H' s' hp' hR' => q2 p' H' (s12.trans (s4.trans s')) (s12.free (s4.free hp')) hR'⟩
end
end JU
set_option maxHeartbeats 4000000
namespace JU
open PySem L2 BV
theorem atM {xs : List V} {m : Int} (h0 : 0 ≤ m) (h1 : m < xs.length) : ∃ v, atI xs m = some v ∧ v ∈ xs := by
  have hk : m.toNat < xs.length := by omega
  have ek : ((m.toNat : Nat) : Int) = m := by omega
  have e : atI xs ((m.toNat : Nat) : Int) = some xs[m.toNat] := atI_nat (List.getElem?_eq_getElem hk)
  rw [ek] at e
  exact ⟨_, e, List.getElem_mem hk⟩
def okW (v : V) : Prop := ∃ w, v = .str w ∧ w ≠ "skip" ∧ w ≠ "unless" ∧ w ≠ "push" ∧ w ≠ "load" ∧ w ≠ "keep" ∧ w ≠ "back"
theorem okW_of {w : Str} (h : ((w == "skip") || (w == "unless") || (w == "push") || (w == "load") || (w == "keep") || (w == "back")) = false) : okW (.str w) := by
  simp only [Bool.or_eq_false_iff] at h
  exact ⟨w, rfl, ne_of_beq_false h.1.1.1.1.1, ne_of_beq_false h.1.1.1.1.2, ne_of_beq_false h.1.1.1.2, ne_of_beq_false h.1.1.2, ne_of_beq_false h.1.2, ne_of_beq_false h.2⟩
theorem okr_back : Okr (.oth [.str "back"]) := ⟨_, [], rfl, by decide +kernel, by decide +kernel, rfl, Nat.zero_le _, fun e => absurd e (by decide +kernel), fun e => absurd e (by decide +kernel), fun _ => rfl⟩
theorem okr_oth {v : V} {r : List V} (h : okW v) (hr : r.all CL.isSc = true) (hl : r.length ≤ 3) : Okr (.oth (v :: r)) := by
  obtain ⟨w, rfl, h1, h2, h3, h4, h5, h6⟩ := h
  exact ⟨w, r, rfl, h1, h2, hr, hl, fun e => absurd e h3, fun e => absurd e (by rintro (e | e); exact h4 e; exact h5 e), fun e => absurd e h6⟩
theorem okr_push {v : V} (h : (∃ n : Int, v = .int n) ∨ ∃ b : Bool, v = .bl b) : Okr (.oth [.str "push", v]) := by
  refine ⟨_, [v], rfl, by decide +kernel, by decide +kernel, ?_, Nat.le_add_left 1 2, fun _ => ?_, fun e => absurd e (by decide +kernel), fun e => absurd e (by decide +kernel)⟩
  · rcases h with ⟨n, rfl⟩ | ⟨b, rfl⟩ <;> rfl
  · rcases h with ⟨n, rfl⟩ | ⟨b, rfl⟩
    · exact .inl ⟨n, rfl⟩
    · exact .inr ⟨b, rfl⟩
theorem okr_slot {v : V} {n : Nat} (h : v = .str "load" ∨ v = .str "keep") : Okr (.oth [v, .int (n : Nat)]) := by
  rcases h with rfl | rfl
  · exact ⟨_, _, rfl, by decide +kernel, by decide +kernel, rfl, Nat.le_add_left 1 2, fun e => absurd e (by decide +kernel), fun _ => ⟨n, rfl⟩, fun e => absurd e (by decide +kernel)⟩
  · exact ⟨_, _, rfl, by decide +kernel, by decide +kernel, rfl, Nat.le_add_left 1 2, fun e => absurd e (by decide +kernel), fun _ => ⟨n, rfl⟩, fun e => absurd e (by decide +kernel)⟩
theorem nat_mod {m room : Int} (h : 0 < room) : (((m % room).toNat : Nat) : Int) = m % room ∧ (((m % room).toNat : Nat) : Int) < room := by
  have h1 := Int.emod_nonneg m (Int.ne_of_gt h)
  have h2 := Int.emod_lt_of_pos m h
  constructor <;> omega
def someW : List V := [.str "add", .str "sub", .str "mul", .str "div", .str "less", .str "same", .str "cons", .str "head", .str "tail", .str "empty", .str "not", .str "none", .str "apply"]
theorem someW_ok : ∀ v ∈ someW, okW v := by
  intro v hv
  simp only [someW, List.mem_cons, List.not_mem_nil, or_false] at hv
  rcases hv with rfl | rfl | rfl | rfl | rfl | rfl | rfl | rfl | rfl | rfl | rfl | rfl | rfl <;> exact okW_of (by decide +kernel)
end JU
set_option maxHeartbeats 4000000
namespace JU
open PySem L2 BV
theorem kit_ii {K : PySem.W.Frag} : PySem.W.kitOne K (.type "int") (.type "int") = some true := by rfl
theorem kit_ib {K : PySem.W.Frag} : PySem.W.kitOne K (.type "int") (.type "bool") = some false := by rfl
theorem wf_of {rs : List Rw} (h : ∀ (i j : Nat) (r : Rw), rs[i]? = some r → gn r i = some j → j ≤ rs.length) : Wf (rs ++ [.oth [.str "back"]]) := by
  refine ⟨by rw [List.length_append]; exact Nat.lt_of_lt_of_le Nat.zero_lt_one (Nat.le_add_left _ _), ?_⟩
  rintro i j ⟨r, hr, hj⟩
  rw [List.length_append, List.length_singleton]
  by_cases hi : i < rs.length
  · rw [List.getElem?_append_left hi] at hr
    rcases hj with ⟨_, rfl⟩ | hj
    · omega
    · have := h i j r hr hj; omega
  · have hi2 : i < (rs ++ [Rw.oth [.str "back"]]).length := (List.getElem?_eq_some_iff.mp hr).1
    rw [List.length_append, List.length_singleton] at hi2
    have : i = rs.length := by omega
    subst this
    rw [List.getElem?_append_right (Nat.le_refl _), Nat.sub_self] at hr
    cases hr
    rcases hj with ⟨h, _⟩ | h
    · exact absurd h (by decide +kernel)
    · cases h
end JU
set_option maxHeartbeats 4000000
namespace JU
open PySem L2 BV
open CL (one1 two2 three3)
seal PE PT PW PA PS PSs PTs PI PG PGs PO
abbrev s_law_whole : Stmt := top 15
theorem sc_law_whole : FnScope ["_law_found"] ["_law_found"] (defScope s_law_whole) := ⟨rfl, rfl, rfl, by decide +kernel, rfl, by decide +kernel, by decide +kernel⟩
section
variable {P : Program} {w : World} {K : PySem.W.Frag} {mg : Str → Option Value} {base : Heap} {f : Addr} {fd : FuncData}
def spWhole : Sp := fun vs H Q _ => ∃ n : Int, vs = [.int n] ∧ Q (.bl true) H
theorem ok_law_whole (F : Fun K "_law_whole" "_law_whole" s_law_whole f fd) (B : NoG mg) : FnOk P w K mg base CX0 1 f fd ["_law_found"] spWhole := by
  refine F.ok sc_law_whole (fun vs H Q E h => ?_) (fun cdv A outer s H vs Q E hr h => ?_)
  · obtain ⟨n, rfl, _⟩ := h
    rfl
  obtain ⟨n, rfl, q⟩ := h
  refine ⟨_, (pss_one (ps_ret (pe_and (pe_callB (k_isi (K := K)) rfl B.isinstance_ bt_isinstance (pa_cons (pv 0) (pa_cons (pe_bltn (v := .ty "int") rfl B.int_ bt_int rfl) pa_nil))) (pe_one (pe_not (pe_callB (k_isi (K := K)) rfl B.isinstance_ bt_isinstance (pa_cons (pv 0) (pa_cons (pe_bltn (v := .ty "bool") rfl B.bool_ bt_bool rfl) pa_nil)))))))), ?_⟩
  exact ⟨_, rfl, _, _, _, _, rfl, .int _, kit_ii, _, rfl, ifT rfl ⟨_, rfl, _, _, _, _, rfl, .int _, kit_ib, _, rfl, q⟩⟩
end
end JU
set_option maxHeartbeats 4000000
namespace JU
open PySem L2 BV
open CL (one1 two2 three3)
seal PE PT PW PA PS PSs PTs PI PG PGs PO
abbrev s_law_cell_at : Stmt := top 14
theorem sc_law_cell_at : FnScope ["_law_script", "_law_k"] ["_law_script", "_law_k"] (defScope s_law_cell_at) := ⟨rfl, rfl, rfl, by decide +kernel, rfl, by decide +kernel, by decide +kernel⟩
section
variable {P : Program} {w : World} {K : PySem.W.Frag} {mg : Str → Option Value} {base : Heap} {f : Addr} {fd : FuncData}
def spCellA (K : PySem.W.Frag) : Sp := fun vs H Q _ => ∃ (a : Addr) (ns : List Int) (k : Int), vs = [.ref a, .int k] ∧ SqL K H a (ns.map V.int) ∧ 0 ≤ k ∧ ∀ c : Int, Q (.int c) H
theorem ok_law_cell_at (F : Fun K "_law_cell_at" "_law_cell_at" s_law_cell_at f fd) (B : NoG mg) : FnOk P w K mg base CX0 1 f fd ["_law_script", "_law_k"] (spCellA K) := by
  refine F.ok sc_law_cell_at (fun vs H Q E h => ?_) (fun cdv A outer s H vs Q E hr h => ?_)
  · obtain ⟨a, ns, k, rfl, _⟩ := h
    rfl
  obtain ⟨a, ns, k, rfl, hS, hk, q⟩ := h
  have nd := sc_law_cell_at.nd
  refine ⟨_, (pss_cons (ps_if (pt_cmpR op_lt (pv 1) (pe_callB (k_len (K := K)) rfl B.len_ bt_len (pa_cons (pv 0) pa_nil)) rfl) (pss_one (ps_ret (pe_ix (kIx (K := K) (w := w)) (pv 0) (pv 1) (fun _ _ => rfl)))) pss_nil)
      (pss_one (ps_ret pe_int))), ?_⟩
  refine ⟨_, rfl, _, rfl, _, _, rfl, .inl ⟨_, hS, rfl⟩, _, _, rfl, rfl, _, rfl, ite2 (fun c => ?_) (fun c => ?_)⟩
  · have c' : k < ((ns.map V.int).length : Nat) := of_decide_eq_true c
    rw [List.length_map] at c'
    have hk' : k.toNat < ns.length := by omega
    have e : atI (ns.map V.int) ((k.toNat : Nat) : Int) = some (.int ns[k.toNat]) := atI_nat (by rw [List.getElem?_map, List.getElem?_eq_getElem hk']; rfl)
    have ek : ((k.toNat : Nat) : Int) = k := by omega
    rw [ek] at e
    exact ⟨_, rfl, _, rfl, .inl ⟨_, _, _, _, rfl, rfl, hS, e, q _⟩⟩
  · exact q 0
end
end JU
set_option maxHeartbeats 4000000
namespace JU
open PySem L2 BV
open CL (one1 two2 three3)
seal PE PT PW PA PS PSs PTs PI PG PGs PO
abbrev s_law_row : Stmt := top 16
abbrev s_law_rows : Stmt := top 17
theorem sc_law_row : FnScope ["_law_cell", "_law_room", "_law_more", "_law_near", "_law_some"] ["_law_cell", "_law_room"] (defScope s_law_row) := ⟨rfl, rfl, rfl, by decide +kernel, rfl, by decide +kernel, by decide +kernel⟩
theorem sc_law_rows : FnScope ["_law_cells", "_law_has_ways", "_law_some", "_law_rows_here", "_law_ahead"] ["_law_cells", "_law_has_ways"] (defScope s_law_rows) := ⟨rfl, rfl, rfl, by decide +kernel, rfl, by decide +kernel, by decide +kernel⟩
section
variable {P : Program} {w : World} {K : PySem.W.Frag} {mg : Str → Option Value} {base : Heap} {f : Addr} {fd : FuncData} {f_law_row : Addr} {d_law_row : FuncData}
def spRow : Sp := fun vs H Q _ => ∃ (c room : Int), vs = [.int c, .int room] ∧ 0 < room ∧ ∀ a r H', Same H H' → H' a = some (.tup (rv r)) → Okr r → (∀ i j : Nat, gn r i = some j → (j : Int) ≤ i + room) → Q (.ref a) H'
theorem ok_law_row (F : Fun K "_law_row" "_law_row" s_law_row f fd) (B : NoG mg) : FnOk P w K mg base CX0 1 f fd ["_law_cell", "_law_room"] spRow := by
  refine F.ok sc_law_row (fun vs H Q E h => ?_) (fun cdv A outer s H vs Q E hr h => ?_)
  · obtain ⟨c, room, rfl, _⟩ := h
    rfl
  obtain ⟨c, room, rfl, hroom, q⟩ := h
  have nd := sc_law_row.nd
  have hu := hr.units0
  have z13 : (13 : Nat) ≤ sizeLine := by decide
  have z2 : (2 : Nat) ≤ sizeLine := by decide
  have z3 : (3 : Nat) ≤ sizeLine := by decide
  have z1 : (1 : Nat) ≤ sizeLine := by decide
  refine ⟨_, (pss_cons (ps_set (i := 2) nd rfl (Or.inl rfl) (pe_op op_fdiv (pv 0) pe_int))
      (pss_cons (ps_set (i := 3) nd rfl (Or.inl rfl) (pe_callB (call_min2 rfl) rfl B.min_ bt_min (pa_cons (pv 1) (pa_cons pe_int pa_nil))))
      (pss_cons (ps_if (pt_cmpR op_lt (pe_op op_mod (pv 0) pe_int) pe_int rfl) (pss_one (ps_ret (pe_tup (pa_cons pe_str (pa_cons (pe_op op_mod (pv 2) (pv 1)) pa_nil))))) pss_nil)
      (pss_cons (ps_if (pt_cmpR op_lt (pe_op op_mod (pv 0) pe_int) pe_int rfl) (pss_one (ps_ret (pe_tup (pa_cons pe_str (pa_cons (pe_op op_mod (pv 2) (pv 3)) pa_nil))))) pss_nil)
      (pss_cons (ps_if (pt_cmpR (kEq (K := K) hu) (pe_op op_mod (pv 0) pe_int) pe_int rfl) (pss_one (ps_ret (pe_tup (pa_cons pe_str (pa_cons (pe_op op_mod (pv 2) (pv 1)) pa_nil))))) pss_nil)
      (pss_cons (ps_if (pt_cmpR op_lt (pe_op op_mod (pv 0) pe_int) pe_int rfl) (pss_one (ps_ret (pe_tup (pa_cons pe_str (pa_cons (pe_op op_mod (pv 2) (pv 3)) pa_nil))))) pss_nil)
      (pss_cons (ps_if (pt_cmpR (kEq (K := K) hu) (pe_op op_mod (pv 0) pe_int) pe_int rfl) (pss_one (ps_ret (pe_tup (pa_cons pe_str pa_nil)))) pss_nil)
      (pss_cons (ps_if (pt_cmpR (kEq (K := K) hu) (pe_op op_mod (pv 0) pe_int) pe_int rfl) (pss_one (ps_ret (pe_tup (pa_cons (pe_ix (kIx (K := K) (w := w)) (pe_lst (pa_cons pe_str (pa_cons pe_str pa_nil))) (pe_op op_mod (pv 2) pe_int) (fun _ _ => rfl)) (pa_cons (pe_op op_mod (pe_op op_fdiv (pv 2) pe_int) pe_int) pa_nil))))) pss_nil)
      (pss_cons (ps_if (pt_cmpR (kEq (K := K) hu) (pe_op op_mod (pv 0) pe_int) pe_int rfl) (pss_one (ps_ret (pe_tup (pa_cons pe_str (pa_cons (pe_ix (kIx (K := K) (w := w)) (pe_lst (pa_cons (pe_op op_mod (pv 2) (pe_op op_pow pe_int pe_int)) (pa_cons (pe_cmpR (kEq (K := K) hu) (pe_op op_mod (pv 2) pe_int) pe_int rfl) pa_nil))) (pe_op op_mod (pe_op op_fdiv (pv 2) pe_int) pe_int) (fun _ _ => rfl)) pa_nil))))) pss_nil)
      (pss_cons (ps_if (pt_cmpR op_lt (pe_op op_mod (pv 2) pe_int) pe_int rfl) (pss_one (ps_ret (pe_tup (pa_cons (pe_ix (kIx (K := K) (w := w)) (pe_lst (pa_cons pe_str (pa_cons pe_str pa_nil))) (pe_op op_mod (pv 2) pe_int) (fun _ _ => rfl)) (pa_cons (pe_op op_mod (pe_op op_fdiv (pv 2) pe_int) pe_int) (pa_cons (pe_op op_mod (pe_op op_fdiv (pv 2) pe_int) pe_int) pa_nil)))))) pss_nil)
      (pss_cons (ps_set (i := 4) nd rfl (Or.inl rfl) (pe_lst (pa_strs rfl)))
      (pss_one (ps_ret (pe_tup (pa_cons (pe_ix (kIx (K := K) (w := w)) (pv 4) (pe_op op_sub (pe_op op_mod (pv 2) pe_int) pe_int) (fun _ _ => rfl)) pa_nil))))))))))))))), ?_⟩
  refine ⟨_, rfl, _, _, rfl, rfl, ⟨by decide, by decide⟩, _, rfl, _, _, rfl, ?_⟩
  obtain ⟨nr, hnr⟩ : ∃ nr, nr = (if (3 : Int) < room then 3 else room) := ⟨_, rfl⟩
  rw [← hnr]
  have hn0 : 0 < nr := by rw [hnr]; split <;> omega
  have hn1 : nr ≤ room := by rw [hnr]; split <;> omega
  obtain ⟨e1, e2⟩ := nat_mod (m := c / 12) hroom
  obtain ⟨e3, e4⟩ := nat_mod (m := c / 12) hn0
  refine ⟨_, rfl, _, _, rfl, rfl, (by decide : (0 : Int) < 12), _, _, rfl, rfl, _, rfl, ite2 (fun _ => ?_) (fun _ => ?_)⟩
  · refine ⟨_, rfl, _, rfl, _, _, rfl, rfl, hroom, z2, fun a ha => q a (.skip (c / 12 % room).toNat) _ (same_new ha _) (by rw [upd_same]; show some (HO.tup [.str "skip", .int (c / 12 % room)]) = some (HO.tup [.str "skip", .int ((c / 12 % room).toNat : Nat)]); rw [e1]) trivial ?_⟩
    intro i j h
    simp only [gn, Option.some.injEq] at h
    omega
  refine ⟨_, rfl, _, _, rfl, rfl, (by decide : (0 : Int) < 12), _, _, rfl, rfl, _, rfl, ite2 (fun _ => ?_) (fun _ => ?_)⟩
  · refine ⟨_, rfl, _, rfl, _, _, rfl, rfl, hn0, z2, fun a ha => q a (.skip (c / 12 % nr).toNat) _ (same_new ha _) (by rw [upd_same]; show some (HO.tup [.str "skip", .int (c / 12 % nr)]) = some (HO.tup [.str "skip", .int ((c / 12 % nr).toNat : Nat)]); rw [e3]) trivial ?_⟩
    intro i j h
    simp only [gn, Option.some.injEq] at h
    omega
  refine ⟨_, rfl, _, _, rfl, rfl, (by decide : (0 : Int) < 12), .inl ⟨rfl, _, rfl, ite2 (fun _ => ?_) (fun _ => ?_)⟩⟩
  · refine ⟨_, rfl, _, rfl, _, _, rfl, rfl, hroom, z2, fun a ha => q a (.unl (c / 12 % room).toNat) _ (same_new ha _) (by rw [upd_same]; show some (HO.tup [.str "unless", .int (c / 12 % room)]) = some (HO.tup [.str "unless", .int ((c / 12 % room).toNat : Nat)]); rw [e1]) trivial ?_⟩
    intro i j h
    simp only [gn, Option.some.injEq] at h
    omega
  refine ⟨_, rfl, _, _, rfl, rfl, (by decide : (0 : Int) < 12), _, _, rfl, rfl, _, rfl, ite2 (fun _ => ?_) (fun _ => ?_)⟩
  · refine ⟨_, rfl, _, rfl, _, _, rfl, rfl, hn0, z2, fun a ha => q a (.unl (c / 12 % nr).toNat) _ (same_new ha _) (by rw [upd_same]; show some (HO.tup [.str "unless", .int (c / 12 % nr)]) = some (HO.tup [.str "unless", .int ((c / 12 % nr).toNat : Nat)]); rw [e3]) trivial ?_⟩
    intro i j h
    simp only [gn, Option.some.injEq] at h
    omega
  have nj : ∀ xs : List V, ∀ i j : Nat, gn (.oth xs) i = some j → (j : Int) ≤ i + room := fun xs i j h => by cases h
  refine ⟨_, rfl, _, _, rfl, rfl, (by decide : (0 : Int) < 12), .inl ⟨rfl, _, rfl, ite2 (fun _ => ?_) (fun _ => ?_)⟩⟩
  · exact ⟨z1, fun a ha => q a (.oth [.str "back"]) _ (same_new ha _) upd_same okr_back (nj _)⟩
  refine ⟨_, rfl, _, _, rfl, rfl, (by decide : (0 : Int) < 12), .inl ⟨rfl, _, rfl, ite2 (fun _ => ?_) (fun _ => ?_)⟩⟩
  · have g1 := Int.emod_nonneg (c / 12) (by decide : (2 : Int) ≠ 0)
    have g2 := Int.emod_lt_of_pos (c / 12) (by decide : (0 : Int) < 2)
    obtain ⟨v, hv, hm⟩ := atM (xs := [.str "load", .str "keep"]) g1 (by show _ < ((2 : Nat) : Int); omega)
    refine ⟨z2, fun l hl => ⟨_, rfl, _, _, rfl, rfl, (by decide : (0 : Int) < 2), .inl ⟨l, _, _, v, rfl, rfl, SqL.of upd_same, hv, ?_⟩⟩⟩
    refine ⟨_, rfl, _, _, rfl, rfl, ⟨by decide, by decide⟩, _, _, rfl, rfl, (by decide : (0 : Int) < 8), z2, fun a ha => ?_⟩
    have e8 := (nat_mod (m := c / 12 / 2) (by decide : (0 : Int) < 8)).1
    refine q a (.oth [v, .int ((c / 12 / 2 % 8).toNat : Nat)]) _ ((same_new hl _).trans (same_new ha _)) (by rw [upd_same]; show some (HO.tup [v, .int (c / 12 / 2 % 8)]) = some (HO.tup [v, .int ((c / 12 / 2 % 8).toNat : Nat)]); rw [e8]) (okr_slot ?_) (nj _)
    simpa using hm
  refine ⟨_, rfl, _, _, rfl, rfl, (by decide : (0 : Int) < 12), .inl ⟨rfl, _, rfl, ite2 (fun _ => ?_) (fun _ => ?_)⟩⟩
  · have g1 := Int.emod_nonneg (c / 12 / 2) (by decide : (2 : Int) ≠ 0)
    have g2 := Int.emod_lt_of_pos (c / 12 / 2) (by decide : (0 : Int) < 2)
    refine ⟨_, rfl, _, _, rfl, rfl, ⟨by decide, by decide, by decide⟩, _, _, rfl, rfl, (by decide : (0 : Int) < 10 ^ 12), _, rfl, _, _, rfl, rfl, (by decide : (0 : Int) < 2), .inl ⟨rfl, z2, fun l hl => ?_⟩⟩
    obtain ⟨v, hv, hm⟩ := atM (xs := [.int (c / 12 % 10 ^ 12), .bl (decide (V.int (c / 12 % 2) = V.int 1))]) g1 (by show _ < ((2 : Nat) : Int); omega)
    refine ⟨_, rfl, _, _, rfl, rfl, ⟨by decide, by decide⟩, _, _, rfl, rfl, (by decide : (0 : Int) < 2), .inl ⟨l, _, _, v, rfl, rfl, SqL.of upd_same, hv, z2, fun a ha => ?_⟩⟩
    refine q a (.oth [.str "push", v]) _ ((same_new hl _).trans (same_new ha _)) upd_same (okr_push ?_) (nj _)
    simp only [List.mem_cons, List.not_mem_nil, or_false] at hm
    rcases hm with rfl | rfl
    · exact .inl ⟨_, rfl⟩
    · exact .inr ⟨_, rfl⟩
  have g1 := Int.emod_nonneg (c / 12) (by decide : (15 : Int) ≠ 0)
  have g2 := Int.emod_lt_of_pos (c / 12) (by decide : (0 : Int) < 15)
  refine ⟨_, rfl, _, _, rfl, rfl, (by decide : (0 : Int) < 15), _, _, rfl, rfl, _, rfl, ite2 (fun h2 => ?_) (fun h2 => ?_)⟩
  · have h2' : c / 12 % 15 < 2 := of_decide_eq_true h2
    obtain ⟨v, hv, hm⟩ := atM (xs := [.str "call", .str "close"]) g1 (by show _ < ((2 : Nat) : Int); omega)
    refine ⟨z2, fun l hl => ⟨_, rfl, _, _, rfl, rfl, (by decide : (0 : Int) < 15), .inl ⟨l, _, _, v, rfl, rfl, SqL.of upd_same, hv, ?_⟩⟩⟩
    refine ⟨_, rfl, _, _, rfl, rfl, ⟨by decide, by decide⟩, _, _, rfl, rfl, (by decide : (0 : Int) < 9), ?_⟩
    refine ⟨_, rfl, _, _, rfl, rfl, ⟨by decide, by decide⟩, _, _, rfl, rfl, (by decide : (0 : Int) < 5), z3, fun a ha => q a (.oth [v, .int (c / 12 / 15 % 9), .int (c / 12 / 135 % 5)]) _ ((same_new hl _).trans (same_new ha _)) upd_same (okr_oth ?_ rfl (Nat.le_add_left 2 1)) (nj _)⟩
    simp only [List.mem_cons, List.not_mem_nil, or_false] at hm
    rcases hm with rfl | rfl <;> exact okW_of (by decide +kernel)
  · have h2' : ¬ c / 12 % 15 < 2 := fun z => h2 (decide_eq_true z)
    obtain ⟨v, hv, hm⟩ := atM (xs := someW) (m := c / 12 % 15 - 2) (by omega) (by show _ < ((13 : Nat) : Int); omega)
    refine ⟨z13, fun l hl => ⟨_, rfl, _, rfl, _, _, rfl, rfl, (by decide : (0 : Int) < 15), _, _, rfl, rfl, .inl ⟨l, _, _, v, rfl, rfl, SqL.of upd_same, hv, z1, fun a ha => ?_⟩⟩⟩
    exact q a (.oth [v]) _ ((same_new hl _).trans (same_new ha _)) upd_same (okr_oth (someW_ok v hm) rfl (Nat.zero_le _)) (nj _)
end
end JU
set_option maxHeartbeats 4000000
namespace JU
open PySem L2 BV
open CL (one1 two2 three3)
seal PE PT PW PA PS PSs PTs PI PG PGs PO
def ahd : List Rw := [.unl 4, .unl 5, .unl 1, .oth [.str "not"], .skip 1, .oth [.str "tail"], .skip 1, .oth [.str "head"]]
theorem ahd_ok : ∀ r ∈ ahd, Okr r := by
  intro r hr
  simp only [ahd, List.mem_cons, List.not_mem_nil, or_false] at hr
  rcases hr with rfl | rfl | rfl | rfl | rfl | rfl | rfl | rfl <;> first | trivial | exact okr_oth (okW_of (by decide +kernel)) rfl (Nat.zero_le _)
theorem ahd_wf {rs : List Rw} (w : Wf rs) : Wf (ahd ++ rs) := by
  have h8 : ahd.length = 8 := rfl
  have h0 := w.1
  refine ⟨by rw [List.length_append]; omega, ?_⟩
  rintro i j ⟨r, hr, hj⟩
  rw [List.length_append, h8]
  by_cases hi : i < 8
  · rw [List.getElem?_append_left (by omega)] at hr
    rcases hj with ⟨_, rfl⟩ | hg
    · omega
    · have : ∀ i j : Nat, i < 8 → ∀ r, ahd[i]? = some r → gn r i = some j → j ≤ 8 := by
        intro i j hi r hr hg
        match i, hi with
        | 0, _ => cases hr; cases hg; decide
        | 1, _ => cases hr; cases hg; decide
        | 2, _ => cases hr; cases hg; decide
        | 3, _ => cases hr; cases hg
        | 4, _ => cases hr; cases hg; decide
        | 5, _ => cases hr; cases hg
        | 6, _ => cases hr; cases hg; decide
        | 7, _ => cases hr; cases hg
        | n + 8, h => omega
      have := this i j hi r hr hg
      omega
  · rw [List.getElem?_append_right (by omega), h8] at hr
    obtain ⟨t, rfl⟩ : ∃ t, i = 8 + t := ⟨i - 8, by omega⟩
    rw [Nat.add_sub_cancel_left] at hr
    rcases hj with ⟨hs, rfl⟩ | hg
    · have := w.2 t (t + 1) ⟨r, hr, .inl ⟨hs, rfl⟩⟩
      omega
    · cases r with
      | oth xs => cases hg
      | skip k =>
        have := w.2 t _ ⟨_, hr, .inr rfl⟩
        have e : 8 + t + 1 + k = j := Option.some.inj hg
        omega
      | unl k =>
        have := w.2 t _ ⟨_, hr, .inr rfl⟩
        have e : 8 + t + 1 + k = j := Option.some.inj hg
        omega
theorem rows_app {H : Hp} {p a b : Addr} {us vs : List V} {rs qs : List Rw} (ha : RowsAt H a rs) (hb : RowsAt H b qs) (hua : H a = some (.tup us)) (hvb : H b = some (.tup vs)) (hp : H p = some (.tup (us ++ vs))) : RowsAt H p (rs ++ qs) := by
  obtain ⟨us', u1, u2, u3, u4⟩ := ha
  obtain ⟨vs', v1, v2, v3, v4⟩ := hb
  rw [hua] at u1
  cases u1
  rw [hvb] at v1
  cases v1
  refine ⟨_, hp, by rw [List.length_append, List.length_append, u2, v2], fun r hr => ?_, fun i r hr => ?_⟩
  · rcases List.mem_append.mp hr with h | h
    · exact u3 r h
    · exact v3 r h
  · by_cases c : i < rs.length
    · rw [List.getElem?_append_left c] at hr
      obtain ⟨x, e1, e2⟩ := u4 i r hr
      exact ⟨x, by rw [List.getElem?_append_left (by omega)]; exact e1, e2⟩
    · rw [List.getElem?_append_right (by omega)] at hr
      obtain ⟨x, e1, e2⟩ := v4 _ r hr
      exact ⟨x, by rw [List.getElem?_append_right (by omega), u2]; exact e1, e2⟩
section
variable {P : Program} {w : World} {K : PySem.W.Frag} {mg : Str → Option Value} {base : Heap} {f : Addr} {fd : FuncData} {f_law_row : Addr} {d_law_row : FuncData}
def spRows2 (K : PySem.W.Frag) : Sp := fun vs H Q _ => ∃ (a : Addr) (ns : List Int) (b : Bool), vs = [.ref a, .bl b] ∧ SqL K H a (ns.map V.int) ∧ ns.length ≤ 100 ∧ ∀ p rs H', Same H H' → RowsAt H' p rs → rs.length ≤ ns.length + 9 → Wf rs → Q (.ref p) H'
theorem ok_law_rows (F : Fun K "_law_rows" "_law_rows" s_law_rows f fd) (B : NoG mg)
    (G_law_row : FnOk P w K mg base CX0 1 f_law_row d_law_row ["_law_cell", "_law_room"] spRow) (b_law_row : Binds K d_law_row ["_law_cell", "_law_room"] []) (k_law_row : PySem.W.keepIn K (.ref f_law_row) = true) (m_law_row : mg "_law_row" = some (.ref f_law_row)) :
    FnOk P w K mg base CX0 2 f fd ["_law_cells", "_law_has_ways"] (spRows2 K) := by
  refine F.ok sc_law_rows (fun vs H Q E h => ?_) (fun cdv A outer s H vs Q E hr h => ?_)
  · obtain ⟨a, ns, b, rfl, _⟩ := h
    rfl
  obtain ⟨a, ns, bw, rfl, hS, hn, q⟩ := h
  have nd := sc_law_rows.nd
  have hu := hr.units0
  have zz : (2000 : Nat) ≤ sizeLine := by decide
  have z4 : (4 : Nat) ≤ sizeLine := by decide
  have lm : (ns.map V.int).length = ns.length := List.length_map ..
  refine ⟨_, (pss_cons (ps_setComp (i := 2) nd rfl rfl (CompScope.mk (N := ["_law_cells", "_law_has_ways", "_law_some", "_law_rows_here", "_law_ahead"]) (sc := defScope s_law_rows) (caps := [0]) (ns := ["_law_cells"]) (by decide +kernel) rfl (by decide +kernel) rfl (by decide +kernel) rfl (by decide +kernel) (by decide +kernel)) rfl rfl rfl (pi_range1 rfl B.range_ (pa_cons (pe_callB (k_len (K := K)) rfl B.len_ bt_len (pa_cons (pv 0) pa_nil)) pa_nil)) (fun _ _ _ _ _ => pts_nil) (fun _ _ _ _ _ => (pe_call G_law_row (hr.mono (by first | decide | omega)) rfl m_law_row k_law_row b_law_row .nil pass0 (pa_cons (pe_ix (kIx (K := K) (w := w)) (pv 1) (pv 0) (fun _ _ => rfl)) (pa_cons (pe_op op_sub (pe_callB (k_len (K := K)) rfl B.len_ bt_len (pa_cons (pv 1) pa_nil)) (pv 0)) pa_nil)))))
      (pss_cons (ps_set (i := 3) nd rfl (Or.inl rfl) (pe_op (kAddT (K := K)) (pe_callTy (k_tuple (K := K)) rfl B.tuple_ bt_tuple (pa_cons (pv 2) pa_nil)) (pe_tup (pa_cons (pe_tup (pa_cons pe_str pa_nil)) pa_nil))))
      (pss_cons (ps_if (k_truth (K := K) (pv 1) (fun _ => rfl)) (pss_cons (ps_set (i := 4) nd rfl (Or.inl rfl) (pe_tup (pa_cons (pe_tup (pa_cons pe_str (pa_cons pe_int pa_nil))) (pa_cons (pe_tup (pa_cons pe_str (pa_cons pe_int pa_nil))) (pa_cons (pe_tup (pa_cons pe_str (pa_cons pe_int pa_nil))) (pa_cons (pe_tup (pa_cons pe_str pa_nil)) pa_nil))))))
      (pss_one (ps_ret (pe_op (kAddT (K := K)) (pe_op (kAddT (K := K)) (pv 4) (pe_tup (pa_cons (pe_tup (pa_cons pe_str (pa_cons pe_int pa_nil))) (pa_cons (pe_tup (pa_cons pe_str pa_nil)) (pa_cons (pe_tup (pa_cons pe_str (pa_cons pe_int pa_nil))) (pa_cons (pe_tup (pa_cons pe_str pa_nil)) pa_nil)))))) (pv 3))))) pss_nil)
      (pss_one (ps_ret (pv 3)))))), ?_⟩
  refine ⟨_, rfl, _, _, rfl, .inl ⟨_, hS, rfl⟩, _, rfl, by omega, by omega, comp_range (n := (ns.map V.int).length) (fun i zs H' => ∃ rs : List Rw, rs.length = i ∧ zs.length = i ∧ Same H H' ∧ (∀ r ∈ rs, Okr r) ∧ (∀ (k : Nat) (r : Rw), rs[k]? = some r → ∃ b : Addr, zs[k]? = some (V.ref b) ∧ H' b = some (.tup (rv r))) ∧ ∀ (k j : Nat) (r : Rw), rs[k]? = some r → gn r k = some j → j ≤ ns.length) ?_ ?_ ?_ ?_⟩
  · exact ⟨[], rfl, rfl, Same.refl _, fun _ h => (by cases h), fun _ _ h => (by cases h), fun _ _ _ h => (by cases h)⟩
  · rintro i zs H' hi ⟨rs, _, hl, _⟩
    omega
  · rintro i zs H' hi ⟨rs, h1, h2, s1, h3, h4, h5⟩
    refine noTest ?_
    rw [lm] at hi
    have hx : atI (ns.map V.int) ((i : Nat) : Int) = some (.int ns[i]) := atI_nat (by rw [List.getElem?_map, List.getElem?_eq_getElem hi]; rfl)
    refine ⟨_, rfl, _, rfl, .inl ⟨a, _, _, _, rfl, rfl, s1.seq hS, by simpa using hx, ?_⟩⟩
    refine ⟨_, rfl, _, _, rfl, .inl ⟨_, s1.seq hS, rfl⟩, _, rfl, _, _, rfl, rfl, _, _, rfl, by omega, fun b r H2 s2 hb hok hj => ?_⟩
    refine ⟨rs ++ [r], by rw [List.length_append, h1]; rfl, by rw [List.length_append, h2]; rfl, s1.trans s2, ?_, ?_, ?_⟩
    · intro r' hr'
      rcases List.mem_append.mp hr' with h | h
      · exact h3 _ h
      · rw [List.mem_singleton.mp h]; exact hok
    · intro k r' hk
      by_cases c : k < rs.length
      · rw [List.getElem?_append_left c] at hk
        obtain ⟨b', e1, e2⟩ := h4 k r' hk
        exact ⟨b', by rw [List.getElem?_append_left (by omega)]; exact e1, s2 _ _ e2⟩
      · have hk2 := (List.getElem?_eq_some_iff.mp hk).1
        rw [List.length_append, List.length_singleton] at hk2
        have e : k = rs.length := by omega
        subst e
        rw [List.getElem?_append_right (Nat.le_refl _), Nat.sub_self] at hk
        cases hk
        exact ⟨b, by rw [List.getElem?_append_right (by omega), h1, h2, Nat.sub_self]; rfl, hb⟩
    · intro k j r' hk hg
      by_cases c : k < rs.length
      · rw [List.getElem?_append_left c] at hk
        exact h5 k j r' hk hg
      · have hk2 := (List.getElem?_eq_some_iff.mp hk).1
        rw [List.length_append, List.length_singleton] at hk2
        have e : k = rs.length := by omega
        subst e
        rw [List.getElem?_append_right (Nat.le_refl _), Nat.sub_self] at hk
        cases hk
        have := hj _ _ hg
        omega
  · rintro zs H' ⟨rs, h1, h2, s1, h3, h4, h5⟩ D hD
    rw [lm] at h1 h2
    refine ⟨_, rfl, D, zs, rfl, .inl ⟨SqL.of upd_same, fun t ht => ?_⟩⟩
    have s2 := s1.trans ((same_new hD (.lst zs)).trans (same_new ht (.tup zs)))
    have ht2 : upd (upd H' D (.lst zs)) t (.tup zs) t = some (.tup zs) := upd_same
    replace h4 : ∀ (k : Nat) (r : Rw), rs[k]? = some r → ∃ b : Addr, zs[k]? = some (V.ref b) ∧ upd (upd H' D (.lst zs)) t (.tup zs) b = some (.tup (rv r)) := fun k r hk => let ⟨b, e1, e2⟩ := h4 k r hk; ⟨b, e1, (same_new ht _) _ _ ((same_new hD _) _ _ e2)⟩
    generalize upd (upd H' D (.lst zs)) t (.tup zs) = H3 at s2 ht2 h4 ⊢
    refine ⟨one1, fun b hb => ⟨one1, fun o ho => ?_⟩⟩
    have sb := (same_new hb (.tup [.str "back"])).trans (same_new ho (.tup [.ref b]))
    have hb4 : upd (upd H3 b (.tup [.str "back"])) o (.tup [.ref b]) b = some (.tup [.str "back"]) := (same_new ho _) _ _ upd_same
    have ho4 : upd (upd H3 b (.tup [.str "back"])) o (.tup [.ref b]) o = some (.tup [.ref b]) := upd_same
    generalize upd (upd H3 b (.tup [.str "back"])) o (.tup [.ref b]) = H4 at sb hb4 ho4 ⊢
    have hRt : RowsAt H4 t rs := ⟨zs, sb _ _ ht2, by omega, h3, fun i r hr => let ⟨b, e1, e2⟩ := h4 i r hr; ⟨b, e1, sb _ _ e2⟩⟩
    have hRo : RowsAt H4 o [.oth [.str "back"]] := ⟨[.ref b], ho4, rfl, fun r hr => by rw [List.mem_singleton.mp hr]; exact okr_back, fun i r hr => by
      cases i with
      | zero => cases hr; exact ⟨b, rfl, hb4⟩
      | succ i => cases hr⟩
    have hWf : Wf (rs ++ [.oth [.str "back"]]) := wf_of (by rw [h1]; exact h5)
    have hll : (rs ++ [Rw.oth [.str "back"]]).length = ns.length + 1 := by rw [List.length_append, h1]; rfl
    have key : ∀ Kont : V → Hp → Prop, (∀ H5 p ws, Same H4 H5 → H5 p = some (.tup ws) → RowsAt H5 p (rs ++ [.oth [.str "back"]]) → Kont (.ref p) H5) →
        (rI0 (fun i j => .int (i + j)) (.ref t) (.ref o) H4 Kont ∨ rCatT K (.ref t) (.ref o) H4 Kont ∨ rCatT0 K (.ref t) (.ref o) H4 Kont) := fun Kont hk => by
      by_cases hz : zs = []
      · subst hz
        have hrs : rs = [] := List.length_eq_zero_iff.mp (by rw [h1, ← h2]; rfl)
        subst hrs
        exact .inr (.inr ⟨t, o, _, rfl, rfl, SqT.of (sb _ _ ht2), SqT.of ho4, hk H4 o _ (Same.refl _) ho4 hRo⟩)
      · refine .inr (.inl ⟨t, o, zs, _, rfl, rfl, SqT.of (sb _ _ ht2), SqT.of ho4, hz, (by show zs.length + 1 ≤ sizeLine; omega), (fun z => by cases z), fun _ p hp => ?_⟩)
        have s5 := same_new hp (.tup (zs ++ [.ref b]))
        exact hk _ p _ s5 upd_same (rows_app (hRt.same s5) (hRo.same s5) (s5 _ _ (sb _ _ ht2)) (s5 _ _ ho4) upd_same)
    refine key _ fun H5 p ws s5 hp hRp => ?_
    have hwl : ws.length = ns.length + 1 := by
      obtain ⟨ws', e1, e2, _⟩ := id hRp
      rw [hp] at e1
      cases e1
      omega
    have s6 := s2.trans (sb.trans s5)
    refine ⟨_, rfl, bw, rfl, ?_⟩
    cases bw with
    | false => exact ifF Bool.false_ne_true ⟨_, rfl, q p _ H5 s6 hRp (by omega) hWf⟩
    | true =>
      refine ifT rfl ⟨two2, fun a1 g1 => ⟨two2, fun a2 g2 => ⟨two2, fun a3 g3 => ⟨one1, fun a4 g4 => ⟨z4, fun ah gh => ?_⟩⟩⟩⟩⟩
      have n1 := same_new g1 (.tup [.str "unless", .int 4])
      have n2 := same_new g2 (.tup [.str "unless", .int 5])
      have n3 := same_new g3 (.tup [.str "unless", .int 1])
      have n4 := same_new g4 (.tup [.str "not"])
      have n5 := same_new gh (.tup [.ref a1, .ref a2, .ref a3, .ref a4])
      have f5 : upd (upd (upd (upd (upd H5 a1 (.tup [.str "unless", .int 4])) a2 (.tup [.str "unless", .int 5])) a3 (.tup [.str "unless", .int 1])) a4 (.tup [.str "not"])) ah (.tup [.ref a1, .ref a2, .ref a3, .ref a4]) ah = some (.tup [.ref a1, .ref a2, .ref a3, .ref a4]) := upd_same
      have f4 := n5 _ _ (upd_same (H := upd (upd (upd H5 a1 (.tup [.str "unless", .int 4])) a2 (.tup [.str "unless", .int 5])) a3 (.tup [.str "unless", .int 1])) (a := a4) (o := .tup [.str "not"]))
      have f3 := n5 _ _ (n4 _ _ (upd_same (H := upd (upd H5 a1 (.tup [.str "unless", .int 4])) a2 (.tup [.str "unless", .int 5])) (a := a3) (o := .tup [.str "unless", .int 1])))
      have f2 := n5 _ _ (n4 _ _ (n3 _ _ (upd_same (H := upd H5 a1 (.tup [.str "unless", .int 4])) (a := a2) (o := .tup [.str "unless", .int 5]))))
      have f1 := n5 _ _ (n4 _ _ (n3 _ _ (n2 _ _ (upd_same (H := H5) (a := a1) (o := .tup [.str "unless", .int 4])))))
      have s7 := n1.trans (n2.trans (n3.trans (n4.trans n5)))
      generalize upd (upd (upd (upd (upd H5 a1 (.tup [.str "unless", .int 4])) a2 (.tup [.str "unless", .int 5])) a3 (.tup [.str "unless", .int 1])) a4 (.tup [.str "not"])) ah (.tup [.ref a1, .ref a2, .ref a3, .ref a4]) = H6 at f1 f2 f3 f4 f5 s7 ⊢
      clear n1 n2 n3 n4 n5 g1 g2 g3 g4 gh
      refine ⟨_, rfl, two2, fun b1 g1 => ⟨one1, fun b2 g2 => ⟨two2, fun b3 g3 => ⟨one1, fun b4 g4 => ⟨z4, fun bh gh => ?_⟩⟩⟩⟩⟩
      have n1 := same_new g1 (.tup [.str "skip", .int 1])
      have n2 := same_new g2 (.tup [.str "tail"])
      have n3 := same_new g3 (.tup [.str "skip", .int 1])
      have n4 := same_new g4 (.tup [.str "head"])
      have n5 := same_new gh (.tup [.ref b1, .ref b2, .ref b3, .ref b4])
      have e5 : upd (upd (upd (upd (upd H6 b1 (.tup [.str "skip", .int 1])) b2 (.tup [.str "tail"])) b3 (.tup [.str "skip", .int 1])) b4 (.tup [.str "head"])) bh (.tup [.ref b1, .ref b2, .ref b3, .ref b4]) bh = some (.tup [.ref b1, .ref b2, .ref b3, .ref b4]) := upd_same
      have e4 := n5 _ _ (upd_same (H := upd (upd (upd H6 b1 (.tup [.str "skip", .int 1])) b2 (.tup [.str "tail"])) b3 (.tup [.str "skip", .int 1])) (a := b4) (o := .tup [.str "head"]))
      have e3 := n5 _ _ (n4 _ _ (upd_same (H := upd (upd H6 b1 (.tup [.str "skip", .int 1])) b2 (.tup [.str "tail"])) (a := b3) (o := .tup [.str "skip", .int 1])))
      have e2 := n5 _ _ (n4 _ _ (n3 _ _ (upd_same (H := upd H6 b1 (.tup [.str "skip", .int 1])) (a := b2) (o := .tup [.str "tail"]))))
      have e1 := n5 _ _ (n4 _ _ (n3 _ _ (n2 _ _ (upd_same (H := H6) (a := b1) (o := .tup [.str "skip", .int 1])))))
      have s8 := n1.trans (n2.trans (n3.trans (n4.trans n5)))
      generalize upd (upd (upd (upd (upd H6 b1 (.tup [.str "skip", .int 1])) b2 (.tup [.str "tail"])) b3 (.tup [.str "skip", .int 1])) b4 (.tup [.str "head"])) bh (.tup [.ref b1, .ref b2, .ref b3, .ref b4]) = H7 at e1 e2 e3 e4 e5 s8 ⊢
      clear n1 n2 n3 n4 n5 g1 g2 g3 g4 gh
      refine .inr (.inl ⟨ah, bh, _, _, rfl, rfl, SqT.of (s8 _ _ f5), SqT.of e5, (by intro z; cases z), (by show 8 ≤ sizeLine; decide), (fun z => by cases z), fun _ c hc => ?_⟩)
      have s9 := same_new hc (.tup ([.ref a1, .ref a2, .ref a3, .ref a4] ++ [.ref b1, .ref b2, .ref b3, .ref b4]))
      have hc9 : upd H7 c (.tup ([.ref a1, .ref a2, .ref a3, .ref a4] ++ [.ref b1, .ref b2, .ref b3, .ref b4])) c = some (.tup ([.ref a1, .ref a2, .ref a3, .ref a4] ++ [.ref b1, .ref b2, .ref b3, .ref b4])) := upd_same
      generalize upd H7 c (.tup ([.ref a1, .ref a2, .ref a3, .ref a4] ++ [.ref b1, .ref b2, .ref b3, .ref b4])) = H8 at s9 hc9 ⊢
      have hRc : RowsAt H8 c ahd := by
        refine ⟨_, hc9, rfl, ahd_ok, fun i r hr => ?_⟩
        match i, hr with
        | 0, hr => cases hr; exact ⟨a1, rfl, s9 _ _ (s8 _ _ f1)⟩
        | 1, hr => cases hr; exact ⟨a2, rfl, s9 _ _ (s8 _ _ f2)⟩
        | 2, hr => cases hr; exact ⟨a3, rfl, s9 _ _ (s8 _ _ f3)⟩
        | 3, hr => cases hr; exact ⟨a4, rfl, s9 _ _ (s8 _ _ f4)⟩
        | 4, hr => cases hr; exact ⟨b1, rfl, s9 _ _ e1⟩
        | 5, hr => cases hr; exact ⟨b2, rfl, s9 _ _ e2⟩
        | 6, hr => cases hr; exact ⟨b3, rfl, s9 _ _ e3⟩
        | 7, hr => cases hr; exact ⟨b4, rfl, s9 _ _ e4⟩
        | n + 8, hr => cases hr
      have s10 := s7.trans (s8.trans s9)
      have hwne : ws ≠ [] := fun z => by rw [z] at hwl; cases hwl
      refine ⟨_, rfl, .inr (.inl ⟨c, p, _, ws, rfl, rfl, SqT.of hc9, SqT.of (s10 _ _ hp), (by intro z; cases z), (by show 8 + ws.length ≤ sizeLine; omega), (fun z => absurd z hwne), fun _ p' hp' => ?_⟩)⟩
      have s11 := same_new hp' (.tup (([.ref a1, .ref a2, .ref a3, .ref a4] ++ [.ref b1, .ref b2, .ref b3, .ref b4]) ++ ws))
      refine q p' (ahd ++ (rs ++ [.oth [.str "back"]])) _ (s6.trans (s10.trans s11)) (rows_app (hRc.same s11) ((hRp.same s10).same s11) (s11 _ _ hc9) (s11 _ _ (s10 _ _ hp)) upd_same) ?_ (ahd_wf hWf)
      rw [List.length_append, hll]
      show 8 + (ns.length + 1) ≤ ns.length + 9
      omega
end
end JU
set_option maxHeartbeats 4000000
namespace JU
open PySem L2 BV
open CL (one1 two2 three3)
seal PE PT PW PA PS PSs PTs PI PG PGs PO
abbrev s_law_done : Stmt := top 18
abbrev s_law_marked : Stmt := top 19
theorem sc_law_done : FnScope ["_law_rows_here", "_law_bits", "_law_at", "_law_done_here", "_law_many", "_law_rest", "_law_row_here"] ["_law_rows_here", "_law_bits"] (defScope s_law_done) := ⟨rfl, rfl, rfl, by decide +kernel, rfl, by decide +kernel, by decide +kernel⟩
theorem sc_law_marked : FnScope ["_law_rows_here", "_law_marks", "_law_at"] ["_law_rows_here"] (defScope s_law_marked) := ⟨rfl, rfl, rfl, by decide +kernel, rfl, by decide +kernel, by decide +kernel⟩
theorem back_is (x : Rw) : decide (V.str (wd x) = V.str "back") = isB x := by
  cases x with
  | skip k' => show decide (V.str "skip" = V.str "back") = false; decide +kernel
  | unl k' => show decide (V.str "unless" = V.str "back") = false; decide +kernel
  | oth xs =>
    show decide (V.str (wdO xs) = V.str "back") = (("back" : Str) == wdO xs)
    by_cases c : ("back" : Str) = wdO xs
    · rw [← c]; simp
    · rw [beq_false_of_ne c]; exact decide_eq_false fun e => c (by injection e with e; exact e.symm)
theorem skip_is {x : Rw} (h : Okr x) : decide (V.str (wd x) = V.str "skip") = isS x := by
  cases x with
  | skip k' => show decide (V.str "skip" = V.str "skip") = true; decide +kernel
  | unl k' => show decide (V.str "unless" = V.str "skip") = false; decide +kernel
  | oth xs =>
    obtain ⟨w, r, rfl, hne, _⟩ := h
    exact decide_eq_false fun e => hne (by injection e)
def isU : Rw → Bool
  | .unl _ => true
  | _ => false
theorem unl_is {x : Rw} (h : Okr x) : decide (V.str (wd x) = V.str "unless") = isU x := by
  cases x with
  | skip k' => show decide (V.str "skip" = V.str "unless") = false; decide +kernel
  | unl k' => show decide (V.str "unless" = V.str "unless") = true; decide +kernel
  | oth xs =>
    obtain ⟨w, r, rfl, _, hne, _⟩ := h
    exact decide_eq_false fun e => hne (by injection e)
def DoneAt (H : Hp) (D : Addr) (d : List (List V)) : Prop := ∃ us : List V, H D = some (.lst us) ∧ us.length = d.length ∧ ∀ (i : Nat) (xs : List V), d[i]? = some xs → ∃ a : Addr, us[i]? = some (V.ref a) ∧ H a = some (.tup xs)
theorem DoneAt.same {H H' : Hp} {D : Addr} {d : List (List V)} (s : Same H H') (h : DoneAt H D d) : DoneAt H' D d := by
  obtain ⟨us, h1, h2, h3⟩ := h
  exact ⟨us, s _ _ h1, h2, fun i xs hi => let ⟨a, e1, e2⟩ := h3 i xs hi; ⟨a, e1, s _ _ e2⟩⟩
theorem DoneAt.snoc {H : Hp} {D a : Addr} {us : List V} {d : List (List V)} {xs : List V} (h : DoneAt H D d) (hD : H D = some (.lst us)) (ha : H a = some (.tup xs)) : DoneAt (upd H D (.lst (us ++ [.ref a]))) D (d ++ [xs]) := by
  obtain ⟨us', h1, h2, h3⟩ := h
  rw [hD] at h1
  cases h1
  have ne : ∀ b ys, H b = some (.tup ys) → b ≠ D := fun b ys e => ne_of e hD (by intro z; cases z)
  refine ⟨_, upd_same, by rw [List.length_append, List.length_append, h2]; rfl, fun i ys hi => ?_⟩
  by_cases c : i < d.length
  · rw [List.getElem?_append_left c] at hi
    obtain ⟨b, e1, e2⟩ := h3 i ys hi
    exact ⟨b, by rw [List.getElem?_append_left (by omega)]; exact e1, upd_at e2 (ne b ys e2)⟩
  · have h4 := (List.getElem?_eq_some_iff.mp hi).1
    rw [List.length_append, List.length_singleton] at h4
    have e : i = d.length := by omega
    subst e
    rw [List.getElem?_append_right (Nat.le_refl _), Nat.sub_self] at hi
    cases hi
    exact ⟨a, by rw [List.getElem?_append_right (by omega), h2, Nat.sub_self]; rfl, upd_at ha (ne a xs ha)⟩
section
variable {P : Program} {w : World} {K : PySem.W.Frag} {mg : Str → Option Value} {base : Heap} {f : Addr} {fd : FuncData}
def stDn (p : Addr) (b : Int) (at' : Nat) (D : Addr) (many : Nat) (rest : Int) (o : Option V) : St := [some (.ref p), some (.int b), some (.int (at' : Nat)), some (.ref D), some (.int (many : Nat)), some (.int rest), o]
def spDone : Sp := fun vs H Q _ => ∃ (p : Addr) (rs : List Rw) (b : Int), vs = [.ref p, .int b] ∧ RowsAt H p rs ∧ rs.length ≤ 1000 ∧ Wf rs ∧ ∀ t D d m H', Same H H' → H' t = some (.tup [.ref D, .int (m : Nat)]) → DoneAt H' D d → Run rs 0 b d m → d.length ≤ 1000 → Q (.ref t) H'
theorem ok_law_done (F : Fun K "_law_done" "_law_done" s_law_done f fd) (B : NoG mg) : FnOk P w K mg base CX0 1 f fd ["_law_rows_here", "_law_bits"] spDone := by
  refine F.ok sc_law_done (fun vs H Q E h => ?_) (fun cdv A outer s H vs Q E hr h => ?_)
  · obtain ⟨p, rs, b, rfl, _⟩ := h
    rfl
  obtain ⟨p, rs, b, rfl, hR, hn, hW, q⟩ := h
  have nd := sc_law_done.nd
  have hu := hr.units0
  have zz : (4000 : Nat) ≤ sizeLine := by decide
  obtain ⟨us, h1, h2, h3, h4⟩ := id hR
  refine ⟨_, (pss_cons (ps_set (i := 2) nd rfl (Or.inl rfl) pe_int)
      (pss_cons (ps_set (i := 3) nd rfl (Or.inl rfl) (pe_lst pa_nil))
      (pss_cons (ps_set (i := 4) nd rfl (Or.inl rfl) pe_int)
      (pss_cons (ps_set (i := 5) nd rfl (Or.inl rfl) (pv 1))
      (pss_cons (ps_cut (ps_while PassesOwn.never (pt_cmpR (kNe (K := K) hu) (pe_ix (kIx (K := K) (w := w)) (pe_ix (kIx (K := K) (w := w)) (pv 0) (pv 2) (fun _ _ => rfl)) pe_int (fun _ _ => rfl)) pe_str rfl) (pss_cons (ps_set (i := 4) nd rfl (Or.inl rfl) (pe_op uAdd (pv 4) pe_int))
      (pss_cons (ps_set (i := 6) nd rfl (Or.inl rfl) (pe_ix (kIx (K := K) (w := w)) (pv 0) (pv 2) (fun _ _ => rfl)))
      (pss_cons (ps_set (i := 2) nd rfl (Or.inl rfl) (pe_op uAdd (pv 2) pe_int))
      (pss_one (ps_cut (ps_if (pt_cmpR (kEq (K := K) hu) (pe_ix (kIx (K := K) (w := w)) (pv 6) pe_int (fun _ _ => rfl)) pe_str rfl) (pss_one (ps_set (i := 2) nd rfl (Or.inl rfl) (pe_op uAdd (pv 2) (pe_ix (kIx (K := K) (w := w)) (pv 6) pe_int (fun _ _ => rfl))))) (pss_one (ps_cut (ps_if (pt_cmpR (kEq (K := K) hu) (pe_ix (kIx (K := K) (w := w)) (pv 6) pe_int (fun _ _ => rfl)) pe_str rfl) (pss_cons (ps_expr (k_bm (K := K) PySem.F.plainAttrs_list PySem.F.slot_list_append PySem.F.type_list_append mt_append (pv 3) (pa_cons (pe_tup (pa_cons pe_str pa_nil)) pa_nil)))
      (pss_cons (ps_cut (ps_if (pt_cmpR (kEq (K := K) hu) (pe_op op_mod (pv 5) pe_int) pe_int rfl) (pss_one (ps_set (i := 2) nd rfl (Or.inl rfl) (pe_op uAdd (pv 2) (pe_ix (kIx (K := K) (w := w)) (pv 6) pe_int (fun _ _ => rfl))))) pss_nil))
      (pss_one (ps_set (i := 5) nd rfl (Or.inl rfl) (pe_op op_fdiv (pv 5) pe_int))))) (pss_one (ps_expr (k_bm (K := K) PySem.F.plainAttrs_list PySem.F.slot_list_append PySem.F.type_list_append mt_append (pv 3) (pa_cons (pv 6) pa_nil)))))))))))))))
      (pss_one (ps_ret (pe_tup (pa_cons (pv 3) (pa_cons (pv 4) pa_nil)))))))))), ?_⟩
  refine ⟨(by show 0 ≤ sizeLine; decide), fun D hD => ⟨_, rfl, ?_⟩⟩
  have s1 := same_new hD (.lst [])
  have wD : ∀ (Hx : Hp) (o : HO), Same H Hx → Same H (upd Hx D o) := fun Hx o a x u h => by rw [upd_ne (fun e => by subst e; rw [hD] at h; cases h)]; exact a _ _ h
  refine ⟨fun σ H' => ∃ at' rest d many o, σ = stDn p b at' D many rest o ∧ Same H H' ∧ DoneAt H' D d ∧ Run rs 0 b d many ∧ d.length ≤ 1000, ?_, ?_⟩
  · refine ⟨fun m σ H' => ∃ at' rest d many o, σ = stDn p b at' D many rest o ∧ Same H H' ∧ DoneAt H' D d ∧ at' < rs.length ∧ m = rs.length - at' ∧ d.length ≤ at' ∧ ∀ d' m', Run rs at' rest d' m' → Run rs 0 b (d ++ d') (many + m'), ?_, ?_⟩
    · exact ⟨_, 0, b, [], 0, none, rfl, s1, ⟨[], upd_same, rfl, fun i xs hi => by cases hi⟩, hW.1, rfl, Nat.le_refl _, fun d' m' h => by rw [Nat.zero_add]; exact h⟩
    rintro m σ H' ⟨at', rest, d, many, o, rfl, s', hDn, hlt, rfl, hdl, hP⟩
    have hrr := rowAt_get hlt
    generalize rowAt rs at' = r at hrr
    obtain ⟨a, ha, hra⟩ := h4 at' r hrr
    have hok : Okr r := h3 r (List.mem_of_getElem? hrr)
    refine ⟨_, rfl, _, rfl, .inr (.inl ⟨p, us, (at' : Nat), _, rfl, rfl, SqT.of (s' _ _ h1), atI_nat ha, .inr (.inl ⟨a, _, 0, _, rfl, rfl, SqT.of (s' _ _ hra), at0 hok, .inl ⟨rfl, _, rfl, ?_⟩⟩)⟩)⟩
    rw [back_is]
    cases hb : isB r with
    | true =>
      refine ifF (by decide) ⟨at', rest, d, many, o, rfl, s', hDn, ?_, by omega⟩
      have := hP [] 0 (.back hrr hb)
      rw [List.append_nil] at this
      exact this
    | false =>
      refine ifT rfl ⟨fun σ H' => ∃ m', m' < rs.length - at' ∧ ∃ at2 rest d many o, σ = stDn p b at2 D many rest o ∧ Same H H' ∧ DoneAt H' D d ∧ at2 < rs.length ∧ m' = rs.length - at2 ∧ d.length ≤ at2 ∧ ∀ d' m', Run rs at2 rest d' m' → Run rs 0 b (d ++ d') (many + m'), fun _ _ h => h, ?_⟩
      refine ⟨_, rfl, .inl ⟨_, _, rfl, rfl, ?_⟩⟩
      refine ⟨_, rfl, _, rfl, .inr (.inl ⟨p, us, (at' : Nat), _, rfl, rfl, SqT.of (s' _ _ h1), atI_nat ha, ?_⟩)⟩
      refine ⟨_, rfl, .inl ⟨_, _, rfl, rfl, ?_⟩⟩
      refine ⟨_, ?_, fun _ _ h => h⟩
      refine ⟨_, rfl, .inr (.inl ⟨a, _, 0, _, rfl, rfl, SqT.of (s' _ _ hra), at0 hok, .inl ⟨rfl, _, rfl, ?_⟩⟩)⟩
      rw [skip_is hok]
      cases r with
      | skip k =>
        have hj := hW.2 at' _ ⟨_, hrr, .inr rfl⟩
        refine ifT rfl ⟨_, rfl, _, rfl, .inr (.inl ⟨a, _, 1, _, rfl, rfl, SqT.of (s' _ _ hra), rfl, .inl ⟨_, _, rfl, rfl, rs.length - (at' + 1 + k), by omega, at' + 1 + k, rest, d, many + 1, some (.ref a), ?_, s', hDn, hj, rfl, by omega, fun d' m' h => ?_⟩⟩)⟩
        · show [some (V.ref p), some (V.int b), some (V.int ((at' : Int) + 1 + (k : Nat))), some (V.ref D), some (V.int ((many : Int) + 1)), some (V.int rest), some (V.ref a)] = stDn p b (at' + 1 + k) D (many + 1) rest (some (.ref a))
          unfold stDn
          rw [show ((at' + 1 + k : Nat) : Int) = (at' : Int) + 1 + (k : Nat) by omega, show ((many + 1 : Nat) : Int) = (many : Int) + 1 by omega]
        · have := hP d' (m' + 1) (.skip hrr h)
          rw [show many + 1 + m' = many + (m' + 1) by omega]
          exact this
      | unl k =>
        have hj := hW.2 at' _ ⟨_, hrr, .inr rfl⟩
        have hj1 := hW.2 at' (at' + 1) ⟨_, hrr, .inl ⟨rfl, rfl⟩⟩
        refine ifF Bool.false_ne_true ?_
        refine ⟨_, ?_, fun _ _ h => h⟩
        refine ⟨_, rfl, .inr (.inl ⟨a, _, 0, _, rfl, rfl, SqT.of (s' _ _ hra), at0 hok, .inl ⟨rfl, _, rfl, ?_⟩⟩)⟩
        rw [unl_is hok]
        obtain ⟨ws, w1, w2, w3⟩ := id hDn
        refine ifT rfl ⟨_, rfl, .inl ⟨rfl, _, SqL.of w1⟩, one1, fun tu htu => ?_⟩
        have st := same_new htu (.tup [.str "unless"])
        refine ⟨D, ws, _, rfl, rfl, st _ _ w1, by omega, ?_⟩
        have hDn2 := (hDn.same st).snoc (st _ _ w1) upd_same
        have s2 := wD _ (.lst (ws ++ [.ref tu])) (s'.trans st)
        have hra2 := s2 _ _ hra
        generalize upd (upd H' tu (.tup [.str "unless"])) D (.lst (ws ++ [.ref tu])) = H2 at hDn2 s2 hra2 ⊢
        refine ⟨fun σ H3 => σ = stDn p b (if rest % 2 = 0 then at' + 1 + k else at' + 1) D (many + 1) rest (some (.ref a)) ∧ H2 = H3, ?_, ?_⟩
        · refine ⟨_, rfl, _, _, rfl, rfl, (by decide : (0 : Int) < 2), .inl ⟨rfl, _, rfl, ite2 (fun c => ?_) (fun c => ?_)⟩⟩
          · have c' : rest % 2 = 0 := by have := of_decide_eq_true c; injection this
            refine ⟨_, rfl, _, rfl, .inr (.inl ⟨a, _, 1, _, rfl, rfl, SqT.of hra2, rfl, .inl ⟨_, _, rfl, rfl, ?_, rfl⟩⟩)⟩
            rw [if_pos c']
            show [some (V.ref p), some (V.int b), some (V.int ((at' : Int) + 1 + (k : Nat))), some (V.ref D), some (V.int ((many : Int) + 1)), some (V.int rest), some (V.ref a)] = stDn p b (at' + 1 + k) D (many + 1) rest (some (.ref a))
            unfold stDn
            rw [show ((at' + 1 + k : Nat) : Int) = (at' : Int) + 1 + (k : Nat) by omega, show ((many + 1 : Nat) : Int) = (many : Int) + 1 by omega]
          · have c' : ¬ rest % 2 = 0 := fun z => c (decide_eq_true (congrArg V.int z))
            refine ⟨?_, rfl⟩
            rw [if_neg c']
            show [some (V.ref p), some (V.int b), some (V.int ((at' : Int) + 1)), some (V.ref D), some (V.int ((many : Int) + 1)), some (V.int rest), some (V.ref a)] = stDn p b (at' + 1) D (many + 1) rest (some (.ref a))
            unfold stDn
            rw [show ((at' + 1 : Nat) : Int) = (at' : Int) + 1 by omega, show ((many + 1 : Nat) : Int) = (many : Int) + 1 by omega]
        rintro σ H3 ⟨rfl, rfl⟩
        have hb1 : (if rest % 2 = 0 then at' + 1 + k else at' + 1) < rs.length := by split <;> omega
        have hb2 : at' + 1 ≤ (if rest % 2 = 0 then at' + 1 + k else at' + 1) := by split <;> omega
        refine ⟨_, rfl, _, _, rfl, rfl, ⟨by decide, by decide⟩, _, ?_, _, rest / 2, d ++ [[.str "unless"]], many + 1, some (.ref a), rfl, s2, hDn2, hb1, rfl, ?_, fun d' m' h => ?_⟩
        · omega
        · rw [List.length_append]; show d.length + 1 ≤ _; omega
        · have := hP ([.str "unless"] :: d') (m' + 1) (.unl hrr h)
          rw [show many + 1 + m' = many + (m' + 1) by omega, List.append_assoc]
          exact this
      | oth xs =>
        have hst : stays (.oth xs) = true := by
          show (!(("back" : Str) == wdO xs)) = true
          rw [show (("back" : Str) == wdO xs) = false from hb]; rfl
        have hj1 := hW.2 at' (at' + 1) ⟨_, hrr, .inl ⟨hst, rfl⟩⟩
        refine ifF Bool.false_ne_true ?_
        refine ⟨_, ?_, fun _ _ h => h⟩
        refine ⟨_, rfl, .inr (.inl ⟨a, _, 0, _, rfl, rfl, SqT.of (s' _ _ hra), at0 hok, .inl ⟨rfl, _, rfl, ?_⟩⟩)⟩
        rw [unl_is hok]
        obtain ⟨ws, w1, w2, w3⟩ := id hDn
        refine ifF Bool.false_ne_true ⟨_, rfl, .inl ⟨rfl, _, SqL.of w1⟩, _, rfl, D, ws, _, rfl, rfl, w1, by omega, ?_⟩
        have hDn2 := hDn.snoc w1 (s' _ _ hra)
        refine ⟨rs.length - (at' + 1), by omega, at' + 1, rest, d ++ [xs], many + 1, some (.ref a), ?_, wD _ _ s', hDn2, hj1, rfl, ?_, fun d' m' h => ?_⟩
        · show [some (V.ref p), some (V.int b), some (V.int ((at' : Int) + 1)), some (V.ref D), some (V.int ((many : Int) + 1)), some (V.int rest), some (V.ref a)] = stDn p b (at' + 1) D (many + 1) rest (some (.ref a))
          unfold stDn
          rw [show ((at' + 1 : Nat) : Int) = (at' : Int) + 1 by omega, show ((many + 1 : Nat) : Int) = (many : Int) + 1 by omega]
        · rw [List.length_append]; show d.length + 1 ≤ _; omega
        · have := hP (xs :: d') (m' + 1) (.oth hrr hb h)
          rw [show many + 1 + m' = many + (m' + 1) by omega, List.append_assoc]
          exact this
  rintro σ H' ⟨at', rest, d, many, o, rfl, s', hDn, hRun, hdl⟩
  refine ⟨_, rfl, _, rfl, two2, fun t ht => ?_⟩
  exact q t D d many _ (s'.trans (same_new ht _)) upd_same (hDn.same (same_new ht _)) hRun hdl
end
end JU
set_option maxHeartbeats 4000000
namespace JU
open PySem L2 BV
open CL (one1 two2 three3)
seal PE PT PW PA PS PSs PTs PI PG PGs PO
abbrev s_law_sound : Stmt := top 20
abbrev s_law_straight : Stmt := top 21
theorem sc_law_sound : FnScope ["_law_rows_here", "_law_at", "_law_row_here"] ["_law_rows_here"] (defScope s_law_sound) := ⟨rfl, rfl, rfl, by decide +kernel, rfl, by decide +kernel, by decide +kernel⟩
theorem sc_law_straight : FnScope ["_law_rows_here", "_law_at", "_law_goal"] ["_law_rows_here"] (defScope s_law_straight) := ⟨rfl, rfl, rfl, by decide +kernel, rfl, by decide +kernel, by decide +kernel⟩
theorem kit_tt {K : PySem.W.Frag} : PySem.W.kitOne K (.type "tuple") (.type "tuple") = some true := rfl
theorem bl_at {ms : List Bool} {j : Nat} {b : Bool} (h : ms[j]? = some b) : atI (ms.map V.bl) (j : Int) = some (.bl b) := atI_nat (by rw [List.getElem?_map, h]; rfl)
def Mkd (rs : List Rw) (i : Nat) (ms : List Bool) : Prop := ms.length = rs.length ∧ ∀ j, j < rs.length → (j = 0 ∨ ∃ s, s < i ∧ R rs s ∧ Src rs s j) → ms[j]? = some true
theorem Mkd.here {rs : List Rw} {i : Nat} {ms : List Bool} (h : Mkd rs i ms) (hR : R rs i) (hi : i < rs.length) : ms[i]? = some true := h.2 i hi (R.iff.mp hR)
theorem Mkd.set {rs : List Rw} {i : Nat} {ms : List Bool} (h : Mkd rs i ms) (p : Nat) : Mkd rs i (ms.set p true) := by
  refine ⟨by rw [List.length_set]; exact h.1, fun j hj hx => ?_⟩
  have := h.2 j hj hx
  by_cases e : p = j
  · subst e; rw [List.getElem?_set_self (by rw [h.1]; exact hj)]
  · rw [List.getElem?_set_ne e]; exact this
theorem eq_back {r : Rw} (h : Okr r) (hb : isB r = true) : r = .oth [.str "back"] := by
  cases r with
  | oth xs =>
    obtain ⟨w, r, rfl, _, _, _, _, hT⟩ := h
    have e : ("back" : Str) = w := eq_of_beq hb
    subst e
    rw [hT.2.2 rfl]
  | _ => cases hb
theorem rv_ne {r : Rw} (h : Okr r) : rv r ≠ [] := by
  cases r with
  | oth xs =>
    obtain ⟨w, r, rfl, _⟩ := h
    intro z; cases z
  | skip k => intro z; cases z
  | unl k => intro z; cases z
section
variable {P : Program} {w : World} {K : PySem.W.Frag} {mg : Str → Option Value} {base : Heap} {f : Addr} {fd : FuncData} {f_law_whole f_law_marked : Addr} {d_law_whole d_law_marked : FuncData}
def stK (p lm : Addr) (o : Option V) : St := [some (.ref p), some (.ref lm), o]
def spMarks : Sp := fun vs H Q _ => ∃ (p : Addr) (rs : List Rw), vs = [.ref p] ∧ RowsAt H p rs ∧ rs.length ≤ 1000 ∧ Wf rs ∧ AllR rs ∧ ∀ (l : Addr) (ms : List Bool) (H' : Hp), Same H H' → H' l = some (.lst (ms.map V.bl)) → (∀ b ∈ ms, b = true) → Q (.ref l) H'
theorem ok_law_marked (F : Fun K "_law_marked" "_law_marked" s_law_marked f fd) (B : NoG mg) : FnOk P w K mg base CX0 1 f fd ["_law_rows_here"] spMarks := by
  refine F.ok sc_law_marked (fun vs H Q E h => ?_) (fun cdv A outer s H vs Q E hr h => ?_)
  · obtain ⟨p, rs, rfl, _⟩ := h
    rfl
  obtain ⟨p, rs, rfl, hR, hn, hW, hA, q⟩ := h
  have nd := sc_law_marked.nd
  have hu := hr.units0
  have zz : (4000 : Nat) ≤ sizeLine := by decide
  obtain ⟨us, h1, h2, h3, h4⟩ := id hR
  refine ⟨_, (pss_cons (ps_setComp (i := 1) nd rfl rfl (CompScope.mk (N := ["_law_rows_here", "_law_marks", "_law_at"]) (sc := defScope s_law_marked) (caps := []) (ns := []) (by decide +kernel) rfl (by decide +kernel) rfl (by decide +kernel) rfl (by decide +kernel) (by decide +kernel)) rfl rfl rfl (pi_range1 rfl B.range_ (pa_cons (pe_callB (k_len (K := K)) rfl B.len_ bt_len (pa_cons (pv 0) pa_nil)) pa_nil)) (fun _ _ _ _ _ => pts_nil) (fun _ _ _ _ _ => (pe_cmpR (kEq (K := K) hu) (pv 0) pe_int rfl)))
      (pss_cons (ps_cut (ps_for PassesOwn.never rfl (pi_range1 rfl B.range_ (pa_cons (pe_callB (k_len (K := K)) rfl B.len_ bt_len (pa_cons (pv 0) pa_nil)) pa_nil)) (pg_name (i := 2) nd rfl (Or.inl rfl)) (pss_cons (ps_cut (ps_if (PW.pt (pw_and (k_truth (K := K) (pe_ix (kIx (K := K) (w := w)) (pv 1) (pv 2) (fun _ _ => rfl)) (fun _ => rfl)) (pw_and1 (pt_cmpR (kIn (K := K) (w := w)) (pe_ix (kIx (K := K) (w := w)) (pe_ix (kIx (K := K) (w := w)) (pv 0) (pv 2) (fun _ _ => rfl)) pe_int (fun _ _ => rfl)) (pe_tup (pa_cons pe_str (pa_cons pe_str pa_nil))) rfl)))) (pss_one (ps_asg pe_bl (pg_sub (pv 1) (pe_op uAdd (pe_op uAdd (pv 2) pe_int) (pe_ix (kIx (K := K) (w := w)) (pe_ix (kIx (K := K) (w := w)) (pv 0) (pv 2) (fun _ _ => rfl)) pe_int (fun _ _ => rfl))) set_list))) pss_nil))
      (pss_one (ps_cut (ps_if (PW.pt (pw_and (k_truth (K := K) (pe_ix (kIx (K := K) (w := w)) (pv 1) (pv 2) (fun _ _ => rfl)) (fun _ => rfl)) (pw_and1 (pt_cmpR (kNotIn (K := K)) (pe_ix (kIx (K := K) (w := w)) (pe_ix (kIx (K := K) (w := w)) (pv 0) (pv 2) (fun _ _ => rfl)) pe_int (fun _ _ => rfl)) (pe_tup (pa_cons pe_str (pa_cons pe_str pa_nil))) rfl)))) (pss_one (ps_asg pe_bl (pg_sub (pv 1) (pe_op uAdd (pv 2) pe_int) set_list))) pss_nil))))))
      (pss_one (ps_ret (pv 1))))), ?_⟩
  refine ⟨_, rfl, _, _, rfl, .inr ⟨_, SqT.of h1, rfl⟩, _, rfl, by omega, by omega, comp_range (n := us.length) (fun i zs H' => H = H' ∧ ∃ ms : List Bool, zs = ms.map V.bl ∧ ms.length = i ∧ (0 < i → ms[0]? = some true)) ⟨rfl, [], rfl, rfl, fun z => absurd z (Nat.lt_irrefl _)⟩ ?_ ?_ ?_⟩
  · rintro i zs H' hi ⟨_, ms, rfl, hl, _⟩
    rw [List.length_map]; omega
  · rintro i zs H' hi ⟨rfl, ms, rfl, hl, hm⟩
    refine noTest ⟨_, rfl, .inl ⟨rfl, rfl, ms ++ [decide (V.int (0 + (i : Int)) = V.int 0)], by rw [List.map_append]; rfl, by rw [List.length_append, hl]; rfl, fun _ => ?_⟩⟩
    cases i with
    | zero =>
      rw [List.length_eq_zero_iff.mp hl]
      rfl
    | succ i =>
      rw [List.getElem?_append_left (by omega)]
      exact hm (Nat.succ_pos _)
  rintro zs H' ⟨rfl, ms, rfl, hl, hm⟩ lm hlm
  have s1 := same_new hlm (.lst (ms.map V.bl))
  have hl1 : upd H lm (.lst (ms.map V.bl)) lm = some (.lst (ms.map V.bl)) := upd_same
  generalize upd H lm (.lst (ms.map V.bl)) = H1 at s1 hl1 ⊢
  have wl : ∀ (Hx : Hp) (o : HO), Same H Hx → Same H (upd Hx lm o) := fun Hx o a x u h => by rw [upd_ne (fun e => by subst e; rw [hlm] at h; cases h)]; exact a _ _ h
  refine ⟨fun σ H' => ∃ o ms, σ = stK p lm o ∧ Same H H' ∧ H' lm = some (.lst (ms.map V.bl)) ∧ Mkd rs rs.length ms, ?_, ?_⟩
  · refine ⟨_, rfl, _, _, rfl, .inr ⟨_, SqT.of (s1 _ _ h1), rfl⟩, _, rfl, by omega, by omega, for_range (n := us.length) (fun i σ H' => ∃ o ms, σ = stK p lm o ∧ Same H H' ∧ H' lm = some (.lst (ms.map V.bl)) ∧ Mkd rs i ms) ?_ ?_ ?_⟩
    · refine ⟨none, ms, rfl, s1, hl1, by omega, fun j hj hx => ?_⟩
      rcases hx with rfl | ⟨s, hs, _⟩
      · exact hm (by omega)
      · exact absurd hs (Nat.not_lt_zero _)
    · rintro i σ H2 hi ⟨o, ms2, rfl, s2, hl2, hM⟩
      have hi' : i < rs.length := by omega
      have hRi := hA i hi'
      have hrr := rowAt_get hi'
      generalize rowAt rs i = r at hrr
      obtain ⟨a, ha, hra⟩ := h4 i r hrr
      have hok : Okr r := h3 r (List.mem_of_getElem? hrr)
      rw [Int.zero_add]
      refine ⟨fun σ H' => ∃ ms, σ = stK p lm (some (.int (i : Nat))) ∧ Same H H' ∧ H' lm = some (.lst (ms.map V.bl)) ∧ Mkd rs i ms ∧ ∀ j, gn r i = some j → ms[j]? = some true, ?_, ?_⟩
      · refine ⟨_, rfl, _, rfl, .inl ⟨lm, _, _, _, rfl, rfl, SqL.of hl2, bl_at (hM.here hRi hi'), true, rfl, ifT rfl ?_⟩⟩
        refine ⟨_, rfl, _, rfl, .inr (.inl ⟨p, us, (i : Nat), _, rfl, rfl, SqT.of (s2 _ _ h1), atI_nat ha, .inr (.inl ⟨a, _, 0, _, rfl, rfl, SqT.of (s2 _ _ hra), at0 hok, two2, fun tt htt => .inr (.inl ⟨tt, JV, rfl, .inr (SqT.of upd_same), rfl, rfl, _, rfl, ?_⟩)⟩)⟩)⟩
        have s3 := s2.trans (same_new htt (.tup JV))
        have hl3 := (same_new htt (.tup JV)) _ _ hl2
        generalize upd H2 tt (.tup JV) = H3 at s3 hl3 ⊢
        show if inV (.str (wd r)) JV = true then _ else _
        rw [inJ hok]
        cases r with
        | oth xs => exact ifF Bool.false_ne_true ⟨ms2, rfl, s3, hl3, hM, fun j h => by cases h⟩
        | skip k =>
          have hj := hW.2 i _ ⟨_, hrr, .inr rfl⟩
          refine ifT rfl ⟨_, rfl, _, rfl, .inl ⟨_, _, rfl, rfl, _, rfl, _, rfl, .inr (.inl ⟨p, us, (i : Nat), _, rfl, rfl, SqT.of (s3 _ _ h1), atI_nat ha, .inr (.inl ⟨a, _, 1, _, rfl, rfl, SqT.of (s3 _ _ hra), rfl, .inl ⟨_, _, rfl, rfl, lm, _, _, i + 1 + k, rfl, rfl, hl3, ?_, ms2.set (i + 1 + k) true, rfl, wl _ _ s3, by rw [upd_same, List.map_set], hM.set _, fun j h => ?_⟩⟩)⟩)⟩⟩
          · rw [show (i : Int) + 1 + ((k : Nat) : Int) = ((i + 1 + k : Nat) : Int) by omega]
            exact ixN_nat (by rw [List.length_map, hM.1]; exact hj)
          · have e : i + 1 + k = j := Option.some.inj h
            subst e
            rw [List.getElem?_set_self (by rw [hM.1]; exact hj)]
        | unl k =>
          have hj := hW.2 i _ ⟨_, hrr, .inr rfl⟩
          refine ifT rfl ⟨_, rfl, _, rfl, .inl ⟨_, _, rfl, rfl, _, rfl, _, rfl, .inr (.inl ⟨p, us, (i : Nat), _, rfl, rfl, SqT.of (s3 _ _ h1), atI_nat ha, .inr (.inl ⟨a, _, 1, _, rfl, rfl, SqT.of (s3 _ _ hra), rfl, .inl ⟨_, _, rfl, rfl, lm, _, _, i + 1 + k, rfl, rfl, hl3, ?_, ms2.set (i + 1 + k) true, rfl, wl _ _ s3, by rw [upd_same, List.map_set], hM.set _, fun j h => ?_⟩⟩)⟩)⟩⟩
          · rw [show (i : Int) + 1 + ((k : Nat) : Int) = ((i + 1 + k : Nat) : Int) by omega]
            exact ixN_nat (by rw [List.length_map, hM.1]; exact hj)
          · have e : i + 1 + k = j := Option.some.inj h
            subst e
            rw [List.getElem?_set_self (by rw [hM.1]; exact hj)]
      rintro σ H4 ⟨ms3, rfl, s4, hl4, hM3, hg3⟩
      have up : ∀ ms4, Mkd rs i ms4 → (∀ j, gn r i = some j → ms4[j]? = some true) → (stays r = true → ms4[i + 1]? = some true) → Mkd rs (i + 1) ms4 := fun ms4 hM4 hg4 hs4 => ⟨hM4.1, fun j hj hx => by
        rcases hx with h | ⟨s, hs, hRs, hS⟩
        · exact hM4.2 j hj (.inl h)
        · by_cases e : s = i
          · subst e
            obtain ⟨r', hr', hx⟩ := hS
            rw [hrr] at hr'
            cases hr'
            rcases hx with ⟨c, rfl⟩ | h
            · exact hs4 c
            · exact hg4 j h
          · exact hM4.2 j hj (.inr ⟨s, by omega, hRs, hS⟩)⟩
      refine ⟨fun σ H' => ∃ o ms, σ = stK p lm o ∧ Same H H' ∧ H' lm = some (.lst (ms.map V.bl)) ∧ Mkd rs (i + 1) ms, ?_, fun _ _ h => h⟩
      refine ⟨_, rfl, _, rfl, .inl ⟨lm, _, _, _, rfl, rfl, SqL.of hl4, bl_at (hM3.here hRi hi'), true, rfl, ifT rfl ?_⟩⟩
      refine ⟨_, rfl, _, rfl, .inr (.inl ⟨p, us, (i : Nat), _, rfl, rfl, SqT.of (s4 _ _ h1), atI_nat ha, .inr (.inl ⟨a, _, 0, _, rfl, rfl, SqT.of (s4 _ _ hra), at0 hok, two2, fun tt htt => .inr ⟨tt, LV, rfl, .inr (SqT.of upd_same), rfl, rfl, _, rfl, ?_⟩⟩)⟩)⟩
      have s5 := s4.trans (same_new htt (.tup LV))
      have hl5 := (same_new htt (.tup LV)) _ _ hl4
      generalize upd H4 tt (.tup LV) = H5 at s5 hl5 ⊢
      show if (!inV (.str (wd r)) LV) = true then _ else _
      rw [inL hok, Bool.not_not]
      cases hs : stays r
      · exact ifF Bool.false_ne_true ⟨_, ms3, rfl, s5, hl5, up ms3 hM3 hg3 (fun z => by rw [hs] at z; cases z)⟩
      · have hj1 := hW.2 i (i + 1) ⟨r, hrr, .inl ⟨hs, rfl⟩⟩
        refine ifT rfl ⟨_, rfl, _, rfl, .inl ⟨_, _, rfl, rfl, lm, _, _, i + 1, rfl, rfl, hl5, ixN_nat (by rw [List.length_map, hM3.1]; exact hj1), _, ms3.set (i + 1) true, rfl, wl _ _ s5, by rw [upd_same, List.map_set], up _ (hM3.set _) (fun j h => ?_) (fun _ => by rw [List.getElem?_set_self (by rw [hM3.1]; exact hj1)])⟩⟩
        by_cases e : i + 1 = j
        · subst e
          rw [List.getElem?_set_self (by rw [hM3.1]; exact hj1)]
        · rw [List.getElem?_set_ne e]; exact hg3 j h
    · rintro σ H2 ⟨o, ms2, rfl, s2, hl2, hM⟩
      rw [h2] at hM
      exact ⟨o, ms2, rfl, s2, hl2, hM⟩
  rintro σ H2 ⟨o, ms2, rfl, s2, hl2, hM⟩
  refine ⟨_, rfl, q lm ms2 H2 s2 hl2 fun b hb => ?_⟩
  obtain ⟨j, hj, e⟩ := List.getElem_of_mem hb
  have hj' : j < rs.length := by rw [← hM.1]; exact hj
  have hx : j = 0 ∨ ∃ s, s < rs.length ∧ R rs s ∧ Src rs s j := by
    rcases R.iff.mp (hA j hj') with h | ⟨s, hs, h5, h6⟩
    · exact .inl h
    · exact .inr ⟨s, by omega, h5, h6⟩
  have := hM.2 j hj' hx
  rw [List.getElem?_eq_getElem hj, e] at this
  exact Option.some.inj this
def stS (p : Addr) (o o2 : Option V) : St := [some (.ref p), o, o2]
def spSound : Sp := fun vs H Q _ => ∃ (p : Addr) (rs : List Rw), vs = [.ref p] ∧ RowsAt H p rs ∧ rs.length ≤ 1000 ∧ Wf rs ∧ ∀ H', Same H H' → Q (.bl true) H'
theorem ok_law_sound (F : Fun K "_law_sound" "_law_sound" s_law_sound f fd) (B : NoG mg)
    (G_law_whole : FnOk P w K mg base CX0 1 f_law_whole d_law_whole ["_law_found"] spWhole) (b_law_whole : Binds K d_law_whole ["_law_found"] []) (k_law_whole : PySem.W.keepIn K (.ref f_law_whole) = true) (m_law_whole : mg "_law_whole" = some (.ref f_law_whole)) :
    FnOk P w K mg base CX0 2 f fd ["_law_rows_here"] spSound := by
  refine F.ok sc_law_sound (fun vs H Q E h => ?_) (fun cdv A outer s H vs Q E hr h => ?_)
  · obtain ⟨p, rs, rfl, _⟩ := h
    rfl
  obtain ⟨p, rs, rfl, hR, hn, hW, q⟩ := h
  have nd := sc_law_sound.nd
  have hu := hr.units0
  have zz : (4000 : Nat) ≤ sizeLine := by decide
  have z0 : (0 : Nat) ≤ sizeLine := Nat.zero_le _
  have hpos := hW.1
  obtain ⟨us, h1, h2, h3, h4⟩ := id hR
  have hune : us ≠ [] := fun z => by rw [z] at h2; simp at h2; omega
  have hlast := rowAt_get (show rs.length - 1 < rs.length by omega)
  have hlok : Okr (rowAt rs (rs.length - 1)) := h3 _ (List.mem_of_getElem? hlast)
  have hlb := eq_back hlok (last_back hW hlast)
  rw [hlb] at hlast
  obtain ⟨la, hla, hlra⟩ := h4 _ _ hlast
  refine ⟨_, (pss_cons (ps_cut (ps_if (PW.pt (pw_or (pt_not (k_truth (K := K) (pe_callB (k_isi (K := K)) rfl B.isinstance_ bt_isinstance (pa_cons (pv 0) (pa_cons (pe_bltn (v := .ty "tuple") rfl B.tuple_ bt_tuple rfl) pa_nil))) (fun _ => rfl))) (pw_or (pt_cmpR (kEqE (K := K) hu) (pv 0) (pe_tup pa_nil) rfl) (pw_or1 (pt_cmpR (kNeF (K := K) hu) (pe_ix (kIx (K := K) (w := w)) (pv 0) (pe_un un_neg pe_int) (fun _ _ => rfl)) (pe_tup (pa_cons pe_str pa_nil)) rfl))))) (pss_one (ps_ret pe_bl)) pss_nil))
      (pss_cons (ps_cut (ps_for PassesOwn.never rfl (pi_range1 rfl B.range_ (pa_cons (pe_callB (k_len (K := K)) rfl B.len_ bt_len (pa_cons (pv 0) pa_nil)) pa_nil)) (pg_name (i := 1) nd rfl (Or.inl rfl)) (pss_cons (ps_set (i := 2) nd rfl (Or.inl rfl) (pe_ix (kIx (K := K) (w := w)) (pv 0) (pv 1) (fun _ _ => rfl)))
      (pss_cons (ps_cut (ps_if (PW.pt (pw_or (pt_not (k_truth (K := K) (pe_callB (k_isi (K := K)) rfl B.isinstance_ bt_isinstance (pa_cons (pv 2) (pa_cons (pe_bltn (v := .ty "tuple") rfl B.tuple_ bt_tuple rfl) pa_nil))) (fun _ => rfl))) (pw_or1 (pt_cmpR (kEqE (K := K) hu) (pv 2) (pe_tup pa_nil) rfl)))) (pss_one (ps_ret pe_bl)) pss_nil))
      (pss_one (ps_cut (ps_if (pt_cmpR (kIn (K := K) (w := w)) (pe_ix (kIx (K := K) (w := w)) (pv 2) pe_int (fun _ _ => rfl)) (pe_tup (pa_cons pe_str (pa_cons pe_str pa_nil))) rfl) (pss_one (ps_cut (ps_if (PW.pt (pw_or (pt_cmpR (kNe (K := K) hu) (pe_callB (k_len (K := K)) rfl B.len_ bt_len (pa_cons (pv 2) pa_nil)) pe_int rfl) (pw_or (pt_not (k_truth (K := K) (pe_call G_law_whole (hr.mono (by first | decide | omega)) rfl m_law_whole k_law_whole b_law_whole .nil pass0 (pa_cons (pe_ix (kIx (K := K) (w := w)) (pv 2) pe_int (fun _ _ => rfl)) pa_nil)) (fun _ => rfl))) (pw_or (pt_cmpR op_lt (pe_ix (kIx (K := K) (w := w)) (pv 2) pe_int (fun _ _ => rfl)) pe_int rfl) (pw_or1 (pt_cmpR op_ge (pe_op uAdd (pe_op uAdd (pv 1) pe_int) (pe_ix (kIx (K := K) (w := w)) (pv 2) pe_int (fun _ _ => rfl))) (pe_callB (k_len (K := K)) rfl B.len_ bt_len (pa_cons (pv 0) pa_nil)) rfl)))))) (pss_one (ps_ret pe_bl)) pss_nil))) pss_nil)))))))
      (pss_one (ps_ret pe_bl)))), ?_⟩
  refine ⟨fun σ H' => σ = stS p none none ∧ Same H H', ?_, ?_⟩
  · refine ⟨_, rfl, _, _, _, _, rfl, .tup h1, kit_tt, true, rfl, ifF (by decide) ?_⟩
    refine ⟨_, rfl, z0, fun e he => ?_⟩
    have s1 := same_new he (.tup [])
    refine ⟨p, e, us, rfl, rfl, SqT.of (s1 _ _ h1), SqT.of upd_same, hune, _, rfl, ifF Bool.false_ne_true ?_⟩
    have hm1 : atI us (-1) = some (.ref la) := by
      have e : us = us.take (us.length - 1) ++ [.ref la] := by
        have hlt : us.length - 1 < us.length := by omega
        have hla' : us[us.length - 1]? = some (.ref la) := by rw [h2]; exact hla
        have e2 : us[us.length - 1] = .ref la := (List.getElem?_eq_some_iff.mp hla').2
        rw [← e2, List.take_append_getElem hlt]
        exact (List.take_of_length_le (by omega)).symm
      rw [e]
      exact atI_last _ _
    refine ⟨_, rfl, _, rfl, .inr (.inl ⟨p, us, -1, _, rfl, rfl, SqT.of (s1 _ _ h1), hm1, one1, fun tb htb => ?_⟩)⟩
    have s2 := s1.trans (same_new htb (.tup [.str "back"]))
    exact ⟨la, tb, [.str "back"], [.str "back"], rfl, rfl, SqT.of (s2 _ _ hlra), SqT.of upd_same, rfl, rfl, _, rfl, ifF (by decide +kernel) ⟨rfl, s2⟩⟩
  rintro σ H1 ⟨rfl, s1⟩
  refine ⟨fun σ H' => Same H H', ?_, fun _ _ h => q _ h⟩
  refine ⟨_, rfl, _, _, rfl, .inr ⟨_, SqT.of (s1 _ _ h1), rfl⟩, _, rfl, by omega, by omega, for_range (n := us.length) (fun i σ H' => ∃ o o2, σ = stS p o o2 ∧ Same H H') ⟨none, none, rfl, s1⟩ ?_ (fun _ _ ⟨_, _, _, h⟩ => h)⟩
  rintro i σ H2 hi ⟨o, o2, rfl, s2⟩
  have hi' : i < rs.length := by omega
  have hrr := rowAt_get hi'
  generalize rowAt rs i = r at hrr
  obtain ⟨a, ha, hra⟩ := h4 i r hrr
  have hok : Okr r := h3 r (List.mem_of_getElem? hrr)
  rw [Int.zero_add]
  refine ⟨_, rfl, _, rfl, .inr (.inl ⟨p, us, (i : Nat), _, rfl, rfl, SqT.of (s2 _ _ h1), atI_nat ha, ?_⟩)⟩
  refine ⟨fun σ H' => σ = stS p (some (.int (i : Nat))) (some (.ref a)) ∧ Same H H', ?_, ?_⟩
  · refine ⟨_, rfl, _, _, _, _, rfl, .tup (s2 _ _ hra), kit_tt, true, rfl, ifF (by decide) ?_⟩
    refine ⟨_, rfl, z0, fun e he => ?_⟩
    have s3 := s2.trans (same_new he (.tup []))
    exact ⟨a, e, rv r, rfl, rfl, SqT.of (s3 _ _ hra), SqT.of upd_same, rv_ne hok, _, rfl, ifF Bool.false_ne_true ⟨rfl, s3⟩⟩
  rintro σ H3 ⟨rfl, s3⟩
  refine ⟨fun σ H' => ∃ o o2, σ = stS p o o2 ∧ Same H H', ?_, fun _ _ h => h⟩
  refine ⟨_, rfl, .inr (.inl ⟨a, _, 0, _, rfl, rfl, SqT.of (s3 _ _ hra), at0 hok, two2, fun tt htt => .inr (.inl ⟨tt, JV, rfl, .inr (SqT.of upd_same), rfl, rfl, _, rfl, ?_⟩)⟩)⟩
  have s4 := s3.trans (same_new htt (.tup JV))
  generalize upd H3 tt (.tup JV) = H4 at s4 ⊢
  show if inV (.str (wd r)) JV = true then _ else _
  rw [inJ hok]
  cases r with
  | oth xs => exact ifF Bool.false_ne_true ⟨_, _, rfl, s4⟩
  | skip k =>
    have hj := hW.2 i _ ⟨_, hrr, .inr rfl⟩
    refine ifT rfl ⟨fun σ H' => ∃ o o2, σ = stS p o o2 ∧ Same H H', ?_, fun _ _ h => h⟩
    refine ⟨_, rfl, _, _, rfl, .inr ⟨_, SqT.of (s4 _ _ hra), rfl⟩, .inl ⟨rfl, _, rfl, ifF (by show ¬ (!decide (V.int ((2 : Nat) : Int) = V.int 2)) = true; decide) ?_⟩⟩
    refine ⟨_, rfl, .inr (.inl ⟨a, _, 1, _, rfl, rfl, SqT.of (s4 _ _ hra), rfl, (k : Nat), rfl, true, rfl, ifF (by decide) ?_⟩)⟩
    refine ⟨_, rfl, .inr (.inl ⟨a, _, 1, _, rfl, rfl, SqT.of (s4 _ _ hra), rfl, _, _, rfl, rfl, _, rfl, ifF (by rw [decide_eq_false (by omega)]; decide) ?_⟩)⟩
    refine ⟨_, rfl, .inl ⟨_, _, rfl, rfl, _, rfl, .inr (.inl ⟨a, _, 1, _, rfl, rfl, SqT.of (s4 _ _ hra), rfl, .inl ⟨_, _, rfl, rfl, _, rfl, _, _, rfl, .inr ⟨_, SqT.of (s4 _ _ h1), rfl⟩, _, _, rfl, rfl, _, rfl, ifF (by rw [decide_eq_false (by omega)]; decide) ⟨_, _, rfl, s4⟩⟩⟩)⟩⟩
  | unl k =>
    have hj := hW.2 i _ ⟨_, hrr, .inr rfl⟩
    refine ifT rfl ⟨fun σ H' => ∃ o o2, σ = stS p o o2 ∧ Same H H', ?_, fun _ _ h => h⟩
    refine ⟨_, rfl, _, _, rfl, .inr ⟨_, SqT.of (s4 _ _ hra), rfl⟩, .inl ⟨rfl, _, rfl, ifF (by show ¬ (!decide (V.int ((2 : Nat) : Int) = V.int 2)) = true; decide) ?_⟩⟩
    refine ⟨_, rfl, .inr (.inl ⟨a, _, 1, _, rfl, rfl, SqT.of (s4 _ _ hra), rfl, (k : Nat), rfl, true, rfl, ifF (by decide) ?_⟩)⟩
    refine ⟨_, rfl, .inr (.inl ⟨a, _, 1, _, rfl, rfl, SqT.of (s4 _ _ hra), rfl, _, _, rfl, rfl, _, rfl, ifF (by rw [decide_eq_false (by omega)]; decide) ?_⟩)⟩
    refine ⟨_, rfl, .inl ⟨_, _, rfl, rfl, _, rfl, .inr (.inl ⟨a, _, 1, _, rfl, rfl, SqT.of (s4 _ _ hra), rfl, .inl ⟨_, _, rfl, rfl, _, rfl, _, _, rfl, .inr ⟨_, SqT.of (s4 _ _ h1), rfl⟩, _, _, rfl, rfl, _, rfl, ifF (by rw [decide_eq_false (by omega)]; decide) ⟨_, _, rfl, s4⟩⟩⟩)⟩⟩
end
end JU
set_option maxHeartbeats 4000000
namespace JU
open PySem L2 BV
open CL (one1 two2 three3)
seal PE PT PW PA PS PSs PTs PI PG PGs PO
abbrev s_law_same_rows : Stmt := top 22
abbrev s_law : Stmt := top 23
theorem sc_law_same_rows : FnScope ["_law_one", "_law_other", "_law_k"] ["_law_one", "_law_other"] (defScope s_law_same_rows) := ⟨rfl, rfl, rfl, by decide +kernel, rfl, by decide +kernel, by decide +kernel⟩
theorem sc_law : FnScope ["_law_script", "_law_rows_here", "_law_found", "_law_bits", "_law_one", "_law_other"] ["_law_script"] (defScope s_law) := ⟨rfl, rfl, rfl, by decide +kernel, rfl, by decide +kernel, by decide +kernel⟩
theorem kit_bb {K : PySem.W.Frag} : PySem.W.kitOne K (.type "bool") (.type "bool") = some true := by rfl
def OkD (xs : List V) : Prop := xs = [.str "unless"] ∨ Okr (.oth xs)
theorem Run.ok {rs : List Rw} (h : ∀ r ∈ rs, Okr r) {a m : Nat} {b : Int} {d : List (List V)} (hr : Run rs a b d m) : ∀ xs ∈ d, OkD xs := by
  induction hr with
  | back _ _ => intro xs hx; cases hx
  | skip _ _ ih => exact ih
  | unl _ _ ih =>
    intro xs hx
    rcases List.mem_cons.mp hx with rfl | hx
    · exact .inl rfl
    · exact ih xs hx
  | oth h1 _ _ ih =>
    intro xs hx
    rcases List.mem_cons.mp hx with rfl | hx
    · exact .inr (h _ (List.mem_of_getElem? h1))
    · exact ih xs hx
theorem okD_word {xs : List V} (h : OkD xs) : ∃ w r, xs = .str w :: r ∧ (∀ x ∈ xs, plainV x = true) ∧ (w = "push" → ∃ v, r = [v] ∧ ((∃ n : Int, v = .int n) ∨ ∃ b : Bool, v = .bl b)) := by
  rcases h with rfl | ⟨w, r, rfl, _, _, hr, _, hT⟩
  · exact ⟨_, [], rfl, fun x hx => by rw [List.mem_singleton.mp hx]; rfl, fun e => absurd e (by decide +kernel)⟩
  · refine ⟨w, r, rfl, fun x hx => ?_, fun e => ?_⟩
    · rcases List.mem_cons.mp hx with rfl | hx
      · rfl
      · exact CL.sc_plain (List.all_eq_true.mp hr x hx)
    · rcases hT.1 e with ⟨n, rfl⟩ | ⟨b, rfl⟩
      · exact ⟨_, rfl, .inl ⟨n, rfl⟩⟩
      · exact ⟨_, rfl, .inr ⟨b, rfl⟩⟩
theorem all_in (ms : List Bool) (h : ∀ b ∈ ms, b = true) : inV (.bl false) (ms.map V.bl) = false := by
  rw [Bool.eq_false_iff]
  intro z
  unfold inV at z
  obtain ⟨x, hx, he⟩ := List.any_eq_true.mp z
  obtain ⟨b, hb, rfl⟩ := List.mem_map.mp hx
  rw [h b hb] at he
  cases he
theorem flat_bls (ms : List Bool) : (ms.map V.bl).all flatV = true := by
  rw [List.all_eq_true]
  intro x hx
  obtain ⟨b, _, rfl⟩ := List.mem_map.mp hx
  rfl
section
variable {P : Program} {w : World} {K : PySem.W.Frag} {mg : Str → Option Value} {base : Heap} {f : Addr} {fd : FuncData} {f_law_whole f_law_marked f_law_rows f_law_cell_at f_law_sound f_law_straight f_law_done f_law_same_rows f_threaded : Addr} {d_law_whole d_law_marked d_law_rows d_law_cell_at d_law_sound d_law_straight d_law_done d_law_same_rows d_threaded : FuncData}
def spStr : Sp := fun vs H Q _ => ∃ (p : Addr) (rs : List Rw), vs = [.ref p] ∧ RowsAt H p rs ∧ rs.length ≤ 1000 ∧ Wf rs ∧ AllR rs ∧ Jok rs ∧ (∀ t : Nat, rs[t]? ≠ some (.skip 0)) ∧ ∀ H', Same H H' → Q (.bl true) H'
theorem ok_law_straight (F : Fun K "_law_straight" "_law_straight" s_law_straight f fd) (B : NoG mg)
    (G_law_marked : FnOk P w K mg base CX0 1 f_law_marked d_law_marked ["_law_rows_here"] spMarks) (b_law_marked : Binds K d_law_marked ["_law_rows_here"] []) (k_law_marked : PySem.W.keepIn K (.ref f_law_marked) = true) (m_law_marked : mg "_law_marked" = some (.ref f_law_marked)) :
    FnOk P w K mg base CX0 2 f fd ["_law_rows_here"] spStr := by
  refine F.ok sc_law_straight (fun vs H Q E h => ?_) (fun cdv A outer s H vs Q E hr h => ?_)
  · obtain ⟨p, rs, rfl, _⟩ := h
    rfl
  obtain ⟨p, rs, rfl, hR, hn, hW, hA, hJ, hZ, q⟩ := h
  have nd := sc_law_straight.nd
  have hu := hr.units0
  have zz : (4000 : Nat) ≤ sizeLine := by decide
  obtain ⟨us, h1, h2, h3, h4⟩ := id hR
  refine ⟨_, (pss_cons (ps_if (pt_cmpR (kIn (K := K) (w := w)) pe_bl (pe_call G_law_marked (hr.mono (by first | decide | omega)) rfl m_law_marked k_law_marked b_law_marked .nil pass0 (pa_cons (pv 0) pa_nil)) rfl) (pss_one (ps_ret pe_bl)) pss_nil)
      (pss_cons (ps_cut (ps_for PassesOwn.never rfl (pi_range1 rfl B.range_ (pa_cons (pe_callB (k_len (K := K)) rfl B.len_ bt_len (pa_cons (pv 0) pa_nil)) pa_nil)) (pg_name (i := 1) nd rfl (Or.inl rfl)) (pss_one (ps_cut (ps_if (pt_cmpR (kIn (K := K) (w := w)) (pe_ix (kIx (K := K) (w := w)) (pe_ix (kIx (K := K) (w := w)) (pv 0) (pv 1) (fun _ _ => rfl)) pe_int (fun _ _ => rfl)) (pe_tup (pa_cons pe_str (pa_cons pe_str pa_nil))) rfl) (pss_cons (ps_set (i := 2) nd rfl (Or.inl rfl) (pe_ix (kIx (K := K) (w := w)) (pe_ix (kIx (K := K) (w := w)) (pv 0) (pe_op uAdd (pe_op uAdd (pv 1) pe_int) (pe_ix (kIx (K := K) (w := w)) (pe_ix (kIx (K := K) (w := w)) (pv 0) (pv 1) (fun _ _ => rfl)) pe_int (fun _ _ => rfl))) (fun _ _ => rfl)) pe_int (fun _ _ => rfl)))
      (pss_one (ps_cut (ps_if (PW.pt (pw_or (pt_cmpR (kEq (K := K) hu) (pv 2) pe_str rfl) (pw_or1 (PW.pt (pw_and (pt_cmpR (kEq (K := K) hu) (pe_ix (kIx (K := K) (w := w)) (pe_ix (kIx (K := K) (w := w)) (pv 0) (pv 1) (fun _ _ => rfl)) pe_int (fun _ _ => rfl)) pe_str rfl) (pw_and1 (PW.pt (pw_or (pt_cmpR (kEq (K := K) hu) (pe_ix (kIx (K := K) (w := w)) (pe_ix (kIx (K := K) (w := w)) (pv 0) (pv 1) (fun _ _ => rfl)) pe_int (fun _ _ => rfl)) pe_int rfl) (pw_or1 (pt_cmpR (kEq (K := K) hu) (pv 2) pe_str rfl)))))))))) (pss_one (ps_ret pe_bl)) pss_nil)))) pss_nil)))))
      (pss_one (ps_ret pe_bl)))), ?_⟩
  refine ⟨_, rfl, p, rs, rfl, hR, hn, hW, hA, fun l ms H1 s1 hl hms => .inr (.inl ⟨l, _, rfl, .inl (SqL.of hl), rfl, flat_bls ms, _, rfl, ?_⟩)⟩
  show if inV (.bl false) (ms.map V.bl) = true then _ else _
  rw [all_in ms hms]
  refine ifF Bool.false_ne_true ?_
  refine ⟨fun σ H' => Same H H', ?_, fun _ _ h => q _ h⟩
  refine ⟨_, rfl, _, _, rfl, .inr ⟨_, SqT.of (s1 _ _ h1), rfl⟩, _, rfl, by omega, by omega, for_range (n := us.length) (fun i σ H' => ∃ o o2, σ = stS p o o2 ∧ Same H H') ⟨none, none, rfl, s1⟩ ?_ (fun _ _ ⟨_, _, _, h⟩ => h)⟩
  rintro i σ H2 hi ⟨o, o2, rfl, s2⟩
  have hi' : i < rs.length := by omega
  have hrr := rowAt_get hi'
  generalize rowAt rs i = r at hrr
  obtain ⟨a, ha, hra⟩ := h4 i r hrr
  have hok : Okr r := h3 r (List.mem_of_getElem? hrr)
  rw [Int.zero_add]
  refine ⟨fun σ H' => ∃ o o2, σ = stS p o o2 ∧ Same H H', ?_, fun _ _ h => h⟩
  refine ⟨_, rfl, _, rfl, .inr (.inl ⟨p, us, (i : Nat), _, rfl, rfl, SqT.of (s2 _ _ h1), atI_nat ha, .inr (.inl ⟨a, _, 0, _, rfl, rfl, SqT.of (s2 _ _ hra), at0 hok, two2, fun tt htt => .inr (.inl ⟨tt, JV, rfl, .inr (SqT.of upd_same), rfl, rfl, _, rfl, ?_⟩)⟩)⟩)⟩
  have s3 := s2.trans (same_new htt (.tup JV))
  generalize upd H2 tt (.tup JV) = H3 at s3 ⊢
  show if inV (.str (wd r)) JV = true then _ else _
  rw [inJ hok]
  cases r with
  | oth xs => exact ifF Bool.false_ne_true ⟨_, _, rfl, s3⟩
  | skip k =>
    have hj := hW.2 i _ ⟨_, hrr, .inr rfl⟩
    have hx := rowAt_get hj
    obtain ⟨j1, j2⟩ := hJ i _ _ _ hrr rfl hx
    have hk : k ≠ 0 := fun e => by subst e; exact hZ i hrr
    generalize rowAt rs (i + 1 + k) = x at hx j1 j2
    obtain ⟨b, hb, hrb⟩ := h4 _ x hx
    have hokb : Okr x := h3 x (List.mem_of_getElem? hx)
    refine ifT rfl ⟨_, rfl, _, rfl, .inl ⟨_, _, rfl, rfl, _, rfl, _, rfl, .inr (.inl ⟨p, us, (i : Nat), _, rfl, rfl, SqT.of (s3 _ _ h1), atI_nat ha, .inr (.inl ⟨a, _, 1, _, rfl, rfl, SqT.of (s3 _ _ hra), rfl, .inl ⟨_, _, rfl, rfl, ?_⟩⟩)⟩)⟩⟩
    have hatb : atI us ((i : Int) + 1 + ((k : Nat) : Int)) = some (.ref b) := by
      rw [show (i : Int) + 1 + ((k : Nat) : Int) = ((i + 1 + k : Nat) : Int) by omega]
      exact atI_nat hb
    refine .inr (.inl ⟨p, us, _, _, rfl, rfl, SqT.of (s3 _ _ h1), hatb, .inr (.inl ⟨b, _, 0, _, rfl, rfl, SqT.of (s3 _ _ hrb), at0 hokb, ?_⟩)⟩)
    refine ⟨fun σ H' => ∃ o o2, σ = stS p o o2 ∧ Same H H', ?_, fun _ _ h => h⟩
    refine ⟨_, rfl, .inl ⟨rfl, _, rfl, ?_⟩⟩
    rw [skip_is hokb, j1]
    refine ifF Bool.false_ne_true ?_
    refine ⟨_, rfl, _, rfl, .inr (.inl ⟨p, us, (i : Nat), _, rfl, rfl, SqT.of (s3 _ _ h1), atI_nat ha, .inr (.inl ⟨a, _, 0, _, rfl, rfl, SqT.of (s3 _ _ hra), rfl, .inl ⟨rfl, _, rfl, ifT (by decide +kernel) ?_⟩⟩)⟩)⟩
    refine ⟨_, rfl, _, rfl, .inr (.inl ⟨p, us, (i : Nat), _, rfl, rfl, SqT.of (s3 _ _ h1), atI_nat ha, .inr (.inl ⟨a, _, 1, _, rfl, rfl, SqT.of (s3 _ _ hra), rfl, .inl ⟨rfl, _, rfl, ifF (by rw [decide_eq_false (fun e => hk (by injection e with e; omega))]; decide) ?_⟩⟩)⟩)⟩
    refine ⟨_, rfl, .inl ⟨rfl, _, rfl, ?_⟩⟩
    rw [back_is, j2 rfl]
    exact ifF Bool.false_ne_true ⟨_, _, rfl, s3⟩
  | unl k =>
    have hj := hW.2 i _ ⟨_, hrr, .inr rfl⟩
    have hx := rowAt_get hj
    obtain ⟨j1, j2⟩ := hJ i _ _ _ hrr rfl hx
    generalize rowAt rs (i + 1 + k) = x at hx j1 j2
    obtain ⟨b, hb, hrb⟩ := h4 _ x hx
    have hokb : Okr x := h3 x (List.mem_of_getElem? hx)
    refine ifT rfl ⟨_, rfl, _, rfl, .inl ⟨_, _, rfl, rfl, _, rfl, _, rfl, .inr (.inl ⟨p, us, (i : Nat), _, rfl, rfl, SqT.of (s3 _ _ h1), atI_nat ha, .inr (.inl ⟨a, _, 1, _, rfl, rfl, SqT.of (s3 _ _ hra), rfl, .inl ⟨_, _, rfl, rfl, ?_⟩⟩)⟩)⟩⟩
    have hatb : atI us ((i : Int) + 1 + ((k : Nat) : Int)) = some (.ref b) := by
      rw [show (i : Int) + 1 + ((k : Nat) : Int) = ((i + 1 + k : Nat) : Int) by omega]
      exact atI_nat hb
    refine .inr (.inl ⟨p, us, _, _, rfl, rfl, SqT.of (s3 _ _ h1), hatb, .inr (.inl ⟨b, _, 0, _, rfl, rfl, SqT.of (s3 _ _ hrb), at0 hokb, ?_⟩)⟩)
    refine ⟨fun σ H' => ∃ o o2, σ = stS p o o2 ∧ Same H H', ?_, fun _ _ h => h⟩
    refine ⟨_, rfl, .inl ⟨rfl, _, rfl, ?_⟩⟩
    rw [skip_is hokb, j1]
    refine ifF Bool.false_ne_true ?_
    exact ⟨_, rfl, _, rfl, .inr (.inl ⟨p, us, (i : Nat), _, rfl, rfl, SqT.of (s3 _ _ h1), atI_nat ha, .inr (.inl ⟨a, _, 0, _, rfl, rfl, SqT.of (s3 _ _ hra), rfl, .inl ⟨rfl, _, rfl, ifF (by decide +kernel) (ifF Bool.false_ne_true ⟨_, _, rfl, s3⟩)⟩⟩)⟩)⟩
def stO (a b : Addr) (o : Option V) : St := [some (.ref a), some (.ref b), o]
def spSameRows : Sp := fun vs H Q _ => ∃ (a b : Addr) (d : List (List V)), vs = [.ref a, .ref b] ∧ DoneAt H a d ∧ DoneAt H b d ∧ (∀ xs ∈ d, OkD xs) ∧ d.length ≤ 1000 ∧ Q (.bl true) H
theorem ok_law_same_rows (F : Fun K "_law_same_rows" "_law_same_rows" s_law_same_rows f fd) (B : NoG mg) : FnOk P w K mg base CX0 1 f fd ["_law_one", "_law_other"] spSameRows := by
  refine F.ok sc_law_same_rows (fun vs H Q E h => ?_) (fun cdv A outer s H vs Q E hr h => ?_)
  · obtain ⟨a, b, d, rfl, _⟩ := h
    rfl
  obtain ⟨a, b, d, rfl, ⟨us, u1, u2, u3⟩, ⟨vs, v1, v2, v3⟩, hok, hn, q⟩ := h
  have nd := sc_law_same_rows.nd
  have hu := hr.units0
  have zz : (4000 : Nat) ≤ sizeLine := by decide
  refine ⟨_, (pss_cons (ps_if (pt_cmpR (kNeLD (K := K) hr.units) (pv 0) (pv 1) rfl) (pss_one (ps_ret pe_bl)) pss_nil)
      (pss_cons (ps_cut (ps_for PassesOwn.never rfl (pi_range1 rfl B.range_ (pa_cons (pe_callB (k_len (K := K)) rfl B.len_ bt_len (pa_cons (pv 0) pa_nil)) pa_nil)) (pg_name (i := 2) nd rfl (Or.inl rfl)) (pss_one (ps_cut (ps_if (PW.pt (pw_and (pt_cmpR (kEq (K := K) hu) (pe_ix (kIx (K := K) (w := w)) (pe_ix (kIx (K := K) (w := w)) (pv 0) (pv 2) (fun _ _ => rfl)) pe_int (fun _ _ => rfl)) pe_str rfl) (pw_and1 (pt_cmpR (kNe (K := K) hu) (pe_callB (k_isi (K := K)) rfl B.isinstance_ bt_isinstance (pa_cons (pe_ix (kIx (K := K) (w := w)) (pe_ix (kIx (K := K) (w := w)) (pv 0) (pv 2) (fun _ _ => rfl)) pe_int (fun _ _ => rfl)) (pa_cons (pe_bltn (v := .ty "bool") rfl B.bool_ bt_bool rfl) pa_nil))) (pe_callB (k_isi (K := K)) rfl B.isinstance_ bt_isinstance (pa_cons (pe_ix (kIx (K := K) (w := w)) (pe_ix (kIx (K := K) (w := w)) (pv 1) (pv 2) (fun _ _ => rfl)) pe_int (fun _ _ => rfl)) (pa_cons (pe_bltn (v := .ty "bool") rfl B.bool_ bt_bool rfl) pa_nil))) rfl)))) (pss_one (ps_ret pe_bl)) pss_nil)))))
      (pss_one (ps_ret pe_bl)))), ?_⟩
  refine ⟨_, rfl, _, rfl, a, b, us, vs, 1, rfl, rfl, SqL.of u1, SqL.of v1, by omega, by decide, fun j x y hx hy => ?_, _, rfl, ifF Bool.false_ne_true ?_⟩
  · have hj : j < d.length := by rw [← u2]; exact (List.getElem?_eq_some_iff.mp hx).1
    obtain ⟨a1, e1, e2⟩ := u3 j _ (List.getElem?_eq_getElem hj)
    obtain ⟨b1, f1, f2⟩ := v3 j _ (List.getElem?_eq_getElem hj)
    rw [hx] at e1; cases e1
    rw [hy] at f1; cases f1
    obtain ⟨w, r, _, hp, _⟩ := okD_word (hok _ (List.getElem_mem hj))
    refine .inr ⟨a1, b1, _, _, rfl, rfl, SqT.of e2, SqT.of f2, rfl, fun k u v hu' hv' => ?_⟩
    rw [hu'] at hv'
    cases hv'
    exact ⟨hp u (List.mem_of_getElem? hu'), rfl⟩
  refine ⟨fun σ H' => H = H', ?_, fun _ _ h => by subst h; exact q⟩
  refine ⟨_, rfl, _, _, rfl, .inl ⟨_, SqL.of u1, rfl⟩, _, rfl, by omega, by omega, for_range (n := us.length) (fun i σ H' => ∃ o, σ = stO a b o ∧ H = H') ⟨none, rfl, rfl⟩ ?_ (fun _ _ ⟨_, _, h⟩ => h)⟩
  rintro i σ H2 hi ⟨o, rfl, rfl⟩
  have hj : i < d.length := by omega
  obtain ⟨a1, e1, e2⟩ := u3 i _ (List.getElem?_eq_getElem hj)
  obtain ⟨b1, f1, f2⟩ := v3 i _ (List.getElem?_eq_getElem hj)
  obtain ⟨wd', r, hxs, hp, hpush⟩ := okD_word (hok _ (List.getElem_mem hj))
  rw [hxs] at e2 f2
  rw [Int.zero_add]
  refine ⟨fun σ H' => ∃ o, σ = stO a b o ∧ H = H', ?_, fun _ _ h => h⟩
  refine ⟨_, rfl, _, rfl, .inl ⟨a, us, (i : Nat), _, rfl, rfl, SqL.of u1, atI_nat e1, .inr (.inl ⟨a1, _, 0, _, rfl, rfl, SqT.of e2, atI_nat (j := 0) rfl, .inl ⟨rfl, _, rfl, ite2 (fun e => ?_) (fun e => ifF Bool.false_ne_true ⟨_, rfl, rfl⟩)⟩⟩)⟩⟩
  have ew : wd' = "push" := by have := of_decide_eq_true e; injection this
  obtain ⟨v, rfl, hor⟩ := hpush ew
  refine ⟨_, rfl, _, rfl, .inl ⟨a, us, (i : Nat), _, rfl, rfl, SqL.of u1, atI_nat e1, .inr (.inl ⟨a1, _, 1, v, rfl, rfl, SqT.of e2, atI_nat (j := 1) rfl, ?_⟩)⟩⟩
  rcases hor with ⟨n, rfl⟩ | ⟨c, rfl⟩
  · exact ⟨_, _, _, _, rfl, .int _, kit_ib, _, rfl, _, rfl, .inl ⟨b, vs, (i : Nat), _, rfl, rfl, SqL.of v1, atI_nat f1, .inr (.inl ⟨b1, _, 1, _, rfl, rfl, SqT.of f2, atI_nat (j := 1) rfl, _, _, _, _, rfl, .int _, kit_ib, .inl ⟨rfl, _, rfl, ifF (by decide) ⟨_, rfl, rfl⟩⟩⟩)⟩⟩
  · exact ⟨_, _, _, _, rfl, .bl _, kit_bb, _, rfl, _, rfl, .inl ⟨b, vs, (i : Nat), _, rfl, rfl, SqL.of v1, atI_nat f1, .inr (.inl ⟨b1, _, 1, _, rfl, rfl, SqT.of f2, atI_nat (j := 1) rfl, _, _, _, _, rfl, .bl _, kit_bb, .inl ⟨rfl, _, rfl, ifF (by decide) ⟨_, rfl, rfl⟩⟩⟩)⟩⟩
end
end JU
set_option maxHeartbeats 4000000
namespace JU
open PySem L2 BV
open CL (one1 two2 three3)
seal PE PT PW PA PS PSs PTs PI PG PGs PO
theorem cut_any (ns : List Int) (lo hi : Option Int) : ∃ cs : List Int, cutV (ns.map V.int) lo hi = cs.map V.int ∧ cs.length ≤ ns.length := by
  refine ⟨(ns.drop (HT.sIx (ns.map V.int).length 0 lo)).take (HT.sIx (ns.map V.int).length (ns.map V.int).length hi - HT.sIx (ns.map V.int).length 0 lo), ?_, ?_⟩
  · unfold cutV
    rw [List.map_take, List.map_drop]
  · rw [List.length_take, List.length_drop]; omega
section
variable {P : Program} {w : World} {K : PySem.W.Frag} {mg : Str → Option Value} {base : Heap} {f : Addr} {fd : FuncData} {f_law_whole f_law_marked f_law_rows f_law_cell_at f_law_sound f_law_straight f_law_done f_law_same_rows f_threaded : Addr} {d_law_whole d_law_marked d_law_rows d_law_cell_at d_law_sound d_law_straight d_law_done d_law_same_rows d_threaded : FuncData}
def stQ (sa p fo : Addr) (a3 a4 a5 : Option V) : St := [some (.ref sa), some (.ref p), some (.ref fo), a3, a4, a5]
def spLaw (K : PySem.W.Frag) : Sp := fun vs H Q _ => ∃ (a : Addr) (ns : List Int), vs = [.ref a] ∧ SqL K H a (ns.map V.int) ∧ ns.length ≤ 63 ∧ ∀ H', Q (.bl true) H'
theorem ok_law (F : Fun K "law" "law" s_law f fd) (B : NoG mg)
    (G_law_rows : FnOk P w K mg base CX0 2 f_law_rows d_law_rows ["_law_cells", "_law_has_ways"] (spRows2 K)) (b_law_rows : Binds K d_law_rows ["_law_cells", "_law_has_ways"] []) (k_law_rows : PySem.W.keepIn K (.ref f_law_rows) = true) (m_law_rows : mg "_law_rows" = some (.ref f_law_rows))
    (G_law_cell_at : FnOk P w K mg base CX0 1 f_law_cell_at d_law_cell_at ["_law_script", "_law_k"] (spCellA K)) (b_law_cell_at : Binds K d_law_cell_at ["_law_script", "_law_k"] []) (k_law_cell_at : PySem.W.keepIn K (.ref f_law_cell_at) = true) (m_law_cell_at : mg "_law_cell_at" = some (.ref f_law_cell_at))
    (G_threaded : FnOk P w K mg base CX0 4 f_threaded d_threaded ["rows"] spThread) (b_threaded : Binds K d_threaded ["rows"] []) (k_threaded : PySem.W.keepIn K (.ref f_threaded) = true) (m_threaded : mg "threaded" = some (.ref f_threaded))
    (G_law_sound : FnOk P w K mg base CX0 2 f_law_sound d_law_sound ["_law_rows_here"] spSound) (b_law_sound : Binds K d_law_sound ["_law_rows_here"] []) (k_law_sound : PySem.W.keepIn K (.ref f_law_sound) = true) (m_law_sound : mg "_law_sound" = some (.ref f_law_sound))
    (G_law_straight : FnOk P w K mg base CX0 2 f_law_straight d_law_straight ["_law_rows_here"] spStr) (b_law_straight : Binds K d_law_straight ["_law_rows_here"] []) (k_law_straight : PySem.W.keepIn K (.ref f_law_straight) = true) (m_law_straight : mg "_law_straight" = some (.ref f_law_straight))
    (G_law_done : FnOk P w K mg base CX0 1 f_law_done d_law_done ["_law_rows_here", "_law_bits"] spDone) (b_law_done : Binds K d_law_done ["_law_rows_here", "_law_bits"] []) (k_law_done : PySem.W.keepIn K (.ref f_law_done) = true) (m_law_done : mg "_law_done" = some (.ref f_law_done))
    (G_law_same_rows : FnOk P w K mg base CX0 1 f_law_same_rows d_law_same_rows ["_law_one", "_law_other"] spSameRows) (b_law_same_rows : Binds K d_law_same_rows ["_law_one", "_law_other"] []) (k_law_same_rows : PySem.W.keepIn K (.ref f_law_same_rows) = true) (m_law_same_rows : mg "_law_same_rows" = some (.ref f_law_same_rows)) :
    FnOk P w K mg base CX0 5 f fd ["_law_script"] (spLaw K) := by
  refine F.ok sc_law (fun vs H Q E h => ?_) (fun cdv A0 outer s H vs Q E hr h => ?_)
  · obtain ⟨a, ns, rfl, _⟩ := h
    rfl
  obtain ⟨sa, ns, rfl, hS, hn, q⟩ := h
  have nd := sc_law.nd
  have hu := hr.units0
  have zz : (4000 : Nat) ≤ sizeLine := by decide
  refine ⟨_, (pss_cons (ps_set (i := 1) nd rfl (Or.inl rfl) (pe_call G_law_rows (hr.mono (by first | decide | omega)) rfl m_law_rows k_law_rows b_law_rows .nil pass0 (pa_cons (pe_slice (kSl (K := K)) (pv 0) (po_some pe_int) (po_some pe_int)) (pa_cons (pe_cmpR (kEq (K := K) hu) (pe_op op_mod (pe_op op_fdiv (pe_call G_law_cell_at (hr.mono (by first | decide | omega)) rfl m_law_cell_at k_law_cell_at b_law_cell_at .nil pass0 (pa_cons (pv 0) (pa_cons pe_int pa_nil))) pe_int) pe_int) pe_int rfl) pa_nil))))
      (pss_cons (ps_set (i := 2) nd rfl (Or.inl rfl) (pe_call G_threaded (hr.mono (by first | decide | omega)) rfl m_threaded k_threaded b_threaded .nil pass0 (pa_cons (pv 1) pa_nil)))
      (pss_cons (ps_cut (ps_if (PW.pt (pw_or (pt_not (k_truth (K := K) (pe_call G_law_sound (hr.mono (by first | decide | omega)) rfl m_law_sound k_law_sound b_law_sound .nil pass0 (pa_cons (pv 2) pa_nil)) (fun _ => rfl))) (pw_or (pt_cmpR op_gt (pe_callB (k_len (K := K)) rfl B.len_ bt_len (pa_cons (pv 2) pa_nil)) (pe_callB (k_len (K := K)) rfl B.len_ bt_len (pa_cons (pv 1) pa_nil)) rfl) (pw_or1 (pt_not (k_truth (K := K) (pe_call G_law_straight (hr.mono (by first | decide | omega)) rfl m_law_straight k_law_straight b_law_straight .nil pass0 (pa_cons (pv 2) pa_nil)) (fun _ => rfl))))))) (pss_one (ps_ret pe_bl)) pss_nil))
      (pss_cons (ps_cut (ps_for PassesOwn.never rfl (k_ilist (K := K) (pe_op uAdd (pe_lst (pa_cons pe_int (pa_cons (pe_op op_sub (pe_op op_pow pe_int pe_int) pe_int) pa_nil))) (pe_comp (CompScope.mk (N := ["_law_script", "_law_rows_here", "_law_found", "_law_bits", "_law_one", "_law_other"]) (sc := defScope s_law) (caps := [0]) (ns := ["_law_script"]) (by decide +kernel) rfl (by decide +kernel) rfl (by decide +kernel) rfl (by decide +kernel) (by decide +kernel)) rfl rfl rfl (pi_range1 rfl B.range_ (pa_cons pe_int pa_nil)) (fun _ _ _ _ _ => pts_nil) (fun _ _ _ _ _ => (pe_op op_mod (pe_call G_law_cell_at (hr.mono (by first | decide | omega)) rfl m_law_cell_at k_law_cell_at b_law_cell_at .nil pass0 (pa_cons (pv 1) (pa_cons (pv 0) pa_nil))) (pe_op op_pow pe_int pe_int)))))) (pg_name (i := 3) nd rfl (Or.inl rfl)) (pss_cons (ps_set (i := 4) nd rfl (Or.inl rfl) (pe_call G_law_done (hr.mono (by first | decide | omega)) rfl m_law_done k_law_done b_law_done .nil pass0 (pa_cons (pv 1) (pa_cons (pv 3) pa_nil))))
      (pss_cons (ps_set (i := 5) nd rfl (Or.inl rfl) (pe_call G_law_done (hr.mono (by first | decide | omega)) rfl m_law_done k_law_done b_law_done .nil pass0 (pa_cons (pv 2) (pa_cons (pv 3) pa_nil))))
      (pss_one (ps_cut (ps_if (PW.pt (pw_or (pt_not (k_truth (K := K) (pe_call G_law_same_rows (hr.mono (by first | decide | omega)) rfl m_law_same_rows k_law_same_rows b_law_same_rows .nil pass0 (pa_cons (pe_ix (kIx (K := K) (w := w)) (pv 5) pe_int (fun _ _ => rfl)) (pa_cons (pe_ix (kIx (K := K) (w := w)) (pv 4) pe_int (fun _ _ => rfl)) pa_nil))) (fun _ => rfl))) (pw_or1 (pt_cmpR op_gt (pe_ix (kIx (K := K) (w := w)) (pv 5) pe_int (fun _ _ => rfl)) (pe_ix (kIx (K := K) (w := w)) (pv 4) pe_int (fun _ _ => rfl)) rfl)))) (pss_one (ps_ret pe_bl)) pss_nil)))))))
      (pss_one (ps_ret pe_bl)))))), ?_⟩
  refine ⟨_, rfl, _, rfl, _, rfl, .inl ⟨sa, _, rfl, hS, fun ce hce => ?_⟩⟩
  obtain ⟨cs, hcs, hcl⟩ := cut_any ns (some 4) (some 44)
  rw [hcs]
  have s1 := same_new hce (.lst (cs.map V.int))
  have hce1 : upd H ce (.lst (cs.map V.int)) ce = some (.lst (cs.map V.int)) := upd_same
  generalize upd H ce (.lst (cs.map V.int)) = H1 at s1 hce1 ⊢
  refine ⟨_, rfl, sa, ns, 0, rfl, s1.seq hS, Int.le_refl _, fun c => ⟨_, _, rfl, rfl, ⟨by decide, by decide⟩, _, _, rfl, rfl, (by decide : (0 : Int) < 2), .inl ⟨rfl, ?_⟩⟩⟩
  refine ⟨ce, cs, _, rfl, SqL.of hce1, by omega, fun p rs H2 s2 hR hlen hW => ?_⟩
  have hn2 : rs.length ≤ 1000 := by omega
  refine ⟨_, rfl, p, rs, rfl, hR, hn2, hW, fun fo H3 s3 hfo hFo => ?_⟩
  obtain ⟨w3, j3, a3, n3, run3⟩ := th_ok hW
  have hl3 := th_len rs
  generalize th rs = rt at hFo w3 j3 a3 n3 run3 hl3
  have s13 := s1.trans (s2.trans s3)
  have hR3 := hR.same s3
  obtain ⟨us, u1, u2, u3, u4⟩ := id hR3
  obtain ⟨vs, v1, v2, v3, v4⟩ := id hFo
  refine ⟨fun σ H' => σ = stQ sa p fo none none none ∧ Same H3 H', ?_, ?_⟩
  · refine ⟨_, rfl, fo, rt, rfl, hFo, by omega, w3, fun H4 s4 => ⟨true, rfl, ifF (by decide) ?_⟩⟩
    refine ⟨_, rfl, _, _, rfl, .inr ⟨_, SqT.of (s4 _ _ v1), rfl⟩, _, rfl, _, _, rfl, .inr ⟨_, SqT.of (s4 _ _ u1), rfl⟩, _, _, rfl, rfl, _, rfl, ifF (by rw [decide_eq_false (by omega)]; decide) ?_⟩
    exact ⟨_, rfl, fo, rt, rfl, hFo.same s4, by omega, w3, a3, j3, n3, fun H5 s5 => ⟨true, rfl, ifF (by decide) ⟨rfl, s4.trans s5⟩⟩⟩
  rintro σ H4 ⟨rfl, s4⟩
  refine ⟨fun σ H' => True, ?_, fun _ _ _ => q _⟩
  refine ⟨_, _, rfl, rfl, ⟨by decide, by decide, by decide⟩, _, _, rfl, rfl, two2, fun l1 hl1 => ?_⟩
  obtain ⟨big, hbig⟩ : ∃ big : Int, big = (2 : Int) ^ (64 : Int).toNat - 1 := ⟨_, rfl⟩
  have s5 := s4.trans (same_new hl1 (.lst [.int 0, .int big]))
  have hl15 : upd H4 l1 (.lst [.int 0, .int big]) l1 = some (.lst [.int 0, .int big]) := upd_same
  rw [hbig] at s5 hl15
  show tComp _ _ _ _ _ (upd H4 l1 (.lst [.int 0, .int ((2 : Int) ^ (64 : Int).toNat - 1)])) _
  generalize upd H4 l1 (.lst [.int 0, .int ((2 : Int) ^ (64 : Int).toNat - 1)]) = H5 at s5 hl15 ⊢
  rw [← hbig] at hl15
  refine ⟨_, rfl, by decide, by decide, comp_range (n := (4 : Int).toNat) (fun i zs H' => H5 = H' ∧ ∃ is : List Int, zs = is.map V.int ∧ is.length = i) ⟨rfl, [], rfl, rfl⟩ ?_ ?_ ?_⟩
  · rintro i zs H' hi ⟨_, is, rfl, rfl⟩
    rw [List.length_map]
    have : (4 : Int).toNat = 4 := rfl
    omega
  · rintro i zs H' hi ⟨rfl, is, rfl, rfl⟩
    refine noTest ⟨_, rfl, _, rfl, sa, ns, _, rfl, (s13.trans s5).seq hS, by omega, fun c => ⟨_, _, rfl, rfl, ⟨by decide, by decide, by decide⟩, _, _, rfl, rfl, (by decide : (0 : Int) < 2 ^ 40), rfl, is ++ [c % 2 ^ 40], by rw [List.map_append]; rfl, by rw [List.length_append]; rfl⟩⟩
  rintro zs H' ⟨rfl, is, rfl, hil⟩ D hD
  have s6 := s5.trans (same_new hD (.lst (is.map V.int)))
  have hl16 := (same_new hD (.lst (is.map V.int))) _ _ hl15
  have hD6 : upd H5 D (.lst (is.map V.int)) D = some (.lst (is.map V.int)) := upd_same
  generalize upd H5 D (.lst (is.map V.int)) = H6 at s6 hl16 hD6 ⊢
  refine .inr (.inr ⟨l1, D, _, _, rfl, rfl, hl16, hD6, ?_, fun l hl => ?_⟩)
  · rw [List.length_map, hil]
    show 2 + 4 ≤ sizeLine
    decide
  have s7 := s6.trans (same_new hl (.lst ([.int 0, .int big] ++ is.map V.int)))
  have hl7 : upd H6 l (.lst ([.int 0, .int big] ++ is.map V.int)) l = some (.lst (([0, big] ++ is).map V.int)) := by rw [upd_same, List.map_append]; rfl
  generalize upd H6 l (.lst ([.int 0, .int big] ++ is.map V.int)) = H7 at s7 hl7 ⊢
  refine ⟨l, rfl, ⟨_, SqL.of hl7⟩, for_list (xs := ([0, big] ++ is).map V.int) (fun i σ H' => ∃ a3 a4 a5, σ = stQ sa p fo a3 a4 a5 ∧ Same H7 H') ⟨none, none, none, rfl, Same.refl _⟩ ?_ ?_ (fun _ _ _ => trivial)⟩
  · rintro i σ H' _ ⟨_, _, _, _, s'⟩
    exact SqL.of (s' _ _ hl7)
  rintro i x σ H8 hx ⟨a3', a4', a5', rfl, s8⟩
  obtain ⟨bt, rfl⟩ : ∃ bt, x = .int bt := by
    obtain ⟨bt, _, e⟩ := List.mem_map.mp (List.mem_of_getElem? hx)
    exact ⟨bt, e.symm⟩
  have s38 := s7.trans s8
  refine ⟨_, rfl, _, rfl, p, rs, bt, rfl, hR3.same s38, hn2, hW, fun t1 D1 d1 m1 H9 s9 ht1 hD1 hr1 hd1 => ?_⟩
  refine ⟨_, rfl, _, rfl, fo, rt, bt, rfl, (hFo.same s38).same s9, by omega, w3, fun t2 D2 d2 m2 H10 s10 ht2 hD2 hr2 hd2 => ?_⟩
  obtain ⟨m3, hm3, hr3⟩ := run3 bt d1 m1 hr1
  obtain ⟨rfl, rfl⟩ := hr3.det hr2
  refine ⟨fun σ H' => ∃ a3 a4 a5, σ = stQ sa p fo a3 a4 a5 ∧ Same H7 H', ?_, fun _ _ h => h⟩
  refine ⟨_, rfl, .inr (.inl ⟨t2, _, 0, _, rfl, rfl, SqT.of ht2, atI_nat (j := 0) rfl, _, rfl, .inr (.inl ⟨t1, _, 0, _, rfl, rfl, SqT.of (s10 _ _ ht1), atI_nat (j := 0) rfl, D2, D1, d1, rfl, hD2, hD1.same s10, hr1.ok u3, hd1, true, rfl, ifF (by decide) ?_⟩)⟩)⟩
  exact ⟨_, rfl, .inr (.inl ⟨t2, _, 1, _, rfl, rfl, SqT.of ht2, atI_nat (j := 1) rfl, _, rfl, .inr (.inl ⟨t1, _, 1, _, rfl, rfl, SqT.of (s10 _ _ ht1), atI_nat (j := 1) rfl, _, _, rfl, rfl, _, rfl, ifF (by rw [decide_eq_false (by omega)]; decide) ⟨_, _, _, rfl, s8.trans (s9.trans s10)⟩⟩)⟩)⟩
end
end JU
set_option maxHeartbeats 4000000
namespace JU
open PySem L2 BV
theorem all_mk {l : PySem.W.OpenLaw} {w : World} {K : PySem.W.Frag} {h : Heap} {mg : Str → Option Value} {fa : Addr} (X : K.In h) (G : h.Ns mainGlobals mg) (hfa : mg "law" = some (.ref fa))
    {f0 f1 f2 f3 f4 f5 f6 f7 f8 f9 f10 f11 f12 f13 f14 f15 f16 f17 f18 f19 : Addr} {od0 an0 od1 an1 od2 an2 od3 an3 od4 an4 od5 an5 od6 an6 od7 an7 od8 an8 od9 an9 od10 an10 od11 an11 od12 an12 od13 an13 od14 an14 od15 an15 od16 an16 od17 an17 od18 an18 od19 an19 : Option Addr} {sl0 sl1 sl2 sl3 sl4 sl5 sl6 sl7 sl8 sl9 sl10 sl11 sl12 sl13 sl14 sl15 sl16 sl17 sl18 sl19 : Array (Option Value)} {oc0 kV0 dc0 pm0 cd0 ct0 oc1 kV1 dc1 pm1 cd1 ct1 oc2 kV2 dc2 pm2 cd2 ct2 oc3 kV3 dc3 pm3 cd3 ct3 oc4 kV4 dc4 pm4 cd4 ct4 oc5 kV5 dc5 pm5 cd5 ct5 oc6 kV6 dc6 pm6 cd6 ct6 oc7 kV7 dc7 pm7 cd7 ct7 oc8 kV8 dc8 pm8 cd8 ct8 oc9 kV9 dc9 pm9 cd9 ct9 oc10 kV10 dc10 pm10 cd10 ct10 oc11 kV11 dc11 pm11 cd11 ct11 oc12 kV12 dc12 pm12 cd12 ct12 oc13 kV13 dc13 pm13 cd13 ct13 oc14 kV14 dc14 pm14 cd14 ct14 oc15 kV15 dc15 pm15 cd15 ct15 oc16 kV16 dc16 pm16 cd16 ct16 oc17 kV17 dc17 pm17 cd17 ct17 oc18 kV18 dc18 pm18 cd18 ct18 oc19 kV19 dc19 pm19 cd19 ct19 : Value}
    (a0 : PySem.W.nsIn K mainGlobals "goals" = some (some (.ref f0))) (l0 : K.lookup f0 = some ⟨oc0, od0, .func (PySem.W.fnOf "goals" "goals" (defArgs s_goals) (defBody s_goals) (defScope s_goals) .none kV0 dc0 pm0 an0 cd0 ct0), sl0⟩) (c0 : PySem.W.codeIn K cd0 "goals" = true) (k0 : PySem.W.keepIn K (.ref f0) = true)
    (a1 : PySem.W.nsIn K mainGlobals "reached" = some (some (.ref f1))) (l1 : K.lookup f1 = some ⟨oc1, od1, .func (PySem.W.fnOf "reached" "reached" (defArgs s_reached) (defBody s_reached) (defScope s_reached) .none kV1 dc1 pm1 an1 cd1 ct1), sl1⟩) (c1 : PySem.W.codeIn K cd1 "reached" = true) (k1 : PySem.W.keepIn K (.ref f1) = true)
    (a2 : PySem.W.nsIn K mainGlobals "new_goal" = some (some (.ref f2))) (l2 : K.lookup f2 = some ⟨oc2, od2, .func (PySem.W.fnOf "new_goal" "new_goal" (defArgs s_new_goal) (defBody s_new_goal) (defScope s_new_goal) .none kV2 dc2 pm2 an2 cd2 ct2), sl2⟩) (c2 : PySem.W.codeIn K cd2 "new_goal" = true) (k2 : PySem.W.keepIn K (.ref f2) = true)
    (a3 : PySem.W.nsIn K mainGlobals "with_goal" = some (some (.ref f3))) (l3 : K.lookup f3 = some ⟨oc3, od3, .func (PySem.W.fnOf "with_goal" "with_goal" (defArgs s_with_goal) (defBody s_with_goal) (defScope s_with_goal) .none kV3 dc3 pm3 an3 cd3 ct3), sl3⟩) (c3 : PySem.W.codeIn K cd3 "with_goal" = true) (k3 : PySem.W.keepIn K (.ref f3) = true)
    (a4 : PySem.W.nsIn K mainGlobals "without" = some (some (.ref f4))) (l4 : K.lookup f4 = some ⟨oc4, od4, .func (PySem.W.fnOf "without" "without" (defArgs s_without) (defBody s_without) (defScope s_without) .none kV4 dc4 pm4 an4 cd4 ct4), sl4⟩) (c4 : PySem.W.codeIn K cd4 "without" = true) (k4 : PySem.W.keepIn K (.ref f4) = true)
    (a5 : PySem.W.nsIn K mainGlobals "ends_of_skips" = some (some (.ref f5))) (l5 : K.lookup f5 = some ⟨oc5, od5, .func (PySem.W.fnOf "ends_of_skips" "ends_of_skips" (defArgs s_ends_of_skips) (defBody s_ends_of_skips) (defScope s_ends_of_skips) .none kV5 dc5 pm5 an5 cd5 ct5), sl5⟩) (c5 : PySem.W.codeIn K cd5 "ends_of_skips" = true) (k5 : PySem.W.keepIn K (.ref f5) = true)
    (a6 : PySem.W.nsIn K mainGlobals "with_goal_at_end" = some (some (.ref f6))) (l6 : K.lookup f6 = some ⟨oc6, od6, .func (PySem.W.fnOf "with_goal_at_end" "with_goal_at_end" (defArgs s_with_goal_at_end) (defBody s_with_goal_at_end) (defScope s_with_goal_at_end) .none kV6 dc6 pm6 an6 cd6 ct6), sl6⟩) (c6 : PySem.W.codeIn K cd6 "with_goal_at_end" = true) (k6 : PySem.W.keepIn K (.ref f6) = true)
    (a7 : PySem.W.nsIn K mainGlobals "straightened" = some (some (.ref f7))) (l7 : K.lookup f7 = some ⟨oc7, od7, .func (PySem.W.fnOf "straightened" "straightened" (defArgs s_straightened) (defBody s_straightened) (defScope s_straightened) .none kV7 dc7 pm7 an7 cd7 ct7), sl7⟩) (c7 : PySem.W.codeIn K cd7 "straightened" = true) (k7 : PySem.W.keepIn K (.ref f7) = true)
    (a8 : PySem.W.nsIn K mainGlobals "reached_alone" = some (some (.ref f8))) (l8 : K.lookup f8 = some ⟨oc8, od8, .func (PySem.W.fnOf "reached_alone" "reached_alone" (defArgs s_reached_alone) (defBody s_reached_alone) (defScope s_reached_alone) .none kV8 dc8 pm8 an8 cd8 ct8), sl8⟩) (c8 : PySem.W.codeIn K cd8 "reached_alone" = true) (k8 : PySem.W.keepIn K (.ref f8) = true)
    (a9 : PySem.W.nsIn K mainGlobals "threaded" = some (some (.ref f9))) (l9 : K.lookup f9 = some ⟨oc9, od9, .func (PySem.W.fnOf "threaded" "threaded" (defArgs s_threaded) (defBody s_threaded) (defScope s_threaded) .none kV9 dc9 pm9 an9 cd9 ct9), sl9⟩) (c9 : PySem.W.codeIn K cd9 "threaded" = true) (k9 : PySem.W.keepIn K (.ref f9) = true)
    (a10 : PySem.W.nsIn K mainGlobals "_law_cell_at" = some (some (.ref f10))) (l10 : K.lookup f10 = some ⟨oc10, od10, .func (PySem.W.fnOf "_law_cell_at" "_law_cell_at" (defArgs s_law_cell_at) (defBody s_law_cell_at) (defScope s_law_cell_at) .none kV10 dc10 pm10 an10 cd10 ct10), sl10⟩) (c10 : PySem.W.codeIn K cd10 "_law_cell_at" = true) (k10 : PySem.W.keepIn K (.ref f10) = true)
    (a11 : PySem.W.nsIn K mainGlobals "_law_whole" = some (some (.ref f11))) (l11 : K.lookup f11 = some ⟨oc11, od11, .func (PySem.W.fnOf "_law_whole" "_law_whole" (defArgs s_law_whole) (defBody s_law_whole) (defScope s_law_whole) .none kV11 dc11 pm11 an11 cd11 ct11), sl11⟩) (c11 : PySem.W.codeIn K cd11 "_law_whole" = true) (k11 : PySem.W.keepIn K (.ref f11) = true)
    (a12 : PySem.W.nsIn K mainGlobals "_law_row" = some (some (.ref f12))) (l12 : K.lookup f12 = some ⟨oc12, od12, .func (PySem.W.fnOf "_law_row" "_law_row" (defArgs s_law_row) (defBody s_law_row) (defScope s_law_row) .none kV12 dc12 pm12 an12 cd12 ct12), sl12⟩) (c12 : PySem.W.codeIn K cd12 "_law_row" = true) (k12 : PySem.W.keepIn K (.ref f12) = true)
    (a13 : PySem.W.nsIn K mainGlobals "_law_rows" = some (some (.ref f13))) (l13 : K.lookup f13 = some ⟨oc13, od13, .func (PySem.W.fnOf "_law_rows" "_law_rows" (defArgs s_law_rows) (defBody s_law_rows) (defScope s_law_rows) .none kV13 dc13 pm13 an13 cd13 ct13), sl13⟩) (c13 : PySem.W.codeIn K cd13 "_law_rows" = true) (k13 : PySem.W.keepIn K (.ref f13) = true)
    (a14 : PySem.W.nsIn K mainGlobals "_law_done" = some (some (.ref f14))) (l14 : K.lookup f14 = some ⟨oc14, od14, .func (PySem.W.fnOf "_law_done" "_law_done" (defArgs s_law_done) (defBody s_law_done) (defScope s_law_done) .none kV14 dc14 pm14 an14 cd14 ct14), sl14⟩) (c14 : PySem.W.codeIn K cd14 "_law_done" = true) (k14 : PySem.W.keepIn K (.ref f14) = true)
    (a15 : PySem.W.nsIn K mainGlobals "_law_marked" = some (some (.ref f15))) (l15 : K.lookup f15 = some ⟨oc15, od15, .func (PySem.W.fnOf "_law_marked" "_law_marked" (defArgs s_law_marked) (defBody s_law_marked) (defScope s_law_marked) .none kV15 dc15 pm15 an15 cd15 ct15), sl15⟩) (c15 : PySem.W.codeIn K cd15 "_law_marked" = true) (k15 : PySem.W.keepIn K (.ref f15) = true)
    (a16 : PySem.W.nsIn K mainGlobals "_law_sound" = some (some (.ref f16))) (l16 : K.lookup f16 = some ⟨oc16, od16, .func (PySem.W.fnOf "_law_sound" "_law_sound" (defArgs s_law_sound) (defBody s_law_sound) (defScope s_law_sound) .none kV16 dc16 pm16 an16 cd16 ct16), sl16⟩) (c16 : PySem.W.codeIn K cd16 "_law_sound" = true) (k16 : PySem.W.keepIn K (.ref f16) = true)
    (a17 : PySem.W.nsIn K mainGlobals "_law_straight" = some (some (.ref f17))) (l17 : K.lookup f17 = some ⟨oc17, od17, .func (PySem.W.fnOf "_law_straight" "_law_straight" (defArgs s_law_straight) (defBody s_law_straight) (defScope s_law_straight) .none kV17 dc17 pm17 an17 cd17 ct17), sl17⟩) (c17 : PySem.W.codeIn K cd17 "_law_straight" = true) (k17 : PySem.W.keepIn K (.ref f17) = true)
    (a18 : PySem.W.nsIn K mainGlobals "_law_same_rows" = some (some (.ref f18))) (l18 : K.lookup f18 = some ⟨oc18, od18, .func (PySem.W.fnOf "_law_same_rows" "_law_same_rows" (defArgs s_law_same_rows) (defBody s_law_same_rows) (defScope s_law_same_rows) .none kV18 dc18 pm18 an18 cd18 ct18), sl18⟩) (c18 : PySem.W.codeIn K cd18 "_law_same_rows" = true) (k18 : PySem.W.keepIn K (.ref f18) = true)
    (a19 : PySem.W.nsIn K mainGlobals "law" = some (some (.ref f19))) (l19 : K.lookup f19 = some ⟨oc19, od19, .func (PySem.W.fnOf "law" "law" (defArgs s_law) (defBody s_law) (defScope s_law) .none kV19 dc19 pm19 an19 cd19 ct19), sl19⟩) (c19 : PySem.W.codeIn K cd19 "law" = true) (k19 : PySem.W.keepIn K (.ref f19) = true)
    {p_JUMPS : Addr} {o_JUMPS : Option Addr} {i_JUMPS : Array Value} {n_JUMPS : Nat} {s_JUMPS : Array (Option Value)}
    (aW_JUMPS : PySem.W.nsIn K mainGlobals "JUMPS" = some (some (.ref p_JUMPS))) (lW_JUMPS : K.lookup p_JUMPS = some ⟨.type "tuple", o_JUMPS, .seq i_JUMPS n_JUMPS, s_JUMPS⟩) (zW_JUMPS : i_JUMPS.size ≤ sizeLine) (vW_JUMPS : Vals [V.str "skip", V.str "unless"] i_JUMPS.toList)
    {p_LEAVING : Addr} {o_LEAVING : Option Addr} {i_LEAVING : Array Value} {n_LEAVING : Nat} {s_LEAVING : Array (Option Value)}
    (aW_LEAVING : PySem.W.nsIn K mainGlobals "LEAVING" = some (some (.ref p_LEAVING))) (lW_LEAVING : K.lookup p_LEAVING = some ⟨.type "tuple", o_LEAVING, .seq i_LEAVING n_LEAVING, s_LEAVING⟩) (zW_LEAVING : i_LEAVING.size ≤ sizeLine) (vW_LEAVING : Vals [V.str "skip", V.str "back"] i_LEAVING.toList)
    (z_len : PySem.W.nsIn K mainGlobals "len" = some none)
    (z_list : PySem.W.nsIn K mainGlobals "list" = some none)
    (z_range : PySem.W.nsIn K mainGlobals "range" = some none)
    (z_reversed : PySem.W.nsIn K mainGlobals "reversed" = some none)
    (z_enumerate : PySem.W.nsIn K mainGlobals "enumerate" = some none)
    (z_isinstance : PySem.W.nsIn K mainGlobals "isinstance" = some none)
    (z_tuple : PySem.W.nsIn K mainGlobals "tuple" = some none)
    (z_int : PySem.W.nsIn K mainGlobals "int" = some none)
    (z_bool : PySem.W.nsIn K mainGlobals "bool" = some none)
    (z_dict : PySem.W.nsIn K mainGlobals "dict" = some none)
    (z_min : PySem.W.nsIn K mainGlobals "min" = some none) :
    ∃ fd : FuncData, (∀ (s : Shared) (v : Value), BindsTo s fd ⟨[v], []⟩ [("_law_script", v)]) ∧ ∀ base : Heap, K.In base → base.Ns mainGlobals mg → FnOk l.prog w K mg base CX0 5 fa fd ["_law_script"] (spLaw K) := by
  have e := hfa.symm.trans (PySem.W.mg_of X G a19)
  cases e
  have B : NoG mg := ⟨PySem.W.mg_none_of X G z_len, PySem.W.mg_none_of X G z_list, PySem.W.mg_none_of X G z_range, PySem.W.mg_none_of X G z_reversed, PySem.W.mg_none_of X G z_enumerate, PySem.W.mg_none_of X G z_isinstance, PySem.W.mg_none_of X G z_tuple, PySem.W.mg_none_of X G z_int, PySem.W.mg_none_of X G z_bool, PySem.W.mg_none_of X G z_dict, PySem.W.mg_none_of X G z_min⟩
  have T_JUMPS : ∀ H : Hp, SqT K H p_JUMPS [V.str "skip", V.str "unless"] := fun H => .inr ⟨_, i_JUMPS, n_JUMPS, lW_JUMPS, rfl, rfl, zW_JUMPS, vW_JUMPS⟩
  have m_JUMPS := PySem.W.mg_of X G aW_JUMPS
  have T_LEAVING : ∀ H : Hp, SqT K H p_LEAVING [V.str "skip", V.str "back"] := fun H => .inr ⟨_, i_LEAVING, n_LEAVING, lW_LEAVING, rfl, rfl, zW_LEAVING, vW_LEAVING⟩
  have m_LEAVING := PySem.W.mg_of X G aW_LEAVING
  have F0 := fun_mk (st := s_goals) l0 c0 k0
  have b0 := F0.binds (ps := ["rows"]) fun _ _ _ _ _ _ us hl => match us, hl with | [_], _ => rfl
  have m0 := PySem.W.mg_of X G a0
  have F1 := fun_mk (st := s_reached) l1 c1 k1
  have b1 := F1.binds (ps := ["rows"]) fun _ _ _ _ _ _ us hl => match us, hl with | [_], _ => rfl
  have m1 := PySem.W.mg_of X G a1
  have F2 := fun_mk (st := s_new_goal) l2 c2 k2
  have b2 := F2.binds (ps := ["goal", "new_numbers"]) fun _ _ _ _ _ _ us hl => match us, hl with | [_, _], _ => rfl
  have m2 := PySem.W.mg_of X G a2
  have F3 := fun_mk (st := s_with_goal) l3 c3 k3
  have b3 := F3.binds (ps := ["row", "number", "goal"]) fun _ _ _ _ _ _ us hl => match us, hl with | [_, _, _], _ => rfl
  have m3 := PySem.W.mg_of X G a3
  have F4 := fun_mk (st := s_without) l4 c4 k4
  have b4 := F4.binds (ps := ["rows", "gone"]) fun _ _ _ _ _ _ us hl => match us, hl with | [_, _], _ => rfl
  have m4 := PySem.W.mg_of X G a4
  have F5 := fun_mk (st := s_ends_of_skips) l5 c5 k5
  have b5 := F5.binds (ps := ["rows"]) fun _ _ _ _ _ _ us hl => match us, hl with | [_], _ => rfl
  have m5 := PySem.W.mg_of X G a5
  have F6 := fun_mk (st := s_with_goal_at_end) l6 c6 k6
  have b6 := F6.binds (ps := ["rows", "number", "end"]) fun _ _ _ _ _ _ us hl => match us, hl with | [_, _, _], _ => rfl
  have m6 := PySem.W.mg_of X G a6
  have F7 := fun_mk (st := s_straightened) l7 c7 k7
  have b7 := F7.binds (ps := ["rows"]) fun _ _ _ _ _ _ us hl => match us, hl with | [_], _ => rfl
  have m7 := PySem.W.mg_of X G a7
  have F8 := fun_mk (st := s_reached_alone) l8 c8 k8
  have b8 := F8.binds (ps := ["rows"]) fun _ _ _ _ _ _ us hl => match us, hl with | [_], _ => rfl
  have m8 := PySem.W.mg_of X G a8
  have F9 := fun_mk (st := s_threaded) l9 c9 k9
  have b9 := F9.binds (ps := ["rows"]) fun _ _ _ _ _ _ us hl => match us, hl with | [_], _ => rfl
  have m9 := PySem.W.mg_of X G a9
  have F10 := fun_mk (st := s_law_cell_at) l10 c10 k10
  have b10 := F10.binds (ps := ["_law_script", "_law_k"]) fun _ _ _ _ _ _ us hl => match us, hl with | [_, _], _ => rfl
  have m10 := PySem.W.mg_of X G a10
  have F11 := fun_mk (st := s_law_whole) l11 c11 k11
  have b11 := F11.binds (ps := ["_law_found"]) fun _ _ _ _ _ _ us hl => match us, hl with | [_], _ => rfl
  have m11 := PySem.W.mg_of X G a11
  have F12 := fun_mk (st := s_law_row) l12 c12 k12
  have b12 := F12.binds (ps := ["_law_cell", "_law_room"]) fun _ _ _ _ _ _ us hl => match us, hl with | [_, _], _ => rfl
  have m12 := PySem.W.mg_of X G a12
  have F13 := fun_mk (st := s_law_rows) l13 c13 k13
  have b13 := F13.binds (ps := ["_law_cells", "_law_has_ways"]) fun _ _ _ _ _ _ us hl => match us, hl with | [_, _], _ => rfl
  have m13 := PySem.W.mg_of X G a13
  have F14 := fun_mk (st := s_law_done) l14 c14 k14
  have b14 := F14.binds (ps := ["_law_rows_here", "_law_bits"]) fun _ _ _ _ _ _ us hl => match us, hl with | [_, _], _ => rfl
  have m14 := PySem.W.mg_of X G a14
  have F15 := fun_mk (st := s_law_marked) l15 c15 k15
  have b15 := F15.binds (ps := ["_law_rows_here"]) fun _ _ _ _ _ _ us hl => match us, hl with | [_], _ => rfl
  have m15 := PySem.W.mg_of X G a15
  have F16 := fun_mk (st := s_law_sound) l16 c16 k16
  have b16 := F16.binds (ps := ["_law_rows_here"]) fun _ _ _ _ _ _ us hl => match us, hl with | [_], _ => rfl
  have m16 := PySem.W.mg_of X G a16
  have F17 := fun_mk (st := s_law_straight) l17 c17 k17
  have b17 := F17.binds (ps := ["_law_rows_here"]) fun _ _ _ _ _ _ us hl => match us, hl with | [_], _ => rfl
  have m17 := PySem.W.mg_of X G a17
  have F18 := fun_mk (st := s_law_same_rows) l18 c18 k18
  have b18 := F18.binds (ps := ["_law_one", "_law_other"]) fun _ _ _ _ _ _ us hl => match us, hl with | [_, _], _ => rfl
  have m18 := PySem.W.mg_of X G a18
  have F19 := fun_mk (st := s_law) l19 c19 k19
  have b19 := F19.binds (ps := ["_law_script"]) fun _ _ _ _ _ _ us hl => match us, hl with | [_], _ => rfl
  have m19 := PySem.W.mg_of X G a19
  refine ⟨PySem.W.fnOf "law" "law" (defArgs s_law) (defBody s_law) (defScope s_law) .none kV19 dc19 pm19 an19 cd19 ct19, fun s v => .of_eq rfl, fun base _ _ => ?_⟩
  have G0 := ok_goals (P := l.prog) (w := w) (mg := mg) (base := base) F0 B T_JUMPS m_JUMPS
  have G1 := ok_reached (P := l.prog) (w := w) (mg := mg) (base := base) F1 B T_LEAVING m_LEAVING G0 b0 k0 m0
  have G2 := ok_new_goal (P := l.prog) (w := w) (mg := mg) (base := base) F2 
  have G3 := ok_with_goal (P := l.prog) (w := w) (mg := mg) (base := base) F3 
  have G4 := ok_without (P := l.prog) (w := w) (mg := mg) (base := base) F4 B G0 b0 k0 m0 G2 b2 k2 m2 G3 b3 k3 m3
  have G5 := ok_ends_of_skips (P := l.prog) (w := w) (mg := mg) (base := base) F5 B G0 b0 k0 m0
  have G6 := ok_with_goal_at_end (P := l.prog) (w := w) (mg := mg) (base := base) F6 B G3 b3 k3 m3
  have G7 := ok_straightened (P := l.prog) (w := w) (mg := mg) (base := base) F7 B G0 b0 k0 m0 G2 b2 k2 m2 G5 b5 k5 m5 G6 b6 k6 m6
  have G8 := ok_reached_alone (P := l.prog) (w := w) (mg := mg) (base := base) F8 B G1 b1 k1 m1 G4 b4 k4 m4
  have G9 := ok_threaded (P := l.prog) (w := w) (mg := mg) (base := base) F9 B G7 b7 k7 m7 G8 b8 k8 m8 G4 b4 k4 m4
  have G10 := ok_law_cell_at (P := l.prog) (w := w) (mg := mg) (base := base) F10 B
  have G11 := ok_law_whole (P := l.prog) (w := w) (mg := mg) (base := base) F11 B
  have G12 := ok_law_row (P := l.prog) (w := w) (mg := mg) (base := base) F12 B
  have G13 := ok_law_rows (P := l.prog) (w := w) (mg := mg) (base := base) F13 B G12 b12 k12 m12
  have G14 := ok_law_done (P := l.prog) (w := w) (mg := mg) (base := base) F14 B
  have G15 := ok_law_marked (P := l.prog) (w := w) (mg := mg) (base := base) F15 B
  have G16 := ok_law_sound (P := l.prog) (w := w) (mg := mg) (base := base) F16 B G11 b11 k11 m11
  have G17 := ok_law_straight (P := l.prog) (w := w) (mg := mg) (base := base) F17 B G15 b15 k15 m15
  have G18 := ok_law_same_rows (P := l.prog) (w := w) (mg := mg) (base := base) F18 B
  exact ok_law F19 B G13 b13 k13 m13 G10 b10 k10 m10 G9 b9 k9 m9 G16 b16 k16 m16 G17 b17 k17 m17 G14 b14 k14 m14 G18 b18 k18 m18
theorem walk {l : PySem.W.OpenLaw} {q : Program} {loose : List Str} {XP : (Str → Option Value) → Heap → Prop} {YP : World → Heap → Prop} {d : DefRec} {K : Params → PySem.W.Frag} (hn : l.most = some 63) (hdf : d.params.defaults = [])
    (hY : ∀ (w : World) (h : Heap), YP w h → (K w.params).In h)
    (F : ∀ (w : World) (mg : Str → Option Value) (fa : Addr) (h : Heap), (K w.params).In h → h.Ns mainGlobals mg → mg d.name = some (.ref fa) →
      ∃ fd : FuncData, (∀ (s : Shared) (u : Value), BindsTo s fd ⟨[u], []⟩ [("_law_script", u)]) ∧ ∀ base : Heap, (K w.params).In base → base.Ns mainGlobals mg → FnOk l.prog w (K w.params) mg base CX0 5 fa fd ["_law_script"] (spLaw (K w.params))) :
    PySem.W.WalkO q loose XP YP l.row.toRowW d [] (fun f vs => PySem.call f vs) :=
  L2.walk_of (n := 63) (k := 5) (x := "_law_script") (CX := fun _ => CX0) (sp := fun w => spLaw (K w.params)) hn (by decide) hdf ⟨rfl, by decide, by decide⟩ hY F (fun _ _ a ns hl _ hS => ⟨a, ns, rfl, hS, hl, fun _ => rfl⟩) fun _ _ _ _ _ z => z
end JU
open PySem PySem.W PyProof.Rows
set_option maxRecDepth 100000 in
set_option maxHeartbeats 0 in
theorem PySem.Challenge.cw_speakmill_k72_threaded_holds : PySem.Challenge.rw_speakmill_k72_threaded.Holds := by
  w_on; o_law; k_head; (case hw => w_witness2)
  k_fill
  refine JU.walk (l := PySem.Challenge.rw_speakmill_k72_threaded) rfl rfl (fun w h Y => PySem.W.kIn_of Y) ?F
  case F =>
    intro w mg fa h KX G hmg
    refine' JU.all_mk KX G hmg ?a0 ?l0 ?c0 ?k0 ?a1 ?l1 ?c1 ?k1 ?a2 ?l2 ?c2 ?k2 ?a3 ?l3 ?c3 ?k3 ?a4 ?l4 ?c4 ?k4 ?a5 ?l5 ?c5 ?k5 ?a6 ?l6 ?c6 ?k6 ?a7 ?l7 ?c7 ?k7 ?a8 ?l8 ?c8 ?k8 ?a9 ?l9 ?c9 ?k9 ?a10 ?l10 ?c10 ?k10 ?a11 ?l11 ?c11 ?k11 ?a12 ?l12 ?c12 ?k12 ?a13 ?l13 ?c13 ?k13 ?a14 ?l14 ?c14 ?k14 ?a15 ?l15 ?c15 ?k15 ?a16 ?l16 ?c16 ?k16 ?a17 ?l17 ?c17 ?k17 ?a18 ?l18 ?c18 ?k18 ?a19 ?l19 ?c19 ?k19 ?aW_JUMPS ?lW_JUMPS ?zW_JUMPS ?vW_JUMPS ?aW_LEAVING ?lW_LEAVING ?zW_LEAVING ?vW_LEAVING ?z_len ?z_list ?z_range ?z_reversed ?z_enumerate ?z_isinstance ?z_tuple ?z_int ?z_bool ?z_dict ?z_min
    (case a0 => k_is)
    (case l0 => k_is)
    (case c0 => k_is)
    (case k0 => k_is)
    (case a1 => k_is)
    (case l1 => k_is)
    (case c1 => k_is)
    (case k1 => k_is)
    (case a2 => k_is)
    (case l2 => k_is)
    (case c2 => k_is)
    (case k2 => k_is)
    (case a3 => k_is)
    (case l3 => k_is)
    (case c3 => k_is)
    (case k3 => k_is)
    (case a4 => k_is)
    (case l4 => k_is)
    (case c4 => k_is)
    (case k4 => k_is)
    (case a5 => k_is)
    (case l5 => k_is)
    (case c5 => k_is)
    (case k5 => k_is)
    (case a6 => k_is)
    (case l6 => k_is)
    (case c6 => k_is)
    (case k6 => k_is)
    (case a7 => k_is)
    (case l7 => k_is)
    (case c7 => k_is)
    (case k7 => k_is)
    (case a8 => k_is)
    (case l8 => k_is)
    (case c8 => k_is)
    (case k8 => k_is)
    (case a9 => k_is)
    (case l9 => k_is)
    (case c9 => k_is)
    (case k9 => k_is)
    (case a10 => k_is)
    (case l10 => k_is)
    (case c10 => k_is)
    (case k10 => k_is)
    (case a11 => k_is)
    (case l11 => k_is)
    (case c11 => k_is)
    (case k11 => k_is)
    (case a12 => k_is)
    (case l12 => k_is)
    (case c12 => k_is)
    (case k12 => k_is)
    (case a13 => k_is)
    (case l13 => k_is)
    (case c13 => k_is)
    (case k13 => k_is)
    (case a14 => k_is)
    (case l14 => k_is)
    (case c14 => k_is)
    (case k14 => k_is)
    (case a15 => k_is)
    (case l15 => k_is)
    (case c15 => k_is)
    (case k15 => k_is)
    (case a16 => k_is)
    (case l16 => k_is)
    (case c16 => k_is)
    (case k16 => k_is)
    (case a17 => k_is)
    (case l17 => k_is)
    (case c17 => k_is)
    (case k17 => k_is)
    (case a18 => k_is)
    (case l18 => k_is)
    (case c18 => k_is)
    (case k18 => k_is)
    (case a19 => k_is)
    (case l19 => k_is)
    (case c19 => k_is)
    (case k19 => k_is)
    (case aW_JUMPS => k_is)
    (case lW_JUMPS => k_is)
    (case zW_JUMPS => decide)
    (case vW_JUMPS => repeat (first | exact .nil | refine .cons ⟨_, rfl⟩ ?_))
    (case aW_LEAVING => k_is)
    (case lW_LEAVING => k_is)
    (case zW_LEAVING => decide)
    (case vW_LEAVING => repeat (first | exact .nil | refine .cons ⟨_, rfl⟩ ?_))
    (case z_len => k_is)
    (case z_list => k_is)
    (case z_range => k_is)
    (case z_reversed => k_is)
    (case z_enumerate => k_is)
    (case z_isinstance => k_is)
    (case z_tuple => k_is)
    (case z_int => k_is)
    (case z_bool => k_is)
    (case z_dict => k_is)
    (case z_min => k_is)
