import PyProof.Rows.All
import Wide.All
import OpenK.AllK
import Wide.FinOn
import Lean
import PyProof.EqAt
import PyProof.EqKinds
import PyProof.TupleCall
import PySem.Challenge.RW_pagenames_k30_whole_beginnings_led_on
set_option Elab.async false
set_option linter.all false
set_option maxRecDepth 100000
namespace L2
open PySem PySem.Spec PyProof.Rows
abbrev Key := Sum Int Str
def keyIs : Key → Value → Bool
  | .inl k, v => Value.isInt k v
  | .inr x, v => Value.isStrOf x v
def keyH (w : World) : Key → Int
  | .inl k => hashInt k
  | .inr x => hashStr w x
theorem keyIs_shape : ∀ {k : Key} {v : Value}, keyIs k v = true → (∃ i t, k = Sum.inl i ∧ v = Value.int i t) ∨ (∃ x t, k = Sum.inr x ∧ v = Value.str x t)
  | .inl i, v, h => by
    obtain ⟨t, e⟩ := Value.isInt_shape (k := i) (v := v) h
    exact .inl ⟨i, t, rfl, e⟩
  | .inr x, v, h => by
    obtain ⟨t, e⟩ := Value.isStrOf_shape (x := x) (v := v) h
    exact .inr ⟨x, t, rfl, e⟩
theorem keyIs_int (i : Int) (t : Tok) : keyIs (.inl i) (.int i t) = true := by simp [keyIs, Value.isInt]
theorem keyIs_str (x : Str) (t : Tok) : keyIs (.inr x) (.str x t) = true := by simp [keyIs, Value.isStrOf]
theorem key_ll (a b : Int) : decide ((Sum.inl a : Key) = Sum.inl b) = (a == b) := by
  by_cases e : a = b
  · subst e; simp
  · have h : ¬ (Sum.inl a : Key) = Sum.inl b := fun q => e (Sum.inl.inj q)
    rw [decide_eq_false h]
    exact (beq_eq_false_iff_ne.mpr e).symm
theorem key_rr (a b : Str) : decide ((Sum.inr a : Key) = Sum.inr b) = decide (a = b) := by
  by_cases e : a = b
  · subst e; simp
  · have h : ¬ (Sum.inr a : Key) = Sum.inr b := fun q => e (Sum.inr.inj q)
    rw [decide_eq_false h, decide_eq_false e]
theorem key_lr (a : Int) (b : Str) : decide ((Sum.inl a : Key) = Sum.inr b) = false := decide_eq_false (fun q => nomatch q)
theorem key_rl (a : Str) (b : Int) : decide ((Sum.inr a : Key) = Sum.inl b) = false := decide_eq_false (fun q => nomatch q)
def mixKind (prog : Program) (w : World) : PySem.KeyKind prog w Key where
  is := keyIs
  hash := keyH w
  inj := fun v a b ha hb => by
    rcases keyIs_shape ha with ⟨i, t, rfl, rfl⟩ | ⟨x, t, rfl, rfl⟩
    · rcases keyIs_shape hb with ⟨j, u, rfl, e⟩ | ⟨y, u, rfl, e⟩
      · injection e with e1 _; rw [e1]
      · exact nomatch e
    · rcases keyIs_shape hb with ⟨j, u, rfl, e⟩ | ⟨y, u, rfl, e⟩
      · exact nomatch e
      · injection e with e1 _; rw [e1]
  byValue := fun k v h => by
    rcases keyIs_shape h with ⟨i, t, rfl, rfl⟩ | ⟨x, t, rfl, rfl⟩ <;> rfl
  pyHash := fun hv h => by
    rcases keyIs_shape hv with ⟨i, t, rfl, rfl⟩ | ⟨x, t, rfl, rfl⟩
    · exact wpAny_pyHash_int h
    · exact wpAny_pyHash_str h
  eqBool := fun hu hv h => by
    rcases keyIs_shape hu with ⟨i, t, rfl, rfl⟩ | ⟨x, t, rfl, rfl⟩
    · rcases keyIs_shape hv with ⟨j, u, rfl, rfl⟩ | ⟨y, u, rfl, rfl⟩
      · rw [key_ll] at h; exact wpAny_eqBool_int h
      · rw [key_lr] at h; exact SeqAt.EqAt.int_str i t y u _ _ _ _ h
    · rcases keyIs_shape hv with ⟨j, u, rfl, rfl⟩ | ⟨y, u, rfl, rfl⟩
      · rw [key_rl] at h; exact SeqAt.EqAt.str_int x t j u _ _ _ _ h
      · rw [key_rr] at h; exact wpAny_eqBool_str h
  «strs» := fun k x t v h => by
    rcases keyIs_shape h with ⟨i, u, rfl, e⟩ | ⟨y, u, rfl, e⟩
    · exact nomatch e
    · injection e with e1 _
      subst e1
      cases v <;> rfl
theorem mixKind_int (prog : Program) (w : World) (i : Int) (t : Tok) : (mixKind prog w).is (.inl i) (.int i t) = true := keyIs_int i t
theorem mixKind_str (prog : Program) (w : World) (x : Str) (t : Tok) : (mixKind prog w).is (.inr x) (.str x t) = true := keyIs_str x t
end L2
namespace L2
open PySem PySem.Spec PyProof.Rows
inductive V where
  | non | bl (b : Bool) | int (i : Int) | str (x : Str) | byt (b : Array UInt8) | flt (b : UInt64) | ref (a : Addr) | ty (n : String)
  deriving DecidableEq
def RelV : V → Value → Prop
  | .non, u => u = Value.none
  | .bl b, u => u = Value.bool b
  | .int i, u => ∃ t, u = Value.int i t
  | .str x, u => ∃ t, u = Value.str x t
  | .byt b, u => ∃ t, u = Value.bytes b t
  | .flt b, u => ∃ t, u = Value.float b t
  | .ref a, u => u = Value.ref a
  | .ty n, u => u = Value.type n
abbrev Vals : List V → List Value → Prop := Paired RelV
theorem Vals.length {xs : List V} {us : List Value} (r : Vals xs us) : xs.length = us.length := Paired.length r
theorem Vals.get : ∀ {xs : List V} {us : List Value} {i : Nat} {x : V}, Vals xs us → xs[i]? = some x → ∃ u, us[i]? = some u ∧ RelV x u
  | _, _, _, _, .nil, e => by simp at e
  | _, _, 0, _, .cons r _, e => by simp at e; subst e; exact ⟨_, rfl, r⟩
  | _, _, i + 1, x, .cons _ t, e => by
    obtain ⟨u, h1, h2⟩ := Vals.get (i := i) (x := x) t (by simpa using e)
    exact ⟨u, by simpa using h1, h2⟩
theorem Vals.set {x : V} {u : Value} (r : RelV x u) : ∀ {xs : List V} {us : List Value} (i : Nat), Vals xs us → Vals (xs.set i x) (us.set i u)
  | _, _, _, .nil => .nil
  | _, _, 0, .cons _ t => .cons r t
  | _, _, i + 1, .cons q t => .cons q (Vals.set r i t)
theorem Vals.append : ∀ {xs ys : List V} {us ws : List Value}, Vals xs us → Vals ys ws → Vals (xs ++ ys) (us ++ ws)
  | _, _, _, _, .nil, s => s
  | _, _, _, _, .cons r t, s => .cons r (Vals.append t s)
theorem Vals.take : ∀ {xs : List V} {us : List Value} (n : Nat), Vals xs us → Vals (xs.take n) (us.take n)
  | _, _, 0, _ => .nil
  | _, _, _ + 1, .nil => .nil
  | _, _, n + 1, .cons r t => .cons r (Vals.take n t)
theorem Vals.drop : ∀ {xs : List V} {us : List Value} (n : Nat), Vals xs us → Vals (xs.drop n) (us.drop n)
  | _, _, 0, r => r
  | _, _, _ + 1, .nil => .nil
  | _, _, n + 1, .cons _ t => Vals.drop n t
def RelO : Option V → Option Value → Prop
  | some v, some u => RelV v u
  | none, none => True
  | _, _ => False
def KV {κ : Type} : List (κ × V) → List (κ × Value) → Prop := Paired fun (p : κ × V) (q : κ × Value) => p.1 = q.1 ∧ RelV p.2 q.2
def kV : Key → V
  | .inl i => .int i
  | .inr x => .str x
inductive HO where
  /-- a list -/
  | lst (xs : List V)
  /-- a tuple (never changes) -/
  | tup (xs : List V)
  /-- a dict whose keys are ints and texts; one whose keys are tuples of ints and texts (the empty one is both) -/
  | dK (kvs : List (Key × V)) | dT (kvs : List (List Key × V))
  /-- a set of ints: its members, its size -/
  | set (S : Int → Bool) (n : Nat)
  /-- an instance of the class at C, its dict at dx, its attributes -/
  | ins (C dx : Addr) (fs : List (Str × V))
  /-- the dict of the instance at x -/
  | own (x : Addr)
  /-- the dict of an exception -/
  | xd (fs : List (Str × V))
  /-- a bound method, f of x -/
  | met (f x : Addr)
  /-- a range object lo, lo + 1, .. below hi -/
  | rng (lo hi : Int)
  /-- a thing that is known to the object (the script; a dict while a loop walks it): read, never written while it is so -/
  | frz (o : Obj) (u : HO)
  /-- a code object's table -/
  | tbl (ps : Array Value)
  /-- any other thing, by what is true of its one object (a def of one's own: SetO a S n := HO.ext fun h => ..) -/
  | ext (φ : Heap → Prop)
def IsTupN (h : Heap) (a : Addr) (items : Array Value) : Prop := IsTup h a items ∧ ∃ o, h.get? a = some o ∧ o.dict = none
theorem IsTupN.new (h : Heap) (xs : Array Value) : IsTupN (h.push { cls := .type "tuple", data := .seq xs }) h.objs.size xs := ⟨IsTup.new h xs, _, Heap.get?_push_size _ rfl, rfl⟩
abbrev Hp := Addr → Option HO
def upd (H : Hp) (a : Addr) (o : HO) : Hp := fun b => if b = a then some o else H b
theorem upd_same {H : Hp} {a : Addr} {o : HO} : upd H a o a = some o := by unfold upd; rw [if_pos rfl]
theorem upd_ne {H : Hp} {a b : Addr} {o : HO} (h : b ≠ a) : upd H a o b = H b := by unfold upd; rw [if_neg h]
theorem ne_of {H : Hp} {a b : Addr} {o u : HO} (h : H a = some o) (h' : H b = some u) (d : o ≠ u) : a ≠ b := by
  intro e; subst e; rw [h] at h'; exact d (Option.some.inj h')
theorem ne_of_none {H : Hp} {a b : Addr} {o : HO} (h : H a = some o) (h' : H b = none) : a ≠ b := by
  intro e; subst e; rw [h] at h'; cases h'
section
variable (P : Program) (w : World)
def ObjOk (H : Hp) (h : Heap) (a : Addr) : HO → Prop
  | .lst xs => xs.length ≤ sizeLine ∧ ∃ (its : List Value) (n : Nat), Vals xs its ∧ h.get? a = some { cls := .type "list", data := .seq its.toArray n }
  | .tup xs => xs.length ≤ sizeLine ∧ ∃ its : List Value, Vals xs its ∧ IsTupN h a its.toArray
  | .dK kvs => kvs.length ≤ sizeLine ∧ (a == sysModules) = false ∧ ∃ vs, KV kvs vs ∧ h.DictOf (mixKind P w) a vs
  | .dT kvs => kvs.length ≤ sizeLine ∧ (a == sysModules) = false ∧ ∃ xs : List (List Key × Addr × Value),
      Paired (fun (p : List Key × V) (q : List Key × Addr × Value) => p.1 = q.1 ∧ H q.2.1 = some (.tup (p.1.map kV)) ∧ RelV p.2 q.2.2) kvs xs ∧
      ∃ o es ep, h.get? a = some o ∧ o.ExactDict ∧ o.data = .dict es ep ∧ es.toList = xs.map (entryOfKey (tupleKind (mixKind P w))) ∧ (xs.map (·.1)).Nodup
  | .set S n => h.SetOf (intKind P w) a S n
  | .ins C dx fs => H dx = some (.own a) ∧ fs.length ≤ 1000 ∧ dx ≠ a ∧ h.get? a = some (PySem.W.instObj C dx) ∧
      ∃ mA, h.Ns1 dx mA ∧ (∀ f, RelO (fs.lookup f) (mA f)) ∧ PySem.Within mA (fs.map (·.1))
  | .own _ => ∃ o, h.get? a = some o
  | .xd fs => ∃ mA, h.Ns1 a mA ∧ ∀ f, RelO (fs.lookup f) (mA f)
  | .rng lo hi => ∃ t u v, h.get? a = some { cls := .type "range", data := .fields #[.int lo t, .int hi u, .int 1 v] }
  | .frz o u => h.get? a = some o ∧ ObjOk H h a u
  | .tbl ps => h.get? a = some { cls := .none, data := .fields ps }
  | .met f x => h.get? a = some (PySem.W.methodObj (.ref f) (.ref x))
  | .ext φ => φ h ∧ (∃ o, h.get? a = some o) ∧ ∀ h1 h2 : Heap, φ h1 → (∀ o, h1.get? a = some o → h2.get? a = some o) → φ h2
def HOk (H : Hp) (h : Heap) : Prop := ∀ a o, H a = some o → ObjOk P w H h a o
end
section
variable {P : Program} {w : World} {H H' : Hp} {h h' : Heap} {a : Addr} {o : HO}
theorem ObjOk.lt (x : ObjOk P w H h a o) : a < h.objs.size := by
  cases o with
  | lst xs => obtain ⟨_, _, _, _, e⟩ := x; exact Heap.lt_size e
  | tup xs => obtain ⟨_, _, _, p, _⟩ := x; exact p.lt
  | dK kvs => obtain ⟨_, _, _, _, o, _, _, e, _⟩ := x; exact Heap.lt_size e
  | dT kvs => obtain ⟨_, _, _, _, o, _, _, e, _⟩ := x; exact Heap.lt_size e
  | set S n => obtain ⟨o, _, _, _, e, _⟩ := x; exact Heap.lt_size e
  | ins C dx fs => obtain ⟨_, _, _, e, _⟩ := x; exact Heap.lt_size e
  | own y => obtain ⟨_, e⟩ := x; exact Heap.lt_size e
  | xd fs => obtain ⟨_, ⟨_, _, _, e, _⟩, _⟩ := x; exact Heap.lt_size e
  | rng lo hi => obtain ⟨_, _, _, e⟩ := x; exact Heap.lt_size e
  | frz ob u => obtain ⟨e, _⟩ := x; exact Heap.lt_size e
  | tbl ps => exact Heap.lt_size (show h.get? a = some _ from x)
  | met f y => exact Heap.lt_size (show h.get? a = some _ from x)
  | ext φ => obtain ⟨_, ⟨_, e⟩, _⟩ := x; exact Heap.lt_size e
theorem Paired.mapP {α β : Type} {F G : α → β → Prop} : ∀ {l₁ : List α} {l₂ : List β}, Paired F l₁ l₂ → (∀ a b, F a b → G a b) → Paired G l₁ l₂
  | _, _, .nil, _ => .nil
  | _, _, .cons r t, f => .cons (f _ _ r) (Paired.mapP t f)
theorem ObjOk.stay (x : ObjOk P w H h a o) (k : ∀ b u, (b = a ∨ H b = some (.own a)) → h.get? b = some u → h'.get? b = some u)
    (ho : ∀ b, H b = some (.own a) → H' b = some (.own a)) (ht : ∀ b xs, H b = some (.tup xs) → H' b = some (.tup xs)) : ObjOk P w H' h' a o := by
  induction o with
  | lst xs => obtain ⟨z, its, n, r, e⟩ := x; exact ⟨z, its, n, r, k _ _ (.inl rfl) e⟩
  | tup xs => obtain ⟨z, its, r, ⟨ob, e, c⟩, od, e', c'⟩ := x; exact ⟨z, its, r, ⟨ob, k _ _ (.inl rfl) e, c⟩, od, k _ _ (.inl rfl) e', c'⟩
  | dK kvs => obtain ⟨z, y, vs, r, ob, es, ep, e, c⟩ := x; exact ⟨z, y, vs, r, ob, es, ep, k _ _ (.inl rfl) e, c⟩
  | dT kvs =>
    obtain ⟨z, y, xs, r, ob, es, ep, e, c⟩ := x
    exact ⟨z, y, xs, Paired.mapP r fun p q z => ⟨z.1, ht _ _ z.2.1, z.2.2⟩, ob, es, ep, k _ _ (.inl rfl) e, c⟩
  | set S n => obtain ⟨ob, es, ep, t, e, c⟩ := x; exact ⟨ob, es, ep, t, k _ _ (.inl rfl) e, c⟩
  | ins C dx fs =>
    obtain ⟨d, z, ne, e, mA, ⟨od, es, ep, e2, c⟩, r⟩ := x
    exact ⟨ho _ d, z, ne, k _ _ (.inl rfl) e, mA, ⟨od, es, ep, k _ _ (.inr d) e2, c⟩, r⟩
  | own y => obtain ⟨ob, e⟩ := x; exact ⟨ob, k _ _ (.inl rfl) e⟩
  | xd fs => obtain ⟨mA, ⟨od, es, ep, e, c⟩, r⟩ := x; exact ⟨mA, ⟨od, es, ep, k _ _ (.inl rfl) e, c⟩, r⟩
  | rng lo hi => obtain ⟨t, u, v, e⟩ := x; exact ⟨t, u, v, k _ _ (.inl rfl) e⟩
  | frz ob u ih => obtain ⟨e, q⟩ := x; exact ⟨k _ _ (.inl rfl) e, ih q⟩
  | tbl ps =>
    have e : h.get? a = some { cls := .none, data := .fields ps } := x
    show h'.get? a = some { cls := .none, data := .fields ps }
    exact k a _ (.inl rfl) e
  | met f y =>
    have e : h.get? a = some (PySem.W.methodObj (.ref f) (.ref y)) := x
    show h'.get? a = some (PySem.W.methodObj (.ref f) (.ref y))
    exact k a _ (.inl rfl) e
  | ext φ => obtain ⟨p, ⟨o, e⟩, st⟩ := x; exact ⟨st _ _ p fun o q => k _ _ (.inl rfl) q, ⟨o, k _ _ (.inl rfl) e⟩, st⟩
theorem HOk.lt (x : HOk P w H h) (e : H a = some o) : a < h.objs.size := (x a o e).lt
theorem HOk.fresh (x : HOk P w H h) (e : h.objs.size ≤ a) : H a = none := by
  cases q : H a with
  | none => rfl
  | some u => exact absurd (Nat.lt_of_lt_of_le (x.lt q) e) (Nat.lt_irrefl _)
theorem HOk.kept (x : HOk P w H h) (k : ∀ b u, h.get? b = some u → h'.get? b = some u) : HOk P w H h' := fun a o e =>
  (x a o e).stay (fun b u _ q => k b u q) (fun _ q => q) fun _ _ q => q
theorem HOk.laid (x : HOk P w H h) (k : ∀ b u, h.get? b = some u → h'.get? b = some u) (hp : h.objs.size ≤ a) (new : ObjOk P w (upd H a o) h' a o) : HOk P w (upd H a o) h' := fun b u e => by
  have hn := x.fresh hp
  by_cases hb : b = a
  · subst hb; rw [upd_same] at e; cases e; exact new
  · rw [upd_ne hb] at e
    exact (x b u e).stay (fun c v _ q => k c v q) (fun c q => by rw [upd_ne (ne_of_none q hn)]; exact q) fun c xs q => by rw [upd_ne (ne_of_none q hn)]; exact q
end
def Rd (H : Hp) (a : Addr) (u : HO) : Prop := H a = some u ∨ ∃ o, H a = some (.frz o u)
theorem Rd.of {H : Hp} {a : Addr} {u : HO} (h : H a = some u) : Rd H a u := .inl h
theorem Rd.ok {P : Program} {w : World} {H : Hp} {h : Heap} {a : Addr} {u : HO} (r : Rd H a u) (x : HOk P w H h) : ObjOk P w H h a u := by
  rcases r with r | ⟨o, r⟩
  · exact x a u r
  · obtain ⟨_, q⟩ := x a _ r
    exact q
def Mut : Option HO → Prop
  | some (.lst _) => True
  | some (.dK _) => True
  | some (.dT _) => True
  | some (.set _ _) => True
  | some (.ins _ _ _) => True
  | some (.ext _) => True
  | _ => False
section
variable {P : Program} {w : World} {H : Hp} {h h' : Heap} {x e : Addr} {o' : HO}
theorem HOk.write (ok : HOk P w H h) (mu : Mut (H x)) (he : e = x ∨ H e = some (.own x)) (k : ∀ b u, b ≠ e → h.get? b = some u → h'.get? b = some u) (heo : ∃ u, h'.get? e = some u)
    (new : ObjOk P w (upd H x o') h' x o') : HOk P w (upd H x o') h' := fun b u q => by
  have nown : ∀ c y, H c = some (.own y) → c ≠ x := fun c y r z => by subst z; rw [r] at mu; exact mu
  have ntup : ∀ c xs, H c = some (.tup xs) → c ≠ x := fun c xs r z => by subst z; rw [r] at mu; exact mu
  by_cases hb : b = x
  · subst hb; rw [upd_same] at q; cases q; exact new
  · rw [upd_ne hb] at q
    by_cases hbe : b = e
    · have q' : H b = some (.own x) := by
        rcases he with z | z
        · exact absurd (hbe.trans z) hb
        · rw [hbe]; exact z
      rw [q] at q'; cases q'
      obtain ⟨v, hv⟩ := heo
      exact ⟨v, by rw [hbe]; exact hv⟩
    · refine (ok b u q).stay (fun c v hc r => k c v ?_ r) (fun c r => by rw [upd_ne (nown c b r)]; exact r) fun c xs r => by rw [upd_ne (ntup c xs r)]; exact r
      rcases hc with rfl | hc
      · exact hbe
      · rintro rfl
        rcases he with z | z
        · exact nown c b hc z
        · rw [hc] at z; cases z; exact hb rfl
end
structure Un (fs ex : List Addr) (H H' : Hp) (h h' : Heap) : Prop where
  keep : ∀ b o, h.get? b = some o → H b = none → b ∉ fs → b ∉ ex → h'.get? b = some o
  slot : ∀ b o, h.get? b = some o → H b = none → b ∈ fs → b ∉ ex → ∃ sl, h'.get? b = some { o with slots := sl }
  free : ∀ b o, h.get? b = some o → H b = none → b ∉ ex → H' b = none
  there : ∀ b o, h.get? b = some o → b ∉ ex → ∃ o', h'.get? b = some o'
  tups : ∀ b xs, H b = some (.tup xs) → H' b = some (.tup xs)
  frzs : ∀ b o u, H b = some (.frz o u) → H' b = some (.frz o u)
  tbls : ∀ b ps, H b = some (.tbl ps) → ∃ more, H' b = some (.tbl (ps ++ more))
section
variable {fs fs' ex ex' : List Addr} {H H1 H2 : Hp} {h h1 h2 h' : Heap} {a x e : Addr} {o : HO}
theorem Un.any (u : Un fs ex H H1 h h1) {b : Addr} {ob : Obj} (q : h.get? b = some ob) (n : H b = none) (hx : b ∉ ex) : ∃ sl, h1.get? b = some { ob with slots := sl } := by
  by_cases hb : b ∈ fs
  · exact u.slot b ob q n hb hx
  · exact ⟨ob.slots, u.keep b ob q n hb hx⟩
theorem Un.trans (a : Un fs ex H H1 h h1) (b : Un fs ex H1 H2 h1 h2) : Un fs ex H H2 h h2 where
  keep := fun c ob q n hc hx => b.keep c ob (a.keep c ob q n hc hx) (a.free c ob q n hx) hc hx
  slot := fun c ob q n hc hx => by
    obtain ⟨sl, e1⟩ := a.slot c ob q n hc hx
    obtain ⟨sl', e2⟩ := b.slot c _ e1 (a.free c ob q n hx) hc hx
    exact ⟨sl', e2⟩
  free := fun c ob q n hx => by
    obtain ⟨o', e1⟩ := a.there c ob q hx
    exact b.free c o' e1 (a.free c ob q n hx) hx
  there := fun c ob q hx => by
    obtain ⟨o', e1⟩ := a.there c ob q hx
    exact b.there c o' e1 hx
  tups := fun c xs q => b.tups c xs (a.tups c xs q)
  frzs := fun c ob xs q => b.frzs c ob xs (a.frzs c ob xs q)
  tbls := fun c ps q => by
    obtain ⟨m1, e1⟩ := a.tbls c ps q
    obtain ⟨m2, e2⟩ := b.tbls c _ e1
    exact ⟨m1 ++ m2, by rw [e2, Array.append_assoc]⟩
theorem Un.kept (k : ∀ b u, h.get? b = some u → h'.get? b = some u) : Un fs ex H H h h' :=
  ⟨fun b ob q _ _ _ => k b ob q, fun b ob q _ _ _ => ⟨ob.slots, k b ob q⟩, fun _ _ _ n _ => n, fun b ob q _ => ⟨ob, k b ob q⟩, fun _ _ q => q, fun _ _ _ q => q, fun _ ps q => ⟨#[], by rw [q]; simp⟩⟩
theorem Un.refl : Un fs ex H H h h := Un.kept fun _ _ q => q
theorem Un.laid (k : ∀ b u, h.get? b = some u → h'.get? b = some u) (hp : h.objs.size ≤ a) (hn : H a = none) : Un fs ex H (upd H a o) h h' where
  keep := fun b u q _ _ _ => k b u q
  slot := fun b u q _ _ _ => ⟨u.slots, k b u q⟩
  free := fun b u q n _ => by rw [upd_ne (Nat.ne_of_lt (Nat.lt_of_lt_of_le (Heap.lt_size q) hp))]; exact n
  there := fun b u q _ => ⟨u, k b u q⟩
  tups := fun b xs q => by rw [upd_ne (ne_of_none q hn)]; exact q
  frzs := fun b u xs q => by rw [upd_ne (ne_of_none q hn)]; exact q
  tbls := fun b ps q => ⟨#[], by rw [upd_ne (ne_of_none q hn), q]; simp⟩
theorem Un.write (mu : Mut (H x)) (he : e = x ∨ H e = some (.own x)) (k : ∀ b u, b ≠ e → h.get? b = some u → h'.get? b = some u) (heo : ∃ u, h'.get? e = some u) : Un fs ex H (upd H x o) h h' := by
  have hx : ∀ b, H b = none → b ≠ x := fun b n z => by subst z; rw [n] at mu; exact mu
  have hb : ∀ b, H b = none → b ≠ e := fun b n z => by
    subst z
    rcases he with r | r
    · exact hx b n r
    · rw [n] at r; cases r
  have hm : ∀ b u, H b = some u → ¬ Mut (some u) → b ≠ x := fun b u q nm z => by subst z; rw [q] at mu; exact nm mu
  refine ⟨fun b u q n _ _ => k b u (hb b n) q, fun b u q n _ _ => ⟨u.slots, k b u (hb b n) q⟩, fun b u q n _ => by rw [upd_ne (hx b n)]; exact n, fun b u q _ => ?_,
    fun b xs q => by rw [upd_ne (hm b _ q fun z => z)]; exact q, fun b u xs q => by rw [upd_ne (hm b _ q fun z => z)]; exact q, fun b ps q => ⟨#[], by rw [upd_ne (hm b _ q fun z => z), q]; simp⟩⟩
  by_cases hbe : b = e
  · subst hbe; exact heo
  · exact ⟨u, k b u hbe q⟩
theorem Un.mono (u : Un fs ex H H1 h h1) (hs : ∀ b ∈ fs, b ∈ fs') (hx : ∀ b ∈ ex, b ∈ ex') : Un fs' ex' H H1 h h1 :=
  ⟨fun b ob q n hb he => u.keep b ob q n (fun z => hb (hs b z)) fun z => he (hx b z), fun _ _ q n _ he => u.any q n fun z => he (hx _ z), fun b ob q n he => u.free b ob q n fun z => he (hx b z), fun b ob q he => u.there b ob q fun z => he (hx b z), u.tups, u.frzs, u.tbls⟩
end
def trk (h : Heap) (H : Hp) : List Addr := (List.range h.objs.size).filter fun a => (H a).isSome
def hidT (h : Heap) (H : Hp) : Heap := PySem.W.hideAll h (trk h H)
theorem hidT_size (h : Heap) (H : Hp) : (hidT h H).objs.size = h.objs.size := PySem.W.hideAll_size _ _
theorem hidT_get {h : Heap} {H : Hp} {b : Addr} {o : Obj} (e : h.get? b = some o) (n : H b = none) : (hidT h H).get? b = some o :=
  PySem.W.hideAll_get _ e fun hm => by
    have q : (H b).isSome = true := (List.mem_filter.mp hm).2
    rw [n] at q; simp at q
theorem of_hidT {h : Heap} {H : Hp} {b : Addr} {o : Obj} (e : (hidT h H).get? b = some o) : h.get? b = some o ∧ H b = none := by
  have e' : h.get? b = some o := PySem.W.of_hideAll (trk h H) e
  refine ⟨e', ?_⟩
  cases q : H b with
  | none => rfl
  | some x =>
    have hm : b ∈ trk h H := List.mem_filter.mpr ⟨List.mem_range.mpr (Heap.lt_size e'), by simp [q]⟩
    have z : (hidT h H).get? b = none := PySem.W.hideAll_none (trk h H) hm
    rw [z] at e; cases e
def allNews (g h : Heap) (L : Addr) : List (Addr × Obj) := (List.range h.objs.size).filterMap fun a => if a = L ∨ (g.get? a).isSome = true then none else (h.get? a).map fun o => (a, o)
def rest (g h : Heap) (L d : Addr) : List (Addr × Obj) := (allNews g h L).filter fun p => decide (p.1 ≠ d)
end L2
namespace L2
open PySem PySem.Spec PyProof.Rows
structure Mod (K : PySem.W.Frag) (mg : Str → Option Value) (base : Heap) : Prop where
  kin : K.In base
  glob : base.Ns mainGlobals mg
  blt : ∃ mb, base.Ns builtinsNs mb ∧ ∀ x : Str, x ≠ "__name__" → mb x = bootBuiltins x
  nolimit : base.NoLimit
structure Cx where
  prog : Program
  w : World
  K : PySem.W.Frag
  mg : Str → Option Value
  base : Heap
  A : Around
  N : List Str
  s₀ : Shared
  H₀ : Hp
  env : Env
  outer : List Env
  stack : List Env
  ex : List Addr
  fn : Str → Bool
  calm : Bool
  pn : List (Addr × Obj)
  xe : Value → Shared → Prop
def frs (l : List Env) : List Addr := l.filterMap (·.frame)
abbrev Cx.fs (X : Cx) : List Addr := frs X.outer
def Vis (sc : Scope) (x : Str) : Prop := sc.names.lookup x = some .local ∨ sc.names.lookup x = some .cell ∨ sc.names.lookup x = some .free
def Loc (sc : Scope) (x : Str) : Prop := sc.names.lookup x = some .local ∨ sc.names.lookup x = some .cell
def Look (env : Env) (h : Heap) (m : Str → Option Value) (x : Str) (u : Value) : Prop :=
  (env.kindOf x = some .local ∧ m x = some u) ∨ ((env.kindOf x = some .cell ∨ env.kindOf x = some .free) ∧ ∃ c, env.cells.lookup x = some c ∧ h.IsCell c (some u))
structure Cx.Ok (X : Cx) : Prop where
  mod : Mod X.K X.mg X.base
  kind : X.env.scope.kind = .function
  glob : X.env.globals = mainGlobals
  blt : X.env.builtins = builtinsNs
  above : X.s₀.heap.objs.size ≤ X.env.locals
  inj : ∀ x y c, X.env.cells.lookup x = some c → X.env.cells.lookup y = some c → x = y
  has : ∀ x, (X.env.kindOf x = some .cell ∨ X.env.kindOf x = some .free) → ∃ c, X.env.cells.lookup x = some c
  cab : ∀ x c, X.fn x = true → X.env.cells.lookup x = some c → X.s₀.heap.objs.size ≤ c
  hd : X.calm = true → X.A.handled = none
  frames : X.A.frames = some X.stack
  stk : X.stack = X.outer ∨ (X.stack = X.env :: X.outer ∧ X.env.frame = some X.env.locals)
  exf : ∀ b ∈ X.ex, b ≠ X.env.locals ∧ ∀ x c, X.env.cells.lookup x = some c → c ≠ b
  bs : ∀ b o, X.base.get? b = some o → X.s₀.heap.get? b = some o ∧ X.H₀ b = none
  bsz : X.base.objs.size ≤ X.s₀.heap.objs.size
  noex : ∀ b o, X.base.get? b = some o → b ∉ X.ex
  exfs : ∀ b ∈ X.ex, b ∉ X.fs
  funs : X.s₀.heap.FunFrames X.base X.outer
  frf : ∀ b ∈ X.fs, X.H₀ b = none
structure Inv (X : Cx) (pins : List (Addr × Obj)) (σ : List (Option V)) (H : Hp) (s : Shared) : Prop where
  ok : X.Ok
  os : s.os = X.s₀.os
  bare : AllBare s.gens
  base : Un X.fs X.ex X.H₀ H X.s₀.heap s.heap
  loc : ∃ m, s.heap.Ns X.env.locals m ∧ ∀ (i : Nat) (x : Str) (v : V), X.N[i]? = some x → σ[i]? = some (some v) → Vis X.env.scope x → ∃ u, RelV v u ∧ Look X.env s.heap m x u
  cell : ∀ x c, X.env.cells.lookup x = some c → ∃ v, s.heap.IsCell c v
  free : H X.env.locals = none
  freeC : ∀ x c, X.env.cells.lookup x = some c → H c = none
  pin : ∀ p ∈ X.pn ++ pins, s.heap.get? p.1 = some p.2 ∧ H p.1 = none ∧ p.1 ≠ X.env.locals ∧ p.1 ∉ X.fs ∧ ∀ v, p.2.data ≠ .cell v
  hok : HOk X.prog X.w H s.heap
  len : σ.length = X.N.length
section
variable {X : Cx} {pins : List (Addr × Obj)} {σ : List (Option V)} {H H' : Hp} {s : Shared} {h' : Heap}
theorem Cx.Ok.nofr (ok : X.Ok) {b : Addr} {o : Obj} (e : X.base.get? b = some o) : b ∉ X.fs := fun hb => by
  have := (ok.funs.mem hb).1
  rw [e] at this; cases this
theorem Inv.bs (I : Inv X pins σ H s) : ∀ b o, X.base.get? b = some o → s.heap.get? b = some o ∧ H b = none := fun b o e =>
  ⟨I.base.keep b o (I.ok.bs b o e).1 (I.ok.bs b o e).2 (I.ok.nofr e) (I.ok.noex b o e), I.base.free b o (I.ok.bs b o e).1 (I.ok.bs b o e).2 (I.ok.noex b o e)⟩
theorem Inv.bk (I : Inv X pins σ H s) : ∀ b o, X.base.get? b = some o → s.heap.get? b = some o := fun b o e => (I.bs b o e).1
theorem Inv.mod (I : Inv X pins σ H s) : Mod X.K X.mg X.base := I.ok.mod
theorem Inv.kIn (I : Inv X pins σ H s) : X.K.In s.heap := I.ok.mod.kin.keeps I.bk
theorem Inv.nolimit (I : Inv X pins σ H s) : s.heap.NoLimit := I.ok.mod.nolimit.keeps I.bk
theorem Inv.fr (I : Inv X pins σ H s) : ∃ m, Fr X.base X.env.locals s.heap m :=
  let ⟨m, hn, _⟩ := I.loc
  ⟨m, hn, I.bk, Nat.le_trans I.ok.bsz I.ok.above⟩
theorem Inv.lt (I : Inv X pins σ H s) : X.env.locals < s.heap.objs.size := let ⟨_, hn, _⟩ := I.loc; hn.lt
theorem Inv.sz (I : Inv X pins σ H s) : X.s₀.heap.objs.size ≤ s.heap.objs.size := Nat.le_trans I.ok.above (Nat.le_of_lt I.lt)
theorem Inv.nofs (I : Inv X pins σ H s) {a : Addr} (h : s.heap.objs.size ≤ a) : a ∉ X.fs := fun hb => by
  obtain ⟨_, o, ho, _⟩ := I.ok.funs.mem hb
  exact absurd (Nat.lt_of_lt_of_le (Heap.lt_size ho) (Nat.le_trans I.sz h)) (Nat.lt_irrefl _)
theorem Inv.cne (I : Inv X pins σ H s) : ∀ x c, X.env.cells.lookup x = some c → c ≠ X.env.locals := fun x c e z => by
  obtain ⟨v, o, ho, hd⟩ := I.cell x c e
  obtain ⟨m, ⟨o', es, ep, ho', hd', _⟩, _⟩ := I.loc
  rw [z, ho'] at ho; cases ho; rw [hd'] at hd; cases hd
theorem Inv.funs (I : Inv X pins σ H s) : s.heap.FunFrames X.base X.outer := by
  have all : ∀ (l : List Env), (∀ b ∈ frs l, b ∈ X.fs) → X.s₀.heap.FunFrames X.base l → s.heap.FunFrames X.base l := by
    intro l
    induction l with
    | nil => intro _ _; trivial
    | cons env r ih =>
      intro hs hl
      obtain ⟨hk, ⟨L, o, hf, hn, ho, hd⟩, hr⟩ := hl
      have hL : L ∈ X.fs := hs L (by unfold frs; rw [List.filterMap_cons, hf]; exact List.mem_cons_self)
      obtain ⟨sl, e⟩ := I.base.slot L o ho (I.ok.frf L hL) hL fun z => I.ok.exfs L z hL
      exact ⟨hk, ⟨L, _, hf, hn, e, hd⟩, ih (fun b hb => hs b (by unfold frs; rw [List.filterMap_cons, hf]; exact List.mem_cons_of_mem _ hb)) hr⟩
  exact all X.outer (fun _ hb => hb) I.ok.funs
theorem Inv.stack (I : Inv X pins σ H s) : s.heap.FunFrames X.base X.stack := by
  rcases I.ok.stk with e | ⟨e, hf⟩
  · rw [e]; exact I.funs
  · rw [e]
    obtain ⟨m, hn, _⟩ := I.loc
    refine .cons (by rw [I.ok.kind]; decide) hf hn ?_ I.funs
    exact Heap.get?_none_of_le (Nat.le_trans I.ok.bsz I.ok.above)
theorem Inv.stkSub (I : Inv X pins σ H s) : ∀ b ∈ frs X.stack, b ∈ X.env.locals :: X.fs := fun b hb => by
  rcases I.ok.stk with e | ⟨e, hf⟩
  · rw [e] at hb; exact List.mem_cons_of_mem _ hb
  · rw [e] at hb
    unfold frs at hb
    rw [List.filterMap_cons, hf] at hb
    exact hb
theorem Inv.stkFree (I : Inv X pins σ H s) : ∀ b ∈ frs X.stack, H b = none := fun b hb => by
  rcases List.mem_cons.mp (I.stkSub b hb) with e | hb
  · rw [e]; exact I.free
  · obtain ⟨_, o, ho, _⟩ := I.ok.funs.mem hb
    exact I.base.free b o ho (I.ok.frf b hb) fun z => I.ok.exfs b z hb
theorem Inv.step {g' : Array GenState} {t' : Nat} {d' : Drawn} {ch : List Addr} (I : Inv X pins σ H s)
    (hch : ∀ b ∈ ch, (b ∈ X.ex ∨ X.s₀.heap.objs.size ≤ b) ∧ b ≠ X.env.locals ∧ (∀ x c, X.env.cells.lookup x = some c → c ≠ b) ∧ ∀ p ∈ X.pn ++ pins, p.1 ≠ b)
    (keep : ∀ b o, b ≠ X.env.locals → b ∉ X.fs → b ∉ ch → s.heap.get? b = some o → H b = none → h'.get? b = some o)
    (slot : ∀ b o, b ≠ X.env.locals → b ∈ X.fs → b ∉ ch → s.heap.get? b = some o → H b = none → ∃ sl, h'.get? b = some { o with slots := sl }) (free : ∀ b o, b ∉ ch → s.heap.get? b = some o → H b = none → H' b = none)
    (there : ∀ b o, b ∉ ch → s.heap.get? b = some o → ∃ o', h'.get? b = some o')
    (tups : ∀ b xs, H b = some (.tup xs) → H' b = some (.tup xs)) (frzs : ∀ b o u, H b = some (.frz o u) → H' b = some (.frz o u)) (tbls : ∀ b ps, H b = some (.tbl ps) → ∃ more, H' b = some (.tbl (ps ++ more)))
    (ns : ∀ m, s.heap.Ns X.env.locals m → h'.Ns X.env.locals m) (hok : HOk X.prog X.w H' h') (hg : AllBare g') :
    Inv X pins σ H' { s with heap := h', gens := g', drawn := d', toks := t' } := by
  have neL : ∀ b o, X.s₀.heap.get? b = some o → b ≠ X.env.locals := fun b o e => Nat.ne_of_lt (Nat.lt_of_lt_of_le (Heap.lt_size e) I.ok.above)
  have neC : ∀ b o, X.s₀.heap.get? b = some o → b ∉ X.ex → b ∉ ch := fun b o e hx hb => by
    rcases (hch b hb).1 with z | z
    · exact hx z
    · exact absurd (Nat.lt_of_lt_of_le (Heap.lt_size e) z) (Nat.lt_irrefl _)
  have cellK : ∀ x c, X.env.cells.lookup x = some c → ∀ v, s.heap.IsCell c v → h'.IsCell c v := fun x c e v ⟨o, ho, hd⟩ => by
    have nch : c ∉ ch := fun z => (hch c z).2.2.1 x c e rfl
    by_cases hc : c ∈ X.fs
    · obtain ⟨sl, q⟩ := slot c o (I.cne x c e) hc nch ho (I.freeC x c e)
      exact ⟨_, q, hd⟩
    · exact ⟨o, keep c o (I.cne x c e) hc nch ho (I.freeC x c e), hd⟩
  refine ⟨I.ok, I.os, hg, ⟨fun b o e n hb hx => ?_, fun b o e n hb hx => ?_, fun b o e n hx => ?_, fun b o e hx => ?_, fun b xs e => tups b xs (I.base.tups b xs e), fun b o xs e => frzs b o xs (I.base.frzs b o xs e), fun b ps e => ?_⟩, ?_, fun x c e => ?_, ?_, fun x c e => ?_, fun p hp => ?_, hok, I.len⟩
  · exact keep b o (neL b o e) hb (neC b o e hx) (I.base.keep b o e n hb hx) (I.base.free b o e n hx)
  · obtain ⟨sl, e1⟩ := I.base.slot b o e n hb hx
    obtain ⟨sl', e2⟩ := slot b _ (neL b o e) hb (neC b o e hx) e1 (I.base.free b o e n hx)
    exact ⟨sl', e2⟩
  · obtain ⟨o', e1⟩ := I.base.there b o e hx
    exact free b o' (neC b o e hx) e1 (I.base.free b o e n hx)
  · obtain ⟨o', e1⟩ := I.base.there b o e hx
    exact there b o' (neC b o e hx) e1
  · obtain ⟨m1, e1⟩ := I.base.tbls b ps e
    obtain ⟨m2, e2⟩ := tbls b _ e1
    exact ⟨m1 ++ m2, by rw [e2, Array.append_assoc]⟩
  · obtain ⟨m, hn, hl⟩ := I.loc
    refine ⟨m, ns m hn, fun i x v e1 e2 e3 => ?_⟩
    obtain ⟨u, r, l⟩ := hl i x v e1 e2 e3
    refine ⟨u, r, ?_⟩
    rcases l with l | ⟨k, c, e, z⟩
    · exact .inl l
    · exact .inr ⟨k, c, e, cellK x c e _ z⟩
  · obtain ⟨v, z⟩ := I.cell x c e
    exact ⟨v, cellK x c e v z⟩
  · obtain ⟨m, ⟨o, _, _, ho, _⟩, _⟩ := I.loc
    exact free _ o (fun z => (hch _ z).2.1 rfl) ho I.free
  · obtain ⟨v, o, ho, hd⟩ := I.cell x c e
    exact free c o (fun z => (hch c z).2.2.1 x c e rfl) ho (I.freeC x c e)
  · obtain ⟨e, n, ne, nf, d⟩ := I.pin p hp
    have nch : p.1 ∉ ch := fun z => (hch p.1 z).2.2.2 p hp rfl
    exact ⟨keep p.1 p.2 ne nf nch e n, free p.1 p.2 nch e n, ne, nf, d⟩
theorem Inv.un {t' : Nat} (I : Inv X pins σ H s) (u : Un X.fs [] H H' s.heap h') (hok : HOk X.prog X.w H' h') : Inv X pins σ H' { s with heap := h', toks := t' } := by
  obtain ⟨m, ⟨o, es, ep, ho, r⟩, _⟩ := id I.loc
  obtain ⟨sl, hL⟩ := u.any ho I.free (by simp)
  exact I.step (g' := s.gens) (d' := s.drawn) (ch := []) (fun _ z => nomatch z) (fun b o _ hb _ e n => u.keep b o e n hb (by simp)) (fun b o _ hb _ e n => u.slot b o e n hb (by simp)) (fun b o _ e n => u.free b o e n (by simp)) (fun b o _ e => u.there b o e (by simp)) u.tups u.frzs u.tbls (fun m' hm => by
    obtain ⟨o', es', ep', ho', r'⟩ := hm
    rw [ho] at ho'; cases ho'
    exact ⟨_, es', ep', hL, r'⟩) hok I.bare
theorem Inv.call {g' : Array GenState} {t' : Nat} {d' : Drawn} {ch : List Addr} (I : Inv X pins σ H s) (u : Un (frs X.stack) ch H H' s.heap h') (hok : HOk X.prog X.w H' h') (hg : AllBare g')
    (hch : ∀ b ∈ ch, (b ∈ X.ex ∨ X.s₀.heap.objs.size ≤ b) ∧ b ≠ X.env.locals ∧ (∀ x c, X.env.cells.lookup x = some c → c ≠ b) ∧ ∀ p ∈ X.pn ++ pins, p.1 ≠ b) :
    Inv X pins σ H' { s with heap := h', gens := g', drawn := d', toks := t' } := by
  obtain ⟨m, ⟨o, es, ep, ho, r⟩, _⟩ := id I.loc
  obtain ⟨sl, hL⟩ := u.any ho I.free fun z => (hch _ z).2.1 rfl
  exact I.step (ch := ch) hch (fun b o hL hb hc e n => u.keep b o e n (fun z => (List.mem_cons.mp (I.stkSub b z)).elim hL hb) hc) (fun b o _ _ hc e n => u.any e n hc) (fun b o hc e n => u.free b o e n hc) (fun b o hc e => u.there b o e hc) u.tups u.frzs u.tbls (fun m' hm => by
    obtain ⟨o', es', ep', ho', r'⟩ := hm
    rw [ho] at ho'; cases ho'
    exact ⟨_, es', ep', hL, r'⟩) hok hg
theorem Inv.turned {t' : Nat} {it : Addr} (I : Inv X pins σ H s) (k : ∀ b o, b ≠ it → s.heap.get? b = some o → h'.get? b = some o) (hn : H it = none) (hL : it ≠ X.env.locals)
    (h1 : it ∈ X.ex ∨ X.s₀.heap.objs.size ≤ it) (h2 : ∀ x c, X.env.cells.lookup x = some c → c ≠ it) (h3 : ∀ p ∈ X.pn ++ pins, p.1 ≠ it) : Inv X pins σ H { s with heap := h', toks := t' } := by
  have nit : ∀ b u, H b = some u → b ≠ it := fun b u e z => by rw [z, hn] at e; cases e
  refine I.step (g' := s.gens) (d' := s.drawn) (ch := [it]) (fun b hb => ?_) (fun b o _ _ hc e _ => k b o (fun z => hc (by simp [z])) e) (fun b o _ _ hc e _ => ⟨o.slots, k b o (fun z => hc (by simp [z])) e⟩) (fun _ _ _ _ n => n)
    (fun b o hc e => ⟨o, k b o (fun z => hc (by simp [z])) e⟩) (fun _ _ e => e) (fun _ _ _ e => e) (fun b ps e => ⟨#[], by rw [e]; simp⟩) (fun m hm => ?_) (fun b u e => ?_) I.bare
  · have e : b = it := by simpa using hb
    subst e
    exact ⟨h1, hL, h2, h3⟩
  · obtain ⟨o, es, ep, ho, r⟩ := hm
    exact ⟨o, es, ep, k _ o (Ne.symm hL) ho, r⟩
  · refine (I.hok b u e).stay (fun c v hc q => k c v ?_ q) (fun _ q => q) fun _ _ q => q
    rcases hc with z | z
    · rw [z]; exact nit b u e
    · exact nit c _ z
theorem Inv.tok (I : Inv X pins σ H s) (t : Nat) : Inv X pins σ H { s with toks := t } := I.un (h' := s.heap) (t' := t) Un.refl I.hok
theorem Inv.kept {t' : Nat} (I : Inv X pins σ H s) (k : ∀ b u, s.heap.get? b = some u → h'.get? b = some u) : Inv X pins σ H { s with heap := h', toks := t' } := I.un (Un.kept k) (I.hok.kept k)
theorem Inv.laid {a : Addr} {o : HO} {t' : Nat} (I : Inv X pins σ H s) (k : ∀ b u, s.heap.get? b = some u → h'.get? b = some u) (hp : s.heap.objs.size ≤ a) (new : ObjOk X.prog X.w (upd H a o) h' a o) :
    Inv X pins σ (upd H a o) { s with heap := h', toks := t' } := I.un (Un.laid k hp (I.hok.fresh hp)) (I.hok.laid k hp new)
theorem Inv.write {x e : Addr} {o : HO} {t' : Nat} (I : Inv X pins σ H s) (mu : Mut (H x)) (he : e = x ∨ H e = some (.own x)) (k : ∀ b u, b ≠ e → s.heap.get? b = some u → h'.get? b = some u) (heo : ∃ u, h'.get? e = some u)
    (new : ObjOk X.prog X.w (upd H x o) h' x o) : Inv X pins σ (upd H x o) { s with heap := h', toks := t' } := I.un (Un.write mu he k heo) (I.hok.write mu he k heo new)
theorem Inv.pins_of {pins' : List (Addr × Obj)} (I : Inv X pins σ H s) (h : ∀ p ∈ pins', s.heap.get? p.1 = some p.2 ∧ H p.1 = none ∧ p.1 ≠ X.env.locals ∧ p.1 ∉ X.fs ∧ ∀ v, p.2.data ≠ .cell v) : Inv X pins' σ H s :=
  ⟨I.ok, I.os, I.bare, I.base, I.loc, I.cell, I.free, I.freeC, fun p hp => (List.mem_append.mp hp).elim (fun z => I.pin p (List.mem_append_left _ z)) (h p), I.hok, I.len⟩
theorem nodup_ix {N : List Str} (hN : N.Nodup) {i j : Nat} {x : Str} (a : N[i]? = some x) (b : N[j]? = some x) : i = j := by
  obtain ⟨h1, e1⟩ := List.getElem?_eq_some_iff.mp a
  obtain ⟨h2, e2⟩ := List.getElem?_eq_some_iff.mp b
  exact (List.getElem_inj hN).mp (e1.trans e2.symm)
theorem store_ok2 {M : Model} {A : Around} {E : Value → Shared → Prop} {i : Nat} {x : Str} {v : V} {u : Value} {Q : Unit → Shared → Prop} (I : Inv X pins σ H s) (hN : X.N.Nodup) (hi : X.N[i]? = some x) (hx : Loc X.env.scope x) (r : RelV v u)
    (h : ∀ s', Inv X pins (σ.set i (some v)) H s' → (∃ a, Heap.SameBut a s.heap s'.heap ∧ (a = X.env.locals ∨ X.env.cells.lookup x = some a)) → Q () s') (hf : X.fn x = true ∨ X.env.scope.names.lookup x = some .local := by first | exact .inl rfl | exact .inr rfl | assumption) : wpAny M A (storeName X.env x u) Q E s := by
  obtain ⟨m, hn, hl⟩ := id I.loc
  have hcls : (X.env.scope.kind == .class || (X.env.scope.kind == .module && X.env.locals != X.env.globals)) = false := by rw [I.ok.kind]; rfl
  have hiσ : i < σ.length := by rw [I.len]; exact (List.getElem?_eq_some_iff.mp hi).1
  have cne := I.cne
  have tracked : ∀ {a : Addr} {h' : Heap}, (∃ o, s.heap.get? a = some o ∧ H a = none) → Heap.SameBut a s.heap h' → HOk X.prog X.w H h' := fun {a h'} ha hs b ob e => by
    obtain ⟨_, _, hfree⟩ := ha
    refine (I.hok b ob e).stay (fun c w' hc q => (hs.2 c ?_).trans q) (fun _ q => q) fun _ _ q => q
    rintro rfl
    rcases hc with rfl | hc
    · rw [hfree] at e; cases e
    · rw [hfree] at hc; cases hc
  rcases hx with hk | hk
  · refine wpAny_storeName_local hk hn (fun h' hn' hs => ?_) hcls
    obtain ⟨oL, _, _, hoL, _⟩ := id hn
    refine h _ ⟨I.ok, I.os, I.bare, ⟨fun b o e n hb hx => ?_, fun b o e n hb hx => ?_, I.base.free, fun b o e hx => ?_, I.base.tups, I.base.frzs, I.base.tbls⟩, ⟨_, hn', fun j y v' e1 e2 e3 => ?_⟩, fun y c e => ?_, I.free, I.freeC, fun p hp => ?_, tracked ⟨oL, hoL, I.free⟩ hs, by simpa using I.len⟩ ⟨_, hs, .inl rfl⟩
    · exact (hs.2 b (Nat.ne_of_lt (Nat.lt_of_lt_of_le (Heap.lt_size e) I.ok.above))).trans (I.base.keep b o e n hb hx)
    · obtain ⟨sl, e1⟩ := I.base.slot b o e n hb hx
      exact ⟨sl, (hs.2 b (Nat.ne_of_lt (Nat.lt_of_lt_of_le (Heap.lt_size e) I.ok.above))).trans e1⟩
    · obtain ⟨o', e1⟩ := I.base.there b o e hx
      exact ⟨o', (hs.2 b (Nat.ne_of_lt (Nat.lt_of_lt_of_le (Heap.lt_size e) I.ok.above))).trans e1⟩
    · by_cases hj : j = i
      · subst hj
        rw [hi] at e1; cases e1
        rw [List.getElem?_set_self hiσ] at e2
        cases e2
        exact ⟨u, r, .inl ⟨hk, by simp⟩⟩
      · rw [List.getElem?_set_ne (Ne.symm hj)] at e2
        obtain ⟨u', r', q⟩ := hl j y v' e1 e2 e3
        refine ⟨u', r', ?_⟩
        rcases q with ⟨k, e⟩ | ⟨k, c, e, z⟩
        · refine .inl ⟨k, ?_⟩
          have : y ≠ x := fun e => hj (nodup_ix hN e1 (e ▸ hi))
          simp [this, e]
        · exact .inr ⟨k, c, e, z.sameBut hs (cne y c e)⟩
    · obtain ⟨w', z⟩ := I.cell y c e
      exact ⟨w', z.sameBut hs (cne y c e)⟩
    · obtain ⟨e, n, ne, nf, d⟩ := I.pin p hp
      exact ⟨(hs.2 p.1 ne).trans e, n, ne, nf, d⟩
  · have hfn : X.fn x = true := by
      rcases hf with z | z
      · exact z
      · rw [z] at hk; cases hk
    obtain ⟨c, hc⟩ := I.ok.has x (.inl hk)
    obtain ⟨w', z⟩ := I.cell x c hc
    refine wpAny_storeName_cell I.ok.kind hk hc z (fun h' hc' hs => ?_)
    obtain ⟨oc, hoc, hocd⟩ := id z
    refine h { s with heap := h' } ⟨I.ok, I.os, I.bare, ⟨fun b o e n hb hx => ?_, fun b o e n hb hx => ?_, I.base.free, fun b o e hx => ?_, I.base.tups, I.base.frzs, I.base.tbls⟩, ⟨m, hn.sameBut hs (Ne.symm (cne x c hc)), fun j y v' e1 e2 e3 => ?_⟩, fun y c' e => ?_, I.free, I.freeC, fun p hp => ?_, tracked ⟨oc, hoc, I.freeC x c hc⟩ hs, by simpa using I.len⟩ ⟨c, hs, .inr hc⟩
    · exact (hs.2 b (Nat.ne_of_lt (Nat.lt_of_lt_of_le (Heap.lt_size e) (I.ok.cab x c hfn hc)))).trans (I.base.keep b o e n hb hx)
    · obtain ⟨sl, e1⟩ := I.base.slot b o e n hb hx
      exact ⟨sl, (hs.2 b (Nat.ne_of_lt (Nat.lt_of_lt_of_le (Heap.lt_size e) (I.ok.cab x c hfn hc)))).trans e1⟩
    · obtain ⟨o', e1⟩ := I.base.there b o e hx
      exact ⟨o', (hs.2 b (Nat.ne_of_lt (Nat.lt_of_lt_of_le (Heap.lt_size e) (I.ok.cab x c hfn hc)))).trans e1⟩
    · by_cases hj : j = i
      · subst hj
        rw [hi] at e1; cases e1
        rw [List.getElem?_set_self hiσ] at e2
        cases e2
        exact ⟨u, r, .inr ⟨.inl hk, c, hc, hc'⟩⟩
      · rw [List.getElem?_set_ne (Ne.symm hj)] at e2
        obtain ⟨u', r', q⟩ := hl j y v' e1 e2 e3
        refine ⟨u', r', ?_⟩
        rcases q with q | ⟨k, c', e, z'⟩
        · exact .inl q
        · refine .inr ⟨k, c', e, z'.sameBut hs ?_⟩
          rintro rfl
          exact hj (nodup_ix hN e1 (I.ok.inj _ _ _ e hc ▸ hi))
    · by_cases hcc : c' = c
      · subst hcc; exact ⟨_, hc'⟩
      · obtain ⟨w2, z2⟩ := I.cell y c' e
        exact ⟨w2, z2.sameBut hs hcc⟩
    · obtain ⟨e, n, ne, nf, d⟩ := I.pin p hp
      refine ⟨(hs.2 p.1 ?_).trans e, n, ne, nf, d⟩
      intro q
      rw [q, hoc] at e
      have q' : oc = p.2 := Option.some.inj e
      exact d w' (by rw [← q']; exact hocd)
theorem store_ok {M : Model} {A : Around} {E : Value → Shared → Prop} {i : Nat} {x : Str} {v : V} {u : Value} {Q : Unit → Shared → Prop} (I : Inv X pins σ H s) (hN : X.N.Nodup) (hi : X.N[i]? = some x) (hx : Loc X.env.scope x) (r : RelV v u)
    (h : ∀ s', Inv X pins (σ.set i (some v)) H s' → Q () s') (hf : X.fn x = true ∨ X.env.scope.names.lookup x = some .local := by first | exact .inl rfl | exact .inr rfl | assumption) : wpAny M A (storeName X.env x u) Q E s :=
  store_ok2 I hN hi hx r (fun s' I' _ => h s' I') hf
theorem Inv.call' {s' : Shared} {ch : List Addr} (I : Inv X pins σ H s) (ho : s'.os = s.os) (u : Un (frs X.stack) ch H H' s.heap s'.heap) (hok : HOk X.prog X.w H' s'.heap) (hg : AllBare s'.gens)
    (hch : ∀ b ∈ ch, (b ∈ X.ex ∨ X.s₀.heap.objs.size ≤ b) ∧ b ≠ X.env.locals ∧ (∀ x c, X.env.cells.lookup x = some c → c ≠ b) ∧ ∀ p ∈ X.pn ++ pins, p.1 ≠ b) : Inv X pins σ H' s' := by
  obtain ⟨h', g', d', t', o'⟩ := s'
  have e : o' = s.os := ho
  subst e
  exact I.call (g' := g') (t' := t') (d' := d') u hok hg hch
end
abbrev XK := Value → Option Addr → Hp → Prop
abbrev St := List (Option V)
abbrev VK := V → Hp → Prop
abbrev TE := St → Hp → VK → Prop
abbrev TT := St → Hp → (Bool → Hp → Prop) → Prop
abbrev TA := St → Hp → (List V → Hp → Prop) → Prop
structure Ends where
  nx : St → Hp → Prop
  rt : VK
  bk : St → Hp → Prop := fun _ _ => False
  ct : St → Hp → Prop := fun _ _ => False
abbrev TS := Ends → St → Hp → Prop
def EP (X : Cx) (pins : List (Addr × Obj)) (σ : St) (Q : VK) (u : Value) (s' : Shared) : Prop := ∃ v H', Inv X pins σ H' s' ∧ RelV v u ∧ Q v H'
def TP (X : Cx) (pins : List (Addr × Obj)) (σ : St) (Q : Bool → Hp → Prop) (b : Bool) (s' : Shared) : Prop := ∃ H', Inv X pins σ H' s' ∧ Q b H'
def AP (X : Cx) (pins : List (Addr × Obj)) (σ : St) (Q : List V → Hp → Prop) (us : List Value) (s' : Shared) : Prop := ∃ vs H', Inv X pins σ H' s' ∧ Vals vs us ∧ Q vs H'
def SP (X : Cx) (pins : List (Addr × Obj)) (D : Ends) (f : Flow) (s' : Shared) : Prop :=
  match f with
  | .next => ∃ σ' H', Inv X pins σ' H' s' ∧ D.nx σ' H'
  | .brk => ∃ σ' H', Inv X pins σ' H' s' ∧ D.bk σ' H'
  | .cont => ∃ σ' H', Inv X pins σ' H' s' ∧ D.ct σ' H'
  | .ret u => ∃ v σ' H', Inv X pins σ' H' s' ∧ RelV v u ∧ D.rt v H'
def PE (X : Cx) (e : Expr) (t : TE) : Prop :=
  ∀ (pins : List (Addr × Obj)) (s : Shared) (σ : St) (H : Hp) (Q : VK), Inv X pins σ H s → t σ H Q → wpAny (model X.prog X.w) X.A (eval e X.env) (EP X pins σ Q) X.xe s
def PT (X : Cx) (e : Expr) (t : TT) : Prop :=
  ∀ (pins : List (Addr × Obj)) (s : Shared) (σ : St) (H : Hp) (Q : Bool → Hp → Prop), Inv X pins σ H s → t σ H Q → wpAny (model X.prog X.w) X.A (isTrue e X.env (eval e X.env)) (TP X pins σ Q) X.xe s
def PW (X : Cx) (e : Expr) (t : TT) : Prop :=
  ∀ (whole : Sem Value) (pins : List (Addr × Obj)) (s : Shared) (σ : St) (H : Hp) (Q : Bool → Hp → Prop), Inv X pins σ H s → t σ H Q → wpAny (model X.prog X.w) X.A (isTrue e X.env whole) (TP X pins σ Q) X.xe s
theorem PW.pt {X : Cx} {e : Expr} {t : TT} (h : PW X e t) : PT X e t := h _
def PA (X : Cx) (es : List Expr) (t : TA) : Prop :=
  ∀ (pos : Pos) (pins : List (Addr × Obj)) (s : Shared) (σ : St) (H : Hp) (Q : List V → Hp → Prop), Inv X pins σ H s → t σ H Q → wpAny (model X.prog X.w) X.A (spliced (backTo pos (starEach es X.env))) (AP X pins σ Q) X.xe s
def PS (X : Cx) (st : Stmt) (t : TS) : Prop :=
  ∀ (pins : List (Addr × Obj)) (s : Shared) (σ : St) (H : Hp) (D : Ends), Inv X pins σ H s → t D σ H → wpAny (model X.prog X.w) X.A (exec st X.env) (SP X pins D) X.xe s
def PSs (X : Cx) (st : List Stmt) (t : TS) : Prop :=
  ∀ (pins : List (Addr × Obj)) (s : Shared) (σ : St) (H : Hp) (D : Ends), Inv X pins σ H s → t D σ H → wpAny (model X.prog X.w) X.A (execs st X.env) (SP X pins D) X.xe s
theorem thn {α : Type} {t : Sem α} {Q Q' : α → Shared → Prop} {M : Model} {A : Around} {E : Value → Shared → Prop} {s : Shared} (h : wpAny M A t Q E s) (hQ : ∀ a s, Q a s → Q' a s) : wpAny M A t Q' E s := wpAny_mono h hQ fun _ _ x => x
end L2
namespace L2
open PySem PySem.Spec PyProof.Rows
section
variable {X : Cx}
theorem bin {a b : Expr} {ta tb : TE} (ha : PE X a ta) (hb : PE X b tb) {pins : List (Addr × Obj)} {s : Shared} {σ : St} {H : Hp} {R : V → V → Hp → Prop} (I : Inv X pins σ H s) (h : ta σ H fun x H1 => tb σ H1 fun y H2 => R x y H2)
    {α : Type} {Q : α → Shared → Prop} {f : Value → Value → Sem α}
    (hf : ∀ v u s2 x y H2, Inv X pins σ H2 s2 → RelV x v → RelV y u → R x y H2 → wpAny (model X.prog X.w) X.A (f v u) Q X.xe s2) :
    wpAny (model X.prog X.w) X.A (eval a X.env) (fun v s₁ => wpAny (model X.prog X.w) X.A (eval b X.env) (fun u s₂ => wpAny (model X.prog X.w) X.A (f v u) Q X.xe s₂) X.xe s₁) X.xe s := by
  refine thn (ha pins s σ H _ I h) fun v s1 ⟨x, H1, I1, r1, q1⟩ => ?_
  refine thn (hb pins s1 σ H1 _ I1 q1) fun u s2 ⟨y, H2, I2, r2, q2⟩ => ?_
  exact hf v u s2 x y H2 I2 r1 r2 q2
def tVar (i : Nat) : TE := fun σ H Q => ∃ v, σ[i]? = some (some v) ∧ Q v H
def tC (v : V) : TE := fun _ H Q => Q v H
theorem pe_var {i : Nat} {x : Str} {pos : Pos} (hN : X.N[i]? = some x) (hv : Vis X.env.scope x) (hd : (x == ("__debug__" : Str)) = false := by decide) (hcd : (x == ("__classdict__" : Str)) = false := by decide) : PE X (.Name x pos) (tVar i) := by
  intro pins s σ H Q I h
  obtain ⟨v, e, h⟩ := h
  obtain ⟨m, hn, hl⟩ := I.loc
  obtain ⟨u, r, l⟩ := hl i x v hN e hv
  have fin : EP X pins σ Q u s := ⟨v, H, I, r, h⟩
  rcases l with ⟨hk, hm⟩ | ⟨hk, c, hc, hcell⟩
  · exact wpAny_Name (wpAny_loadName_local I.ok.kind hk hn hm fin) hd
  · rcases hk with hk | hk
    · exact wpAny_Name (wpAny_loadName_cell I.ok.kind hk hc hcell fin) hd
    · exact wpAny_Name (wpAny_loadName_free I.ok.kind hk hc hcell fin hcd) hd
theorem pe_int {i j pos} : PE X (.Constant (.int i) j pos) (tC (.int i)) := fun _ _ _ H _ I h => wpAny_Constant_int ⟨.int i, H, I.tok _, ⟨_, rfl⟩, h⟩
theorem pe_bl {b j pos} : PE X (.Constant (.bool b) j pos) (tC (.bl b)) := fun _ _ _ H _ I h => Constant_bool ⟨.bl b, H, I, rfl, h⟩
theorem pe_non {j pos} : PE X (.Constant .none j pos) (tC .non) := fun _ _ _ H _ I h => Constant_none ⟨.non, H, I, rfl, h⟩
theorem pe_str {x j pos} : PE X (.Constant (.str x) j pos) (tC (.str x)) := fun _ _ _ H _ I h => Calls.Constant_str ⟨.str x, H, I.tok _, ⟨_, rfl⟩, h⟩
def Gl (X : Cx) (x : Str) : Prop := X.env.kindOf x = some .globalImplicit
theorem ld_glob {E : Value → Shared → Prop} {pins : List (Addr × Obj)} {s : Shared} {σ : St} {H : Hp} {x : Str} {u : Value} {pos : Pos} {Q : Value → Shared → Prop} (I : Inv X pins σ H s) (hg : Gl X x) (hm : X.mg x = some u) (h : Q u s)
    (hd : (x == ("__debug__" : Str)) = false := by decide) : wpAny (model X.prog X.w) X.A (eval (.Name x pos) X.env) Q E s :=
  Calls.Name_function_global I.ok.kind hg (Calls.loadGlobal_global (by rw [I.ok.glob]; exact I.mod.glob.keeps I.bk) hm h) hd
theorem ld_blt {E : Value → Shared → Prop} {pins : List (Addr × Obj)} {s : Shared} {σ : St} {H : Hp} {x : Str} {u : Value} {pos : Pos} {Q : Value → Shared → Prop} (I : Inv X pins σ H s) (hg : Gl X x) (hm : X.mg x = none) (hv : bootBuiltins x = some u) (h : Q u s)
    (hn : x ≠ "__name__" := by decide) (hd : (x == ("__debug__" : Str)) = false := by decide) : wpAny (model X.prog X.w) X.A (eval (.Name x pos) X.env) Q E s := by
  obtain ⟨mb, h1, h2⟩ := I.mod.blt
  exact Calls.Name_function_global I.ok.kind hg (Calls.loadGlobal_builtin (by rw [I.ok.glob]; exact I.mod.glob.keeps I.bk) hm (by rw [I.ok.blt]; exact h1.keeps I.bk) ((h2 x hn).trans hv) h) hd
theorem pe_glob {x : Str} {v : V} {u : Value} {pos : Pos} (hg : Gl X x) (hm : X.mg x = some u) (r : RelV v u) (hd : (x == ("__debug__" : Str)) = false := by decide) : PE X (.Name x pos) (tC v) :=
  fun _ _ _ H _ I h => ld_glob I hg hm ⟨v, H, I, r, h⟩ hd
variable {a b : Expr} {ta tb : TE} {pos : Pos}
def PC (X : Cx) (op : CmpOp) (a b : Expr) (t : TE) : Prop :=
  ∀ (pins : List (Addr × Obj)) (s : Shared) (σ : St) (H : Hp) (Q : VK), Inv X pins σ H s → t σ H Q →
    wpAny (model X.prog X.w) X.A (eval a X.env) (fun v s₁ => wpAny (model X.prog X.w) X.A (eval b X.env) (fun u s₂ => wpAny (model X.prog X.w) X.A (compareOp op v u) (EP X pins σ Q) X.xe s₂) X.xe s₁) X.xe s
theorem nobehind (b : Expr) {op : CmpOp} (h : op ≠ .In) (h2 : op ≠ .NotIn) : behindInMarks op b = false := by
  have e1 : (op == CmpOp.In) = false := by cases op <;> first | rfl | exact absurd rfl h
  have e2 : (op == CmpOp.NotIn) = false := by cases op <;> first | rfl | exact absurd rfl h2
  cases b <;> simp [behindInMarks, e1, e2]
def tIsN (ta : TE) : TE := fun σ H Q => ta σ H fun x H1 => Q (.bl (decide (x = .non))) H1
def tNotN (ta : TE) : TE := fun σ H Q => ta σ H fun x H1 => Q (.bl (!decide (x = .non))) H1
theorem RelV.none_iff {x : V} {v : Value} (r : RelV x v) : (v == Value.none) = decide (x = .non) := by
  cases x with
  | non => cases r; rfl
  | bl _ => cases r; rfl
  | int _ => obtain ⟨t, rfl⟩ := r; rfl
  | str _ => obtain ⟨t, rfl⟩ := r; rfl
  | byt _ => obtain ⟨t, rfl⟩ := r; rfl
  | flt _ => obtain ⟨t, rfl⟩ := r; rfl
  | ref _ => cases r; rfl
  | ty _ => cases r; rfl
theorem pc_isN {j pos'} (ha : PE X a ta) : PC X .Is a (.Constant .none j pos') (tIsN ta) := by
  intro pins s σ H Q I h
  refine thn (ha pins s σ H _ I h) fun v s1 ⟨x, H1, I1, r1, q1⟩ => ?_
  exact Constant_none (is_none_gen ⟨.bl _, H1, I1, by rw [r1.none_iff]; rfl, q1⟩)
theorem pc_notN {j pos'} (ha : PE X a ta) : PC X .IsNot a (.Constant .none j pos') (tNotN ta) := by
  intro pins s σ H Q I h
  refine thn (ha pins s σ H _ I h) fun v s1 ⟨x, H1, I1, r1, q1⟩ => ?_
  exact Constant_none (isnot_none_gen ⟨.bl _, H1, I1, by rw [r1.none_iff]; rfl, q1⟩)
def tB (t : TE) : TT := fun σ H Q => t σ H fun x H1 => ∃ c, x = .bl c ∧ Q c H1
theorem pe_cmp {op : CmpOp} {t : TE} (h : PC X op a b t) (h1 : behindInMarks op b = false := by first | exact nobehind _ (by decide) (by decide) | rfl) : PE X (.Compare a [op] [b] pos) t := fun pins s σ H Q I hw => wpAny_Compare1 (h pins s σ H Q I hw) h1
theorem pt_cmp {op : CmpOp} {t : TE} (h : PC X op a b t) (h1 : behindInMarks op b = false := by first | exact nobehind _ (by decide) (by decide) | rfl) : PT X (.Compare a [op] [b] pos) (tB t) := by
  intro pins s σ H Q I hw
  refine wpAny_isTrue_Compare1 (thn (h pins s σ H _ I hw) fun v s1 h1 => thn h1 fun u s2 h2 => thn h2 fun c s3 ⟨x, H1, I1, r1, q1⟩ => ?_) h1
  obtain ⟨d, rfl, q⟩ := q1
  cases r1
  exact wpAny_truthy_bool ⟨H1, I1, q⟩
theorem pt_val {e : Expr} {t : TE} (h : PE X e t) (he : ∀ whole, isTrue e X.env whole = (do let v ← whole; standAt e.pos; holding [v] (truthy v)) := by intro _; rfl) : PT X e (tB t) := by
  intro pins s σ H Q I hw
  refine isTrue_plain (thn (h pins s σ H _ I hw) fun v s1 ⟨x, H1, I1, r1, q1⟩ => ?_) (he _)
  obtain ⟨d, rfl, q⟩ := q1
  cases r1
  exact wpAny_truthy_bool ⟨H1, I1, q⟩
variable {tA tB' : TT} {rest : List Expr}
def tAnd (t u : TT) : TT := fun σ H Q => t σ H fun c H1 => if c = true then u σ H1 Q else Q false H1
def tOr (t u : TT) : TT := fun σ H Q => t σ H fun c H1 => if c = true then Q true H1 else u σ H1 Q
def tNot (t : TT) : TT := fun σ H Q => t σ H fun c H1 => Q (!c) H1
theorem pw_and1 (ha : PT X a tA) : PW X (.BoolOp .And [a] pos) tA := by
  intro wh pins s σ H Q I h
  refine isTrue_and (thn (ha pins s σ H Q I h) fun c s1 e => ?_)
  cases c with
  | true => exact isTrue_and_nil e
  | false => exact e
theorem pw_or1 (ha : PT X a tA) : PW X (.BoolOp .Or [a] pos) tA := by
  intro wh pins s σ H Q I h
  refine isTrue_or (thn (ha pins s σ H Q I h) fun c s1 e => ?_)
  cases c with
  | false => exact isTrue_or_nil e
  | true => exact e
theorem pw_and (ha : PT X a tA) (hb : PW X (.BoolOp .And (b :: rest) pos) tB') : PW X (.BoolOp .And (a :: b :: rest) pos) (tAnd tA tB') := by
  intro wh pins s σ H Q I h
  refine isTrue_and (thn (ha pins s σ H _ I h) fun c s1 ⟨H1, I1, q1⟩ => ?_)
  cases c with
  | true => exact hb wh pins s1 σ H1 Q I1 q1
  | false => exact ⟨H1, I1, q1⟩
theorem pw_or (ha : PT X a tA) (hb : PW X (.BoolOp .Or (b :: rest) pos) tB') : PW X (.BoolOp .Or (a :: b :: rest) pos) (tOr tA tB') := by
  intro wh pins s σ H Q I h
  refine isTrue_or (thn (ha pins s σ H _ I h) fun c s1 ⟨H1, I1, q1⟩ => ?_)
  cases c with
  | true => exact ⟨H1, I1, q1⟩
  | false => exact hb wh pins s1 σ H1 Q I1 q1
theorem pt_not (ha : PT X a tA) : PT X (.UnaryOp .Not a pos) (tNot tA) := by
  intro pins s σ H Q I h
  exact isTrue_not (ha pins s σ H (fun c H1 => Q (!c) H1) I h)
def tIf (t : TT) (ta tb : TE) : TE := fun σ H Q => t σ H fun c H1 => if c = true then ta σ H1 Q else tb σ H1 Q
theorem pe_ifExp {c : Expr} (hc : PT X c tA) (ha : PE X a ta) (hb : PE X b tb) : PE X (.IfExp c a b pos) (tIf tA ta tb) := by
  intro pins s σ H Q I h
  refine wpAny_IfExp (thn (hc pins s σ H _ I h) fun d s1 ⟨H1, I1, q1⟩ => ?_)
  cases d with
  | true => exact ha pins s1 σ H1 Q I1 q1
  | false => exact hb pins s1 σ H1 Q I1 q1
end
end L2
namespace L2
open PySem PySem.Spec PyProof.Rows
def SqL (K : PySem.W.Frag) (H : Hp) (a : Addr) (xs : List V) : Prop :=
  Rd H a (.lst xs) ∨
    ∃ (o : Obj) (its : Array Value) (n : Nat), K.lookup a = some o ∧ o.cls = .type "list" ∧ o.dict = none ∧ o.data = .seq its n ∧ its.size ≤ sizeLine ∧ Vals xs its.toList
def SqT (K : PySem.W.Frag) (H : Hp) (a : Addr) (xs : List V) : Prop :=
  Rd H a (.tup xs) ∨
    ∃ (o : Obj) (its : Array Value) (n : Nat), K.lookup a = some o ∧ o.cls = .type "tuple" ∧ o.data = .seq its n ∧ its.size ≤ sizeLine ∧ Vals xs its.toList
def absV : Value → Option V
  | .none => some .non
  | .bool b => some (.bl b)
  | .int i _ => some (.int i)
  | .str x _ => some (.str x)
  | .bytes b _ => some (.byt b)
  | .float b _ => some (.flt b)
  | .ref a => some (.ref a)
  | .type n => some (.ty n)
  | _ => none
theorem RelV.abs {x : V} {u : Value} (r : RelV x u) : absV u = some x := by
  cases x with
  | non => cases r; rfl
  | bl _ => cases r; rfl
  | int _ => obtain ⟨t, rfl⟩ := r; rfl
  | str _ => obtain ⟨t, rfl⟩ := r; rfl
  | byt _ => obtain ⟨t, rfl⟩ := r; rfl
  | flt _ => obtain ⟨t, rfl⟩ := r; rfl
  | ref _ => cases r; rfl
  | ty _ => cases r; rfl
theorem RelV.inj {x y : V} {u : Value} (r : RelV x u) (q : RelV y u) : x = y := Option.some.inj (r.abs.symm.trans q.abs)
theorem Vals.inj : ∀ {xs ys : List V} {us : List Value}, Vals xs us → Vals ys us → xs = ys
  | _, _, _, .nil, .nil => rfl
  | _, _, _, .cons r t, .cons r' t' => by rw [r.inj r', Vals.inj t t']
section
variable {X : Cx} {pins : List (Addr × Obj)} {σ : St} {H : Hp} {s : Shared} {a : Addr} {xs ys : List V}
theorem SqL.of {K : PySem.W.Frag} (h : H a = some (.lst xs)) : SqL K H a xs := .inl (.inl h)
theorem SqT.of {K : PySem.W.Frag} (h : H a = some (.tup xs)) : SqT K H a xs := .inl (.inl h)
theorem Inv.list (I : Inv X pins σ H s) (h : SqL X.K H a xs) : ∃ its : List Value, Vals xs its ∧ PlainL s.heap a its.toArray ∧ xs.length ≤ sizeLine := by
  rcases h with h | ⟨o, its, n, hk, hc, hd, hs, hz, r⟩
  · obtain ⟨z, its, n, r, e⟩ := h.ok I.hok
    exact ⟨its, r, ⟨_, n, e, rfl, rfl, rfl⟩, z⟩
  · refine ⟨its.toList, r, ⟨o, n, I.kIn a o hk, hc, hd, by simpa using hs⟩, ?_⟩
    have e := r.length
    simp only [Array.length_toList] at e
    omega
theorem Inv.tuple (I : Inv X pins σ H s) (h : SqT X.K H a xs) : ∃ its : List Value, Vals xs its ∧ IsTup s.heap a its.toArray ∧ xs.length ≤ sizeLine := by
  rcases h with h | ⟨o, its, n, hk, hc, hs, hz, r⟩
  · obtain ⟨z, its, r, p, _⟩ := h.ok I.hok
    exact ⟨its, r, p, z⟩
  · refine ⟨its.toList, r, ⟨o, I.kIn a o hk, hc, n, by simpa using hs⟩, ?_⟩
    have e := r.length
    simp only [Array.length_toList] at e
    omega
theorem Inv.list_inj (I : Inv X pins σ H s) (h : SqL X.K H a xs) (h' : SqL X.K H a ys) : xs = ys := by
  obtain ⟨its, r, ⟨o, n, e, _, _, d⟩, _⟩ := I.list h
  obtain ⟨its', r', ⟨o', n', e', _, _, d'⟩, _⟩ := I.list h'
  rw [e] at e'; cases e'
  rw [d] at d'
  injection d' with d1 _
  have : its = its' := by simpa using congrArg Array.toList d1
  subst this
  exact r.inj r'
theorem Inv.tuple_inj (I : Inv X pins σ H s) (h : SqT X.K H a xs) (h' : SqT X.K H a ys) : xs = ys := by
  obtain ⟨its, r, ⟨o, e, _, n, d⟩, _⟩ := I.tuple h
  obtain ⟨its', r', ⟨o', e', _, n', d'⟩, _⟩ := I.tuple h'
  rw [e] at e'; cases e'
  rw [d] at d'
  injection d' with d1 _
  have : its = its' := by simpa using congrArg Array.toList d1
  subst this
  exact r.inj r'
end
abbrev Cx.wish (X : Cx) (E : Value → Shared → Prop) : Cx := { X with xe := E }
abbrev Cx.nox (X : Cx) : Cx := X.wish fun _ _ => False
theorem Cx.Ok.wish {X : Cx} (ok : X.Ok) (E : Value → Shared → Prop) : (X.wish E).Ok :=
  ⟨ok.mod, ok.kind, ok.glob, ok.blt, ok.above, ok.inj, ok.has, ok.cab, ok.hd, ok.frames, ok.stk, ok.exf, ok.bs, ok.bsz, ok.noex, ok.exfs, ok.funs, ok.frf⟩
theorem Cx.Ok.unwish {X : Cx} {E : Value → Shared → Prop} (ok : (X.wish E).Ok) : X.Ok :=
  ⟨ok.mod, ok.kind, ok.glob, ok.blt, ok.above, ok.inj, ok.has, ok.cab, ok.hd, ok.frames, ok.stk, ok.exf, ok.bs, ok.bsz, ok.noex, ok.exfs, ok.funs, ok.frf⟩
section
variable {X : Cx} {pins : List (Addr × Obj)} {σ : St} {H : Hp} {s : Shared} {E : Value → Shared → Prop}
theorem Inv.wish (I : Inv X pins σ H s) (E : Value → Shared → Prop) : Inv (X.wish E) pins σ H s := ⟨I.ok.wish E, I.os, I.bare, I.base, I.loc, I.cell, I.free, I.freeC, I.pin, I.hok, I.len⟩
theorem Inv.unwish (I : Inv (X.wish E) pins σ H s) : Inv X pins σ H s := ⟨I.ok.unwish, I.os, I.bare, I.base, I.loc, I.cell, I.free, I.freeC, I.pin, I.hok, I.len⟩
theorem SP.unwish {D : Ends} {f : Flow} {s' : Shared} (h : SP (X.wish E) pins D f s') : SP X pins D f s' := by
  cases f with
  | next => obtain ⟨σ', H', I, q⟩ := h; exact ⟨σ', H', I.unwish, q⟩
  | brk => obtain ⟨σ', H', I, q⟩ := h; exact ⟨σ', H', I.unwish, q⟩
  | cont => obtain ⟨σ', H', I, q⟩ := h; exact ⟨σ', H', I.unwish, q⟩
  | ret u => obtain ⟨v, σ', H', I, r, q⟩ := h; exact ⟨v, σ', H', I.unwish, r, q⟩
theorem PE.nox {e : Expr} {t : TE} (h : PE X.nox e t) : PE X e t := fun pins s σ H Q I hw =>
  wpAny_mono (h pins s σ H Q (I.wish _) hw) (fun _ _ ⟨v, H', I', r, q⟩ => ⟨v, H', I'.unwish, r, q⟩) fun _ _ z => False.elim z
theorem PT.nox {e : Expr} {t : TT} (h : PT X.nox e t) : PT X e t := fun pins s σ H Q I hw =>
  wpAny_mono (h pins s σ H Q (I.wish _) hw) (fun _ _ ⟨H', I', q⟩ => ⟨H', I'.unwish, q⟩) fun _ _ z => False.elim z
theorem PSs.nox {st : List Stmt} {t : TS} (h : PSs X.nox st t) : PSs X st t := fun pins s σ H D I hw =>
  wpAny_mono (h pins s σ H D (I.wish _) hw) (fun _ _ q => q.unwish) fun _ _ z => False.elim z
end
section
variable {X : Cx} {st : Stmt} {rest : List Stmt} {t u : TS} {e : Expr} {te : TE} {pos : Pos}
def tNext : TS := fun D σ H => D.nx σ H
def tSeq (t u : TS) : TS := fun D σ H => t { D with nx := u D } σ H
theorem pss_nil : PSs X [] tNext := fun _ _ σ H _ I h => wpAny_execs_nil ⟨σ, H, I, h⟩
theorem pss_cons (h1 : PS X st t) (h2 : PSs X rest u) : PSs X (st :: rest) (tSeq t u) := by
  intro pins s σ H D I h
  refine wpAny_execs_cons (thn (h1 pins s σ H { D with nx := u D } I h) fun f s1 q => ?_)
  cases f with
  | next =>
    obtain ⟨σ', H', I', q⟩ := q
    exact h2 pins s1 σ' H' D I' q
  | ret v => exact q
  | brk => exact q
  | cont => exact q
theorem pss_one (h1 : PS X st t) : PSs X [st] t := by
  intro pins s σ H D I h
  refine wpAny_execs_cons (thn (h1 pins s σ H D I h) fun f s1 q => ?_)
  cases f with
  | next => exact wpAny_execs_nil q
  | ret v => exact q
  | brk => exact q
  | cont => exact q
theorem Inv.quiet {pins : List (Addr × Obj)} {σ : St} {H : Hp} {s : Shared} (I : Inv X pins σ H s) : interactive X.env = false := by simp [interactive, I.ok.kind]
def tDrop (te : TE) : TS := fun D σ H => te σ H fun _ H1 => D.nx σ H1
theorem ps_expr (he : PE X e te) (hs : swapsWith e none pos.line X.env = pure false := by rfl) : PS X (.Expr e pos) (tDrop te) := by
  intro pins s σ H D I h
  exact wpAny_Expr_any (thn (he pins s σ H _ I h) fun v s1 ⟨x, H1, I1, r1, q1⟩ => ⟨σ, H1, I1, q1⟩) I.quiet hs
def tRet (te : TE) : TS := fun D σ H => te σ H D.rt
theorem ps_ret (he : PE X e te) : PS X (.Return (some e) pos) (tRet te) := by
  intro pins s σ H D I h
  exact wpAny_Return_some (thn (he pins s σ H _ I h) fun v s1 ⟨x, H1, I1, r1, q1⟩ => ⟨x, σ, H1, I1, r1, q1⟩)
def tIfS (c : TT) (t u : TS) : TS := fun D σ H => c σ H fun b H1 => if b = true then t D σ H1 else u D σ H1
theorem ps_if {c : Expr} {a b : List Stmt} {tc : TT} (hc : PT X c tc) (ha : PSs X a t) (hb : PSs X b u) : PS X (.If c a b pos) (tIfS tc t u) := by
  intro pins s σ H D I h
  refine wpAny_If (thn (hc pins s σ H _ I h) fun d s1 ⟨H1, I1, q1⟩ => ?_)
  cases d with
  | true => exact ha pins s1 σ H1 D I1 q1
  | false => exact hb pins s1 σ H1 D I1 q1
def tNever : TS := fun _ _ _ => False
theorem pss_never {sts : List Stmt} : PSs X sts tNever := fun _ _ _ _ _ _ h => h.elim
end
abbrev TG := V → St → Hp → (St → Hp → Prop) → Prop
abbrev TGs := List V → St → Hp → (St → Hp → Prop) → Prop
def PG (X : Cx) (target : Expr) (t : TG) : Prop :=
  ∀ (pins : List (Addr × Obj)) (s : Shared) (σ : St) (H : Hp) (v : V) (u : Value) (Q : St → Hp → Prop), Inv X pins σ H s → RelV v u → t v σ H Q →
    wpAny (model X.prog X.w) X.A (assign target X.env u) (fun _ s' => ∃ σ' H', Inv X pins σ' H' s' ∧ Q σ' H') X.xe s
def PGs (X : Cx) (ts : List Expr) (t : TGs) : Prop :=
  ∀ (pins : List (Addr × Obj)) (s : Shared) (σ : St) (H : Hp) (vs : List V) (us : List Value) (Q : St → Hp → Prop), Inv X pins σ H s → Vals vs us → t vs σ H Q →
    wpAny (model X.prog X.w) X.A (assignInOrder ((assignEach ts X.env).map (·.2)) us) (fun _ s' => ∃ σ' H', Inv X pins σ' H' s' ∧ Q σ' H') X.xe s
section
variable {X : Cx} {pos : Pos}
def gName (i : Nat) : TG := fun v σ H Q => Q (σ.set i (some v)) H
theorem pg_name {i : Nat} {x : Str} (hN : X.N.Nodup) (hi : X.N[i]? = some x) (hx : Loc X.env.scope x) (hf : X.fn x = true ∨ X.env.scope.names.lookup x = some .local := by first | exact .inl rfl | exact .inr rfl | assumption) : PG X (.Name x pos) (gName i) := by
  intro pins s σ H v u Q I r h
  exact wpAny_assign_Name (store_ok I hN hi hx r (fun s' I' => ⟨_, H, I', h⟩) hf)
def gNil : TGs := fun vs σ H Q => vs = [] ∧ Q σ H
def gCons (t : TG) (u : TGs) : TGs := fun vs σ H Q => ∃ v r, vs = v :: r ∧ t v σ H fun σ' H' => u r σ' H' Q
theorem pgs_nil : PGs X [] gNil := by
  intro pins s σ H vs us Q I r h
  obtain ⟨e, h⟩ := h
  subst e
  cases r
  exact assignInOrder_nil ⟨σ, H, I, h⟩
theorem pgs_cons {e : Expr} {es : List Expr} {t : TG} {u : TGs} (h1 : PG X e t) (h2 : PGs X es u)
    (hs : (assignEach (e :: es) X.env).map (·.2) = assign e X.env :: (assignEach es X.env).map (·.2) := by rfl) : PGs X (e :: es) (gCons t u) := by
  intro pins s σ H vs us Q I r h
  obtain ⟨v, vr, e1, h⟩ := h
  subst e1
  cases r with
  | cons r rr =>
    rw [hs]
    refine assignInOrder_cons (thn (h1 pins s σ H _ _ _ I r h) fun _ s1 ⟨σ1, H1, I1, q1⟩ => ?_)
    exact h2 pins s1 σ1 H1 _ _ Q I1 rr q1
def gTup (K : PySem.W.Frag) (n : Nat) (t : TGs) : TG := fun v σ H Q => ∃ a xs, v = .ref a ∧ SqT K H a xs ∧ xs.length = n ∧ t xs σ H Q
theorem pg_tup {es : List Expr} {k : Nat} {t : TGs} {n : Nat} (hc : X.calm = true) (h : PGs X es t)
    (hn : (assignEach es X.env).length = n := by rfl) (hst : (assignEach es X.env).findIdx? (·.1) = none := by rfl) : PG X (.Tuple es k pos) (gTup X.K n t) := by
  intro pins s σ H v u Q I r hw
  obtain ⟨a, xs, e1, hq, hl, hw⟩ := hw
  subst e1
  cases r
  obtain ⟨its, rv, ht, hz⟩ := I.tuple hq
  refine assign_Tuple_tuple (I.ok.hd hc) ht (by simp [hn, ← hl, rv.length]) hst fun h' hx => ?_
  have I1 : Inv X pins σ H { s with heap := h' } := I.kept (t' := s.toks) fun b o e => hx b o (Nat.ne_of_lt (Heap.lt_size e)) e
  exact h pins _ σ H xs _ Q I1 (by simpa using rv) hw
def tAsg (te : TE) (g : TG) : TS := fun D σ H => te σ H fun x H1 => g x σ H1 D.nx
theorem ps_set {i : Nat} {x : Str} {e : Expr} {te : TE} {pos' : Pos} (hN : X.N.Nodup) (hi : X.N[i]? = some x) (hx : Loc X.env.scope x) (he : PE X e te) (hs : swapsWith e (some (.Name x pos')) pos.line X.env = pure false := by rfl) (hf : X.fn x = true ∨ X.env.scope.names.lookup x = some .local := by first | exact .inl rfl | exact .inr rfl | assumption) :
    PS X (.Assign [.Name x pos'] e pos) (tAsg te (gName i)) := by
  intro pins s σ H D I h
  refine wpAny_Assign_Name (thn (he pins s σ H _ I h) fun v s1 ⟨y, H1, I1, r1, q1⟩ => ?_) hs
  exact store_ok I1 hN hi hx r1 (fun s2 I2 => ⟨_, H1, I2, q1⟩) hf
end
section
variable {X : Cx} {pos : Pos}
def tWhile (c : TT) (tb : TS) : TS := fun D σ H => ∃ W : Nat → St → Hp → Prop, (∃ m, W m σ H) ∧ ∀ m σ H, W m σ H →
  c σ H fun b H1 => if b = true then ∃ N : St → Hp → Prop, (∀ σ' H', N σ' H' → ∃ m', m' < m ∧ W m' σ' H') ∧ tb { D with nx := N, ct := N, bk := D.nx } σ H1 else D.nx σ H1
theorem ps_while {c : Expr} {body : List Stmt} {tc : TT} {tb : TS} (hp : PassesOwn (model X.prog X.w) X.A X.env X.xe) (hc : PT X c tc) (hb : PSs X body tb) : PS X (.While c body [] pos) (tWhile tc tb) := by
  intro pins s σ H D I h
  obtain ⟨W, ⟨m0, w0⟩, turn⟩ := h
  refine wpAny_While (codeAny_whileLoop (fun n s' => ∃ σ' H', Inv X pins σ' H' s' ∧ W n σ' H') ?_ m0 ⟨σ, H, I, w0⟩)
  rintro n s1 ⟨σ1, H1, I1, w1⟩
  refine wpAny_passesOwn hp (thn (hc pins s1 σ1 H1 _ I1 (turn n σ1 H1 w1)) fun b s2 ⟨H2, I2, q2⟩ => ?_)
  cases b with
  | true =>
    obtain ⟨N, hN, q2⟩ := q2
    rw [if_pos rfl]
    refine wpAny_passesOwn hp (thn (hb pins s2 σ1 H2 _ I2 q2) fun f s3 q3 => ?_)
    cases f with
    | next =>
      obtain ⟨σ3, H3, I3, n3⟩ := q3
      obtain ⟨m', hm, w3⟩ := hN σ3 H3 n3
      exact ⟨m', hm, σ3, H3, I3, w3⟩
    | cont =>
      obtain ⟨σ3, H3, I3, n3⟩ := q3
      obtain ⟨m', hm, w3⟩ := hN σ3 H3 n3
      exact ⟨m', hm, σ3, H3, I3, w3⟩
    | brk => exact q3
    | ret v => exact q3
  | false =>
    rw [if_neg Bool.false_ne_true]
    exact wpAny_execs_nil ⟨σ1, H2, I2, q2⟩
end
structure It where
  go : Nat → Hp → Prop
  yld : Nat → Hp → V → Hp → Prop
  stop : Nat → Hp → Prop
def FpOk (X : Cx) (pins : List (Addr × Obj)) (H : Hp) (b : Addr) : Prop :=
  H b = none ∧ b ≠ X.env.locals ∧ b ∉ X.fs ∧ (b ∈ X.ex ∨ X.s₀.heap.objs.size ≤ b) ∧ (∀ x c, X.env.cells.lookup x = some c → c ≠ b) ∧ ∀ p ∈ X.pn ++ pins, p.1 ≠ b
theorem Inv.fpOk {X : Cx} {pins : List (Addr × Obj)} {σ : St} {H H' : Hp} {s : Shared} {b : Addr} (I : Inv X pins σ H s) (hb : s.heap.objs.size ≤ b) (hn : H' b = none) : FpOk X pins H' b := by
  refine ⟨hn, Nat.ne_of_gt (Nat.lt_of_lt_of_le I.lt hb), I.nofs hb, .inr (Nat.le_trans I.sz hb), fun x c e z => ?_, fun p hp z => ?_⟩
  · obtain ⟨v, q⟩ := I.cell x c e
    exact absurd (Nat.lt_of_lt_of_le q.lt (by rw [z]; exact hb)) (Nat.lt_irrefl _)
  · exact absurd (Nat.lt_of_lt_of_le (Heap.lt_size (I.pin p hp).1) (by rw [z]; exact hb)) (Nat.lt_irrefl _)
structure Turn (P : Program) (w : World) (K : PySem.W.Frag) (tg : Expr) (J : It) (fp : List Addr) (it : Addr) (tn : Nat → Heap → Prop) : Prop where
  mem : it ∈ fp
  obj : ∀ i h, tn i h → ∀ b ∈ fp, ∃ o, h.get? b = some o ∧ ∀ v, o.data ≠ .cell v
  keep : ∀ i h h', tn i h → (∀ b ∈ fp, ∀ o, h.get? b = some o → h'.get? b = some o) → tn i h'
  item : ∀ (X : Cx), X.prog = P → X.w = w → X.K = K → X.calm = true → ∀ (i : Nat) (pins : List (Addr × Obj)) (s : Shared) (σ : St) (H : Hp) (E : Value → Shared → Prop), Inv X pins σ H s → (∀ b ∈ fp, FpOk X pins H b) → tn i s.heap → J.go i H →
    wpAny (model P w) X.A (pyNext (.ref it)) (fun r s1 => ∃ u, r = some u ∧
      wpAny (model P w) X.A (letOwnedTupleGo tg (.ref it) u) (fun _ s2 => ∃ x H', Inv X pins σ H' s2 ∧ RelV x u ∧ J.yld i H x H' ∧ tn (i + 1) s2.heap ∧ ∀ b ∈ fp, H' b = none) E s1) E s
  done : ∀ (X : Cx), X.prog = P → X.w = w → X.K = K → X.calm = true → ∀ (i : Nat) (pins : List (Addr × Obj)) (s : Shared) (σ : St) (H : Hp) (E : Value → Shared → Prop), Inv X pins σ H s → (∀ b ∈ fp, FpOk X pins H b) → tn i s.heap → J.stop i H →
    wpAny (model P w) X.A (pyNext (.ref it)) (fun r s1 => r = none ∧ Inv X pins σ H s1) E s
  self : ∀ (A : Around) (i : Nat) (s : Shared) (Q : Value → Shared → Prop) (E : Value → Shared → Prop), tn i s.heap → Q (.ref it) s → wpAny (model P w) A (pyIter (.ref it)) Q E s
abbrev TI := St → Hp → (It → Hp → Prop) → Prop
def PIE (X : Cx) (pins : List (Addr × Obj)) (σ : St) (tg : Expr) (R : It → Hp → Prop) (itv : Value) (s2 : Shared) : Prop :=
  ∃ (it : Addr) (fp : List Addr) (tn : Nat → Heap → Prop) (J : It) (H' : Hp), itv = .ref it ∧ Inv X pins σ H' s2 ∧ Turn X.prog X.w X.K tg J fp it tn ∧ tn 0 s2.heap ∧ (∀ b ∈ fp, FpOk X pins H' b) ∧ R J H'
def PI (X : Cx) (tg iter : Expr) (wi : TI) : Prop :=
  ∀ (pins : List (Addr × Obj)) (s : Shared) (σ : St) (H : Hp) (R : It → Hp → Prop), Inv X pins σ H s → wi σ H R →
    wpAny (model X.prog X.w) X.A (eval iter X.env) (fun v s1 => wpAny (model X.prog X.w) X.A (pyIter v) (PIE X pins σ tg R) X.xe s1) X.xe s
theorem go_of {M : Model} {A : Around} {E : Value → Shared → Prop} {s : Shared} {tg : Expr} {it : Addr} {u : Value} {o : Obj} {n : String} {vs : Array Value} {Q : Unit → Shared → Prop} (ho : s.heap.get? it = some o) (hc : o.cls = .type n) (hd : o.data = .fields vs)
    (hn : ["enumerate", "zip", "dict_itemiterator", "dict_reverseitemiterator", "odict_iterator", "itertools.zip_longest", "itertools.pairwise"].contains n = false) (hQ : Q () s) : wpAny M A (letOwnedTupleGo tg (.ref it) u) Q E s := by
  unfold letOwnedTupleGo
  cases tg <;> first
    | exact wpAny_pure hQ
    | (cases u <;> first
        | exact wpAny_pure hQ
        | (refine wpAny_bind (wpAny_load ho ?_)
           rw [hc, hd]
           show wpAny M A (if (["enumerate", "zip", "dict_itemiterator", "dict_reverseitemiterator", "odict_iterator", "itertools.zip_longest", "itertools.pairwise"].contains n && vs[0]? == some (rawInt _)) = true then _ else _) Q E s
           rw [if_neg (by intro h; rw [hn, Bool.false_and] at h; cases h)]
           exact wpAny_pure hQ))
def Itl (K : PySem.W.Frag) (a : Addr) : It :=
  ⟨fun i H => ∃ xs x, SqL K H a xs ∧ xs[i]? = some x, fun i H x H' => H' = H ∧ ∀ xs, SqL K H a xs → xs[i]? = some x, fun i H => ∃ xs, SqL K H a xs ∧ xs.length ≤ i⟩
def Itt (K : PySem.W.Frag) (a : Addr) : It :=
  ⟨fun i H => ∃ xs x, SqT K H a xs ∧ xs[i]? = some x, fun i H x H' => H' = H ∧ ∀ xs, SqT K H a xs → xs[i]? = some x, fun i H => ∃ xs, SqT K H a xs ∧ xs.length ≤ i⟩
def Itr (lo : Int) (n : Nat) : It := ⟨fun i _ => i < n, fun i H x H' => H' = H ∧ x = .int (lo + i), fun i _ => n ≤ i⟩
theorem turn_list {P : Program} {w : World} {K : PySem.W.Frag} {tg : Expr} (a it : Addr) : Turn P w K tg (Itl K a) [it] it (fun i h => h.IsListIter it a i) where
  mem := by simp
  obj := fun i h st b hb => by
    have e : b = it := by simpa using hb
    subst e
    obtain ⟨o, e, c, d⟩ := st
    exact ⟨o, e, fun v z => by rw [d] at z; cases z⟩
  keep := fun i h h' st k => st.at fun o e => k it (by simp) o e
  item := by
    intro X hP hw hK hc i pins s σ H E I hf st hg
    subst hP hw hK
    obtain ⟨xs, x, hq, hx⟩ := hg
    obtain ⟨its, rv, p, hz⟩ := I.list hq
    obtain ⟨u, hu, ru⟩ := rv.get hx
    obtain ⟨f0, f1, f2, f3, f4, f5⟩ := hf it (by simp)
    refine wpAny_pyNext_list_item st p.isList (x := u) (by simpa using hu) fun h' st' sb => ?_
    have I1 : Inv X pins σ H { s with heap := h' } := I.turned (t' := s.toks) (fun b o hb e => (sb.2 b hb).trans e) f0 f1 f3 f4 f5
    obtain ⟨o, e, c, d⟩ := id st'
    exact ⟨u, rfl, go_of (s := { s with heap := h' }) e c d (by decide) ⟨x, H, I1, ru, ⟨rfl, fun ys hy => by rw [I.list_inj hy hq]; exact hx⟩, st', fun b hb => (hf b hb).1⟩⟩
  done := by
    intro X hP hw hK hc i pins s σ H E I hf st hg
    subst hP hw hK
    obtain ⟨xs, hq, hx⟩ := hg
    obtain ⟨its, rv, p, hz⟩ := I.list hq
    obtain ⟨f0, f1, f2, f3, f4, f5⟩ := hf it (by simp)
    have hl := rv.length
    exact wpAny_pyNext_list_end (I.ok.hd hc) st p.isList (by simp; omega) fun h' eb => ⟨rfl, I.turned (t' := s.toks) (fun b o hb e => eb b o hb e) f0 f1 f3 f4 f5⟩
  self := fun _ _ _ _ _ st h => wpAny_pyIter_listiter st h
theorem turn_tuple {P : Program} {w : World} {K : PySem.W.Frag} {tg : Expr} (a it : Addr) : Turn P w K tg (Itt K a) [it] it (fun i h => h.IsTupleIter it a i) where
  mem := by simp
  obj := fun i h st b hb => by
    have e : b = it := by simpa using hb
    subst e
    obtain ⟨o, e, c, d⟩ := st
    exact ⟨o, e, fun v z => by rw [d] at z; cases z⟩
  keep := fun i h h' st k => st.at fun o e => k it (by simp) o e
  item := by
    intro X hP hw hK hc i pins s σ H E I hf st hg
    subst hP hw hK
    obtain ⟨xs, x, hq, hx⟩ := hg
    obtain ⟨its, rv, p, hz⟩ := I.tuple hq
    obtain ⟨u, hu, ru⟩ := rv.get hx
    obtain ⟨f0, f1, f2, f3, f4, f5⟩ := hf it (by simp)
    refine wpAny_pyNext_tuple_item st (show s.heap.IsTuple a its.toArray from p) (x := u) (by simpa using hu) fun h' st' sb => ?_
    have I1 : Inv X pins σ H { s with heap := h' } := I.turned (t' := s.toks) (fun b o hb e => (sb.2 b hb).trans e) f0 f1 f3 f4 f5
    obtain ⟨o, e, c, d⟩ := id st'
    exact ⟨u, rfl, go_of (s := { s with heap := h' }) e c d (by decide) ⟨x, H, I1, ru, ⟨rfl, fun ys hy => by rw [I.tuple_inj hy hq]; exact hx⟩, st', fun b hb => (hf b hb).1⟩⟩
  done := by
    intro X hP hw hK hc i pins s σ H E I hf st hg
    subst hP hw hK
    obtain ⟨xs, hq, hx⟩ := hg
    obtain ⟨its, rv, p, hz⟩ := I.tuple hq
    obtain ⟨f0, f1, f2, f3, f4, f5⟩ := hf it (by simp)
    have hl := rv.length
    exact wpAny_pyNext_tuple_end (I.ok.hd hc) st (show s.heap.IsTuple a its.toArray from p) (by simp; omega) fun h' eb => ⟨rfl, I.turned (t' := s.toks) (fun b o hb e => eb b o hb e) f0 f1 f3 f4 f5⟩
  self := fun _ _ _ _ _ st h => wpAny_pyIter_tupleiter st h
theorem turn_range {P : Program} {w : World} {K : PySem.W.Frag} {tg : Expr} (it : Addr) (lo : Int) (n : Nat) : Turn P w K tg (Itr lo n) [it] it (fun i h => IsRangeIter h it (lo + (i : Nat) * 1) ((n : Int) - (i : Nat)) 1) where
  mem := by simp
  obj := fun i h st b hb => by
    have e : b = it := by simpa using hb
    subst e
    exact ⟨_, st, fun v z => by
      have z' : Data.fields _ = Data.cell v := z
      cases z'⟩
  keep := fun i h h' st k => k it (by simp) _ st
  item := by
    intro X hP hw hK hc i pins s σ H E I hf st hg
    subst hP hw hK
    obtain ⟨f0, f1, f2, f3, f4, f5⟩ := hf it (by simp)
    have W := Walks.range (prog := X.prog) (w := X.w) (I.ok.hd hc) it lo 1 n
    refine W.item i s _ _ hg st fun v h' tk hv st' kk => ?_
    obtain ⟨t, rfl⟩ := hv
    have I1 : Inv X pins σ H { s with heap := h', toks := tk } := I.turned (fun b o hb e => kk b o (by simpa using hb) e) f0 f1 f3 f4 f5
    refine ⟨_, rfl, go_of (s := { s with heap := h', toks := tk }) (n := "range_iterator") st' rfl rfl (by decide) ⟨.int (lo + i), H, I1, ⟨t, ?_⟩, ⟨rfl, rfl⟩, st', fun b hb => (hf b hb).1⟩⟩
    rw [Int.mul_one]
  done := by
    intro X hP hw hK hc i pins s σ H E I hf st hg
    subst hP hw hK
    obtain ⟨f0, f1, f2, f3, f4, f5⟩ := hf it (by simp)
    exact wpAny_pyNext_range_end (I.ok.hd hc) st (by have : n ≤ i := hg; omega) fun h' eb => ⟨rfl, I.turned (t' := s.toks) (fun b o hb e => eb b o hb e) f0 f1 f3 f4 f5⟩
  self := fun _ _ _ _ _ st h => wpAny_pyIter_rangeiter st h
end L2
namespace L2
open PySem PySem.Spec PyProof.Rows
section
variable {X : Cx} {tg : Expr}
def iList (K : PySem.W.Frag) (tl : TE) : TI := fun σ H R => tl σ H fun x H1 => ∃ a, x = .ref a ∧ (∃ xs, SqL K H1 a xs) ∧ R (Itl K a) H1
def iTup (K : PySem.W.Frag) (tl : TE) : TI := fun σ H R => tl σ H fun x H1 => ∃ a, x = .ref a ∧ (∃ xs, SqT K H1 a xs) ∧ R (Itt K a) H1
theorem pi_list {l : Expr} {tl : TE} (hl : PE X l tl) : PI X tg l (iList X.K tl) := by
  intro pins s σ H R I h
  refine thn (hl pins s σ H _ I h) fun v s1 ⟨x, H1, I1, r1, q1⟩ => ?_
  obtain ⟨a, e, ⟨xs, hq⟩, q⟩ := q1
  subst e
  cases r1
  obtain ⟨its, rv, p, hz⟩ := I1.list hq
  refine wpAny_pyIter_list p.isList ?_
  refine ⟨s1.heap.objs.size, [s1.heap.objs.size], _, _, H1, rfl, I1.kept (t' := s1.toks) fun b o e => Heap.get?_push_of_some _ e, turn_list a _, ⟨_, Heap.get?_push_size _ rfl, rfl, rfl⟩, fun b hb => ?_, q⟩
  have e : b = s1.heap.objs.size := by simpa using hb
  subst e
  exact I1.fpOk (Nat.le_refl _) (I1.hok.fresh (Nat.le_refl _))
theorem pi_tup {l : Expr} {tl : TE} (hl : PE X l tl) : PI X tg l (iTup X.K tl) := by
  intro pins s σ H R I h
  refine thn (hl pins s σ H _ I h) fun v s1 ⟨x, H1, I1, r1, q1⟩ => ?_
  obtain ⟨a, e, ⟨xs, hq⟩, q⟩ := q1
  subst e
  cases r1
  obtain ⟨its, rv, p, hz⟩ := I1.tuple hq
  refine wpAny_pyIter_tuple (show s1.heap.IsTuple a its.toArray from p) ?_
  refine ⟨s1.heap.objs.size, [s1.heap.objs.size], _, _, H1, rfl, I1.kept (t' := s1.toks) fun b o e => Heap.get?_push_of_some _ e, turn_tuple a _, ⟨_, Heap.get?_push_size _ rfl, rfl, rfl⟩, fun b hb => ?_, q⟩
  have e : b = s1.heap.objs.size := by simpa using hb
  subst e
  exact I1.fpOk (Nat.le_refl _) (I1.hok.fresh (Nat.le_refl _))
theorem range_it {pins : List (Addr × Obj)} {σ : St} {H : Hp} {s : Shared} {R : It → Hp → Prop} {E : Value → Shared → Prop} {lo hi : Int} {t u v : Tok} {tk : Nat} (I : Inv X pins σ H s) (h1 : -(2 ^ 62) ≤ lo) (h2 : lo < 2 ^ 62) (h3 : -(2 ^ 62) ≤ hi) (h4 : hi < 2 ^ 62)
    (q : R (Itr lo (hi - lo).toNat) H) : wpAny (model X.prog X.w) X.A (pyIter (.ref s.heap.objs.size)) (PIE X pins σ tg R) E { s with heap := s.heap.push { cls := .type "range", data := .fields #[.int lo t, .int hi u, .int 1 v] }, toks := tk } := by
  refine wpAny_pyIter_range (IsRange.new ..) (small_one h1 h2 h3 h4) ?_
  have I1 : Inv X pins σ H { s with heap := s.heap.push { cls := .type "range", data := .fields #[.int lo t, .int hi u, .int 1 v] }, toks := tk } := I.kept fun b o e => Heap.get?_push_of_some _ e
  refine ⟨(s.heap.push { cls := .type "range", data := .fields #[.int lo t, .int hi u, .int 1 v] }).objs.size, [(s.heap.push { cls := .type "range", data := .fields #[.int lo t, .int hi u, .int 1 v] }).objs.size], _, _, H, rfl,
    I1.kept (t' := tk) fun b o e => Heap.get?_push_of_some _ e, turn_range _ lo (hi - lo).toNat, ?_, fun b hb => ?_, q⟩
  · have e1 : lo + ((0 : Nat) : Int) * 1 = lo := by simp
    have e2 : (((hi - lo).toNat : Nat) : Int) - ((0 : Nat) : Int) = Builtin.Range.rangeSize lo hi 1 := by rw [rangeSize_one]; split <;> omega
    show IsRangeIter _ _ (lo + ((0 : Nat) : Int) * 1) ((((hi - lo).toNat : Nat) : Int) - ((0 : Nat) : Int)) 1
    rw [e1, e2]
    exact Heap.get?_push_size _ rfl
  · have e : b = (s.heap.push { cls := .type "range", data := .fields #[.int lo t, .int hi u, .int 1 v] }).objs.size := by simpa using hb
    subst e
    exact I1.fpOk (Nat.le_refl _) (I1.hok.fresh (Nat.le_refl _))
def iRng1 (ta : TA) : TI := fun σ H R => ta σ H fun vs H1 => ∃ j : Int, vs = [.int j] ∧ -(2 ^ 62) ≤ j ∧ j < 2 ^ 62 ∧ R (Itr 0 j.toNat) H1
theorem pi_range1 {a : Expr} {ta : TA} {p pos : Pos} (hg : Gl X "range") (hm : X.mg "range" = none) (ha : PA X [a] ta) (hs : starEach [a] X.env = [(false, eval a X.env)] := by rfl) : PI X tg (.Call (.Name "range" p) [a] [] pos) (iRng1 ta) := by
  intro pins s σ H R I h
  refine Call_ (ld_blt I hg hm boot_range (PyProof.Rows.callWith_type1 (thn (ha pos pins s σ H _ I h) fun us s1 ⟨vs, H1, I1, r1, q1⟩ => ?_) hs rfl))
  obtain ⟨j, e, q1, q2, q⟩ := q1
  subst e
  cases r1 with
  | cons r rr =>
    cases rr
    obtain ⟨t, rfl⟩ := r
    exact call_range_1 (range_it I1 (by omega) (by omega) q1 q2 (by simpa using q))
def tFor (wi : TI) (g : TG) (tb : TS) : TS := fun D σ H => wi σ H fun J H1 => ∃ W : Nat → Nat → St → Hp → Prop, (∃ m, W 0 m σ H1) ∧ ∀ i m σ H, W i m σ H →
  (J.stop i H ∧ D.nx σ H) ∨ (J.go i H ∧ ∃ N : St → Hp → Prop, (∀ σ' H', N σ' H' → ∃ m', m' < m ∧ W (i + 1) m' σ' H') ∧ ∀ x H', J.yld i H x H' → g x σ H' fun σ2 H2 => tb { D with nx := N, ct := N, bk := D.nx } σ2 H2)
def pinsAt (fp : List Addr) (h : Heap) : List (Addr × Obj) := fp.filterMap fun b => (h.get? b).map fun o => (b, o)
theorem mem_pinsAt {fp : List Addr} {h : Heap} {b : Addr} {o : Obj} (hb : b ∈ fp) (e : h.get? b = some o) : (b, o) ∈ pinsAt fp h := List.mem_filterMap.mpr ⟨b, hb, by rw [e]; rfl⟩
theorem of_pinsAt {fp : List Addr} {h : Heap} {p : Addr × Obj} (hp : p ∈ pinsAt fp h) : p.1 ∈ fp ∧ h.get? p.1 = some p.2 := by
  obtain ⟨b, hb, e⟩ := List.mem_filterMap.mp hp
  cases q : h.get? b with
  | none => rw [q] at e; cases e
  | some o =>
    rw [q] at e
    have e' : (b, o) = p := Option.some.inj e
    subst e'
    exact ⟨hb, q⟩
theorem Inv.pinned {pins : List (Addr × Obj)} {σ : St} {H : Hp} {s : Shared} {fp : List Addr} (I : Inv X pins σ H s) (hf : ∀ b ∈ fp, FpOk X pins H b) (ho : ∀ b ∈ fp, ∃ o, s.heap.get? b = some o ∧ ∀ v, o.data ≠ .cell v) : Inv X (pins ++ pinsAt fp s.heap) σ H s :=
  I.pins_of fun p hp => (List.mem_append.mp hp).elim (fun z => I.pin p (List.mem_append_right _ z)) fun z => by
    obtain ⟨hb, e⟩ := of_pinsAt z
    obtain ⟨f0, f1, f2, _⟩ := hf p.1 hb
    obtain ⟨o, e', d⟩ := ho p.1 hb
    rw [e] at e'; cases e'
    exact ⟨e, f0, f1, f2, d⟩
theorem Inv.unpinned {pins pl : List (Addr × Obj)} {σ : St} {H : Hp} {s : Shared} (I : Inv X (pins ++ pl) σ H s) : Inv X pins σ H s := I.pins_of fun p hp => I.pin p (List.mem_append_right _ (List.mem_append_left _ hp))
theorem ps_for {iter : Expr} {body : List Stmt} {wi : TI} {g : TG} {tb : TS} {pos : Pos} (hp : PassesOwn (model X.prog X.w) X.A X.env X.xe) (hc : X.calm = true) (hi : PI X tg iter wi) (hg : PG X tg g) (hb : PSs X body tb)
    (hs : ∀ x, foldedSetIterable iter X.env x = pure x := by intro _; rfl) : PS X (.For tg iter body [] pos) (tFor wi g tb) := by
  intro pins s σ H D I h
  refine wpAny_For (thn (hi pins s σ H _ I h) fun v s1 h1 => thn h1 fun itv s2 h2 => ?_) hs
  obtain ⟨it, fp, tn, J, H2, e, I2, T, st2, f2, W, ⟨m0, w0⟩, turn⟩ := h2
  subst e
  -- what stays true of the iterator's objects through the loop
  have stat : ∀ {H' : Hp}, (∀ b ∈ fp, H' b = none) → ∀ b ∈ fp, FpOk X pins H' b := fun hn b hb => ⟨hn b hb, (f2 b hb).2⟩
  refine codeAny_forLoop_any (fun n s' => ∃ i σ' H', Inv X pins σ' H' s' ∧ tn i s'.heap ∧ (∀ b ∈ fp, H' b = none) ∧ W i n σ' H') ?_ m0 ⟨0, σ, H2, I2, st2, fun b hb => (f2 b hb).1, w0⟩
  rintro n s3 ⟨i, σ3, H3, I3, st3, fr3, w3⟩
  rcases turn i n σ3 H3 w3 with ⟨stop, qn⟩ | ⟨go, N, hN, step⟩
  · refine wpAny_passesOwn hp (thn (T.done X rfl rfl rfl hc i pins s3 σ3 H3 X.xe I3 (stat fr3) st3 stop) fun r s4 ⟨hr, I4⟩ => ?_)
    subst hr
    exact wpAny_execs_nil ⟨σ3, H3, I4, qn⟩
  · refine wpAny_passesOwn hp (thn (T.item X rfl rfl rfl hc i pins s3 σ3 H3 X.xe I3 (stat fr3) st3 go) fun r s4 ⟨u, hr, h4⟩ => ?_)
    subst hr
    refine wpAny_passesOwn hp (thn h4 fun _ s5 ⟨x, H5, I5, r5, y5, st5, fr5⟩ => ?_)
    have I5' := I5.pinned (stat fr5) (T.obj _ _ st5)
    refine wpAny_passesOwn hp (thn (hg _ s5 σ3 H5 x u _ I5' r5 (step x H5 y5)) fun _ s6 ⟨σ6, H6, I6, q6⟩ => ?_)
    refine wpAny_passesOwn hp (thn (hb _ s6 σ6 H6 _ I6 q6) fun f s7 q7 => ?_)
    have again : ∀ {σ7 : St} {H7 : Hp}, Inv X (pins ++ pinsAt fp s5.heap) σ7 H7 s7 → N σ7 H7 → ∃ m, m < n ∧ ∃ i σ' H', Inv X pins σ' H' s7 ∧ tn i s7.heap ∧ (∀ b ∈ fp, H' b = none) ∧ W i m σ' H' := fun {σ7 H7} I7 n7 => by
      obtain ⟨m', hm, w7⟩ := hN σ7 H7 n7
      refine ⟨m', hm, i + 1, σ7, H7, I7.unpinned, T.keep _ _ _ st5 fun b hb o e => (I7.pin (b, o) (List.mem_append_right _ (List.mem_append_right _ (mem_pinsAt hb e)))).1, fun b hb => ?_, w7⟩
      obtain ⟨o, e, d⟩ := T.obj _ _ st5 b hb
      exact (I7.pin (b, o) (List.mem_append_right _ (List.mem_append_right _ (mem_pinsAt hb e)))).2.1
    cases f with
    | next => obtain ⟨σ7, H7, I7, n7⟩ := q7; exact again I7 n7
    | cont => obtain ⟨σ7, H7, I7, n7⟩ := q7; exact again I7 n7
    | brk => obtain ⟨σ7, H7, I7, q7⟩ := q7; exact ⟨σ7, H7, I7.unpinned, q7⟩
    | ret v => obtain ⟨x7, σ7, H7, I7, r7, q7⟩ := q7; exact ⟨x7, σ7, H7, I7.unpinned, r7, q7⟩
end
theorem for_list {K : PySem.W.Frag} {a : Addr} {xs : List V} {g : TG} {tb : TS} {D : Ends} {σ : St} {H : Hp} (Pv : Nat → St → Hp → Prop) (h0 : Pv 0 σ H) (hl : ∀ i σ H, i ≤ xs.length → Pv i σ H → SqL K H a xs)
    (hs : ∀ i x σ H, xs[i]? = some x → Pv i σ H → g x σ H fun σ2 H2 => tb { D with nx := Pv (i + 1), ct := Pv (i + 1), bk := D.nx } σ2 H2) (hd : ∀ σ H, Pv xs.length σ H → D.nx σ H) :
    ∃ W : Nat → Nat → St → Hp → Prop, (∃ m, W 0 m σ H) ∧ ∀ i m σ H, W i m σ H →
      ((Itl K a).stop i H ∧ D.nx σ H) ∨ ((Itl K a).go i H ∧ ∃ N : St → Hp → Prop, (∀ σ' H', N σ' H' → ∃ m', m' < m ∧ W (i + 1) m' σ' H') ∧ ∀ x H', (Itl K a).yld i H x H' → g x σ H' fun σ2 H2 => tb { D with nx := N, ct := N, bk := D.nx } σ2 H2) := by
  refine ⟨fun i m σ H => m = xs.length - i ∧ i ≤ xs.length ∧ Pv i σ H, ⟨xs.length, by simp, Nat.zero_le _, h0⟩, ?_⟩
  rintro i m σ H ⟨rfl, hi, p⟩
  have q := hl i σ H hi p
  by_cases hlt : i < xs.length
  · refine .inr ⟨⟨xs, xs[i], q, by simp [hlt]⟩, Pv (i + 1), fun σ' H' p' => ⟨xs.length - (i + 1), by omega, rfl, hlt, p'⟩, fun x H' y => ?_⟩
    obtain ⟨e, y⟩ := y
    subst e
    exact hs i x σ _ (y xs q) p
  · have e : i = xs.length := by omega
    subst e
    exact .inl ⟨⟨xs, q, Nat.le_refl _⟩, hd σ H p⟩
theorem for_tup {K : PySem.W.Frag} {a : Addr} {xs : List V} {g : TG} {tb : TS} {D : Ends} {σ : St} {H : Hp} (Pv : Nat → St → Hp → Prop) (h0 : Pv 0 σ H) (hl : ∀ i σ H, i ≤ xs.length → Pv i σ H → SqT K H a xs)
    (hs : ∀ i x σ H, xs[i]? = some x → Pv i σ H → g x σ H fun σ2 H2 => tb { D with nx := Pv (i + 1), ct := Pv (i + 1), bk := D.nx } σ2 H2) (hd : ∀ σ H, Pv xs.length σ H → D.nx σ H) :
    ∃ W : Nat → Nat → St → Hp → Prop, (∃ m, W 0 m σ H) ∧ ∀ i m σ H, W i m σ H →
      ((Itt K a).stop i H ∧ D.nx σ H) ∨ ((Itt K a).go i H ∧ ∃ N : St → Hp → Prop, (∀ σ' H', N σ' H' → ∃ m', m' < m ∧ W (i + 1) m' σ' H') ∧ ∀ x H', (Itt K a).yld i H x H' → g x σ H' fun σ2 H2 => tb { D with nx := N, ct := N, bk := D.nx } σ2 H2) := by
  refine ⟨fun i m σ H => m = xs.length - i ∧ i ≤ xs.length ∧ Pv i σ H, ⟨xs.length, by simp, Nat.zero_le _, h0⟩, ?_⟩
  rintro i m σ H ⟨rfl, hi, p⟩
  have q := hl i σ H hi p
  by_cases hlt : i < xs.length
  · refine .inr ⟨⟨xs, xs[i], q, by simp [hlt]⟩, Pv (i + 1), fun σ' H' p' => ⟨xs.length - (i + 1), by omega, rfl, hlt, p'⟩, fun x H' y => ?_⟩
    obtain ⟨e, y⟩ := y
    subst e
    exact hs i x σ _ (y xs q) p
  · have e : i = xs.length := by omega
    subst e
    exact .inl ⟨⟨xs, q, Nat.le_refl _⟩, hd σ H p⟩
theorem for_range {lo : Int} {n : Nat} {g : TG} {tb : TS} {D : Ends} {σ : St} {H : Hp} (Pv : Nat → St → Hp → Prop) (h0 : Pv 0 σ H)
    (hs : ∀ i σ H, i < n → Pv i σ H → g (.int (lo + i)) σ H fun σ2 H2 => tb { D with nx := Pv (i + 1), ct := Pv (i + 1), bk := D.nx } σ2 H2) (hd : ∀ σ H, Pv n σ H → D.nx σ H) :
    ∃ W : Nat → Nat → St → Hp → Prop, (∃ m, W 0 m σ H) ∧ ∀ i m σ H, W i m σ H →
      ((Itr lo n).stop i H ∧ D.nx σ H) ∨ ((Itr lo n).go i H ∧ ∃ N : St → Hp → Prop, (∀ σ' H', N σ' H' → ∃ m', m' < m ∧ W (i + 1) m' σ' H') ∧ ∀ x H', (Itr lo n).yld i H x H' → g x σ H' fun σ2 H2 => tb { D with nx := N, ct := N, bk := D.nx } σ2 H2) := by
  refine ⟨fun i m σ H => m = n - i ∧ i ≤ n ∧ Pv i σ H, ⟨n, by simp, Nat.zero_le _, h0⟩, ?_⟩
  rintro i m σ H ⟨rfl, hi, p⟩
  by_cases hlt : i < n
  · refine .inr ⟨hlt, Pv (i + 1), fun σ' H' p' => ⟨n - (i + 1), by omega, rfl, hlt, p'⟩, fun x H' y => ?_⟩
    obtain ⟨e, y⟩ := y
    subst e y
    exact hs i σ _ hlt p
  · have e : i = n := by omega
    subst e
    exact .inl ⟨Nat.le_refl _, hd σ H p⟩
end L2
namespace L2
open PySem PySem.Spec PyProof.Rows
abbrev R2 := V → V → Hp → VK → Prop
def OpR (X : Cx) (f : Value → Value → Sem Value) (r : R2) : Prop :=
  ∀ (pins : List (Addr × Obj)) (s : Shared) (σ : St) (H : Hp) (x y : V) (v u : Value) (Q : VK), Inv X pins σ H s → RelV x v → RelV y u → r x y H Q →
    wpAny (model X.prog X.w) X.A (f v u) (EP X pins σ Q) X.xe s
def UnR (X : Cx) (f : Value → Sem Value) (r : V → Hp → VK → Prop) : Prop :=
  ∀ (pins : List (Addr × Obj)) (s : Shared) (σ : St) (H : Hp) (x : V) (v : Value) (Q : VK), Inv X pins σ H s → RelV x v → r x H Q →
    wpAny (model X.prog X.w) X.A (f v) (EP X pins σ Q) X.xe s
def CallR (X : Cx) (f : Value) (r : List V → Hp → VK → Prop) : Prop :=
  ∀ (pins : List (Addr × Obj)) (s : Shared) (σ : St) (H : Hp) (xs : List V) (us : List Value) (Q : VK), Inv X pins σ H s → Vals xs us → r xs H Q →
    wpAny (model X.prog X.w) X.A (call f us) (EP X pins σ Q) X.xe s
def TruR (X : Cx) (r : V → Hp → (Bool → Hp → Prop) → Prop) : Prop :=
  ∀ (pins : List (Addr × Obj)) (s : Shared) (σ : St) (H : Hp) (x : V) (v : Value) (Q : Bool → Hp → Prop), Inv X pins σ H s → RelV x v → r x H Q →
    wpAny (model X.prog X.w) X.A (truthy v) (TP X pins σ Q) X.xe s
def tOp (r : R2) (ta tb : TE) : TE := fun σ H Q => ta σ H fun x H1 => tb σ H1 fun y H2 => r x y H2 Q
def tUn (r : V → Hp → VK → Prop) (ta : TE) : TE := fun σ H Q => ta σ H fun x H1 => r x H1 Q
def rI (C : Int → Int → Prop) (g : Int → Int → V) : R2 := fun x y H Q => ∃ i j, x = .int i ∧ y = .int j ∧ C i j ∧ Q (g i j) H
def rI0 (g : Int → Int → V) : R2 := fun x y H Q => ∃ i j, x = .int i ∧ y = .int j ∧ Q (g i j) H
def rU (g : Int → V) : V → Hp → VK → Prop := fun x H Q => ∃ i, x = .int i ∧ Q (g i) H
section
variable {X : Cx} {a b c : Expr} {ta tb tc : TE} {pos : Pos}
theorem binT (ha : PE X a ta) (hb : PE X b tb) {pins : List (Addr × Obj)} {s : Shared} {σ : St} {H : Hp} {R : V → V → Hp → Prop} (I : Inv X pins σ H s)
    (h : ta σ H fun x H1 => tb σ H1 fun y H2 => R x y H2) {Q : Value → Shared → Prop} {f : Value → Value → Sem Value}
    (hf : ∀ v u s2 x y H2, Inv X pins σ H2 s2 → RelV x v → RelV y u → R x y H2 → wpAny (model X.prog X.w) X.A (f v u) Q X.xe s2) :
    wpAny (model X.prog X.w) X.A (eval a X.env) (fun v s₁ => wpAny (model X.prog X.w) X.A (eval b X.env) (fun u s₂ => wpAny (model X.prog X.w) X.A (f v u) Q X.xe s₂) X.xe s₁) X.xe s := by
  refine thn (ha pins s σ H _ I h) fun v s1 ⟨x, H1, I1, r1, q1⟩ => ?_
  refine thn (hb pins s1 σ H1 _ I1 q1) fun u s2 ⟨y, H2, I2, r2, q2⟩ => ?_
  exact hf v u s2 x y H2 I2 r1 r2 q2
theorem pe_op {op : Operator} {r : R2} (ho : OpR X (binaryOp op) r) (ha : PE X a ta) (hb : PE X b tb) : PE X (.BinOp a op b pos) (tOp r ta tb) := by
  intro pins s σ H Q I h
  exact wpAny_BinOp (binT ha hb I h fun v u s2 x y H2 I2 rx ry q => ho pins s2 σ H2 x y v u Q I2 rx ry q)
theorem pe_un {op : UnaryOp} {r : V → Hp → VK → Prop} (ho : UnR X (unaryOp op) r) (ha : PE X a ta) : PE X (.UnaryOp op a pos) (tUn r ta) := by
  intro pins s σ H Q I h
  exact UnaryOp_ (thn (ha pins s σ H _ I h) fun v s1 ⟨x, H1, I1, r1, q1⟩ => ho pins s1 σ H1 x v Q I1 r1 q1)
theorem opI {f : Value → Value → Sem Value} {C : Int → Int → Prop} {g : Int → Int → Int}
    (rule : ∀ (i j : Int) (t u : Tok) (s : Shared) (Q : Value → Shared → Prop) (E : Value → Shared → Prop), C i j → Q (.int (g i j) s.toks) { s with toks := s.toks + 1 } → wpAny (model X.prog X.w) X.A (f (.int i t) (.int j u)) Q E s) :
    OpR X f (rI C fun i j => .int (g i j)) := by
  intro pins s σ H x y v u Q I rx ry h
  obtain ⟨i, j, rfl, rfl, hc, q⟩ := h
  obtain ⟨t, rfl⟩ := rx
  obtain ⟨t', rfl⟩ := ry
  exact rule i j t t' s _ _ hc ⟨.int (g i j), H, I.tok _, ⟨_, rfl⟩, q⟩
theorem opI0 {f : Value → Value → Sem Value} {g : Int → Int → Int}
    (rule : ∀ (i j : Int) (t u : Tok) (s : Shared) (Q : Value → Shared → Prop) (E : Value → Shared → Prop), Q (.int (g i j) s.toks) { s with toks := s.toks + 1 } → wpAny (model X.prog X.w) X.A (f (.int i t) (.int j u)) Q E s) :
    OpR X f (rI0 fun i j => .int (g i j)) := by
  intro pins s σ H x y v u Q I rx ry h
  obtain ⟨i, j, rfl, rfl, q⟩ := h
  obtain ⟨t, rfl⟩ := rx
  obtain ⟨t', rfl⟩ := ry
  exact rule i j t t' s _ _ ⟨.int (g i j), H, I.tok _, ⟨_, rfl⟩, q⟩
theorem opB0 {f : Value → Value → Sem Value} {g : Int → Int → Bool}
    (rule : ∀ (i j : Int) (t u : Tok) (s : Shared) (Q : Value → Shared → Prop) (E : Value → Shared → Prop), Q (.bool (g i j)) s → wpAny (model X.prog X.w) X.A (f (.int i t) (.int j u)) Q E s) :
    OpR X f (rI0 fun i j => .bl (g i j)) := by
  intro pins s σ H x y v u Q I rx ry h
  obtain ⟨i, j, rfl, rfl, q⟩ := h
  obtain ⟨t, rfl⟩ := rx
  obtain ⟨t', rfl⟩ := ry
  exact rule i j t t' s _ _ ⟨.bl (g i j), H, I, rfl, q⟩
def CDiv (i j : Int) : Prop := 0 < j ∧ j < 1073741824
def CMul (i j : Int) : Prop := (-(2 ^ 64) < i ∧ i < 2 ^ 64) ∨ (-(2 ^ 64) < j ∧ j < 2 ^ 64)
theorem CMul.ok {i j : Int} (h : CMul i j) : IntMulOk i j := by
  rcases h with ⟨h1, h2⟩ | ⟨h1, h2⟩
  · exact .of_left (intBits_le_64 h1 h2)
  · exact .of_right (intBits_le_64 h1 h2)
theorem op_add : OpR X (binaryOp .Add) (rI0 fun i j => .int (i + j)) := opI0 fun _ _ _ _ _ _ _ q => add_int q
theorem op_mul : OpR X (binaryOp .Mult) (rI CMul fun i j => .int (i * j)) := opI fun _ _ _ _ _ _ _ hc q => mul_int q hc.ok
theorem op_fdiv : OpR X (binaryOp .FloorDiv) (rI CDiv fun i j => .int (i / j)) := opI fun i j _ _ _ _ _ hc q => by
  have h1 : (0 : Int) < j := hc.1
  have h2 : j < 1073741824 := hc.2
  exact floordiv_int (by omega) (by rw [Int.fdiv_eq_ediv_of_nonneg i (by omega)]; exact q) (.inl (PyProof.noPylong_small (by omega)))
theorem op_mod : OpR X (binaryOp .Mod) (rI (fun _ j => 0 < j) fun i j => .int (i % j)) := opI fun i j _ _ _ _ _ hc q => by
  have h1 : (0 : Int) < j := hc
  exact mod_int' (by omega) (by rw [Int.fmod_eq_emod_of_nonneg i (by omega)]; exact q)
theorem unI {f : Value → Sem Value} {g : Int → Int}
    (rule : ∀ (i : Int) (t : Tok) (s : Shared) (Q : Value → Shared → Prop) (E : Value → Shared → Prop), Q (.int (g i) s.toks) { s with toks := s.toks + 1 } → wpAny (model X.prog X.w) X.A (f (.int i t)) Q E s) :
    UnR X f (rU fun i => .int (g i)) := by
  intro pins s σ H x v Q I rx h
  obtain ⟨i, rfl, q⟩ := h
  obtain ⟨t, rfl⟩ := rx
  exact rule i t s _ _ ⟨.int (g i), H, I.tok _, ⟨_, rfl⟩, q⟩
theorem un_neg : UnR X (unaryOp .USub) (rU fun i => .int (-i)) := unI fun _ _ _ _ _ q => neg_int q
end
def scal : V → V → Bool
  | .non, .non => true | .non, .int _ => true | .int _, .non => true | .non, .bl _ => true | .bl _, .non => true | .non, .str _ => true | .str _, .non => true
  | .int _, .int _ => true | .bl _, .bl _ => true | .str _, .str _ => true | .byt _, .byt _ => true
  | .int _, .str _ => true | .str _, .int _ => true | .bl _, .str _ => true | .str _, .bl _ => true
  | _, _ => false
def rEq : R2 := fun x y H Q => scal x y = true ∧ Q (.bl (decide (x = y))) H
def rNe : R2 := fun x y H Q => scal x y = true ∧ Q (.bl (!decide (x = y))) H
theorem dec_int {i j : Int} : decide (V.int i = V.int j) = (i == j) := by
  rw [Bool.eq_iff_iff]
  simp
theorem dec_bl {i j : Bool} : decide (V.bl i = V.bl j) = (i == j) := by
  rw [Bool.eq_iff_iff]
  simp
theorem dec_str {i j : Str} : decide (V.str i = V.str j) = (i == j) := by
  rw [Bool.eq_iff_iff]
  simp
theorem dec_byt {i j : Array UInt8} : decide (V.byt i = V.byt j) = (i.toList == j.toList) := by
  rw [Bool.eq_iff_iff]
  cases i
  cases j
  simp
section
variable {X : Cx} {a b c : Expr} {ta tb tc : TE} {pos : Pos}
theorem fin_bl {pins : List (Addr × Obj)} {σ : St} {H : Hp} {s : Shared} {Q : VK} {k k' : Bool} (I : Inv X pins σ H s) (q : Q (.bl k) H) (e : k = k') : EP X pins σ Q (.bool k') s := by
  subst e
  exact ⟨.bl k, H, I, rfl, q⟩
theorem op_eq : OpR X (compareOp .Eq) rEq := by
  intro pins s σ H x y v u Q I rx ry h
  obtain ⟨hs, q⟩ := h
  cases x with
  | non =>
    cases rx
    cases y with
    | non => cases ry; exact PySem.EqNone.eq_none_none (fin_bl I q (by simp))
    | bl j => cases ry; exact PySem.EqNone.eq_none_bool (fin_bl I q (by simp))
    | int j => obtain ⟨t', rfl⟩ := ry; exact PySem.EqNone.eq_none_int (fin_bl I q (by simp))
    | str j => obtain ⟨t', rfl⟩ := ry; exact PySem.EqNone.eq_none_str (fin_bl I q (by simp))
    | _ => exact absurd (show false = true from hs) Bool.false_ne_true
  | bl i =>
    cases rx
    cases y with
    | non => cases ry; exact PySem.EqNone.eq_bool_none (fin_bl I q (by simp))
    | bl j => cases ry; exact eq_bool (fin_bl I q dec_bl)
    | str j => obtain ⟨t', rfl⟩ := ry; exact PySem.EqMixed.eq_bool_str (fin_bl I q (by simp))
    | _ => exact absurd (show false = true from hs) Bool.false_ne_true
  | int i =>
    obtain ⟨t, rfl⟩ := rx
    cases y with
    | non => cases ry; exact PySem.EqNone.eq_int_none (fin_bl I q (by simp))
    | int j => obtain ⟨t', rfl⟩ := ry; exact eq_int (fin_bl I q dec_int)
    | str j => obtain ⟨t', rfl⟩ := ry; exact PySem.EqMixed.eq_int_str (fin_bl I q (by simp))
    | _ => exact absurd (show false = true from hs) Bool.false_ne_true
  | str i =>
    obtain ⟨t, rfl⟩ := rx
    cases y with
    | non => cases ry; exact PySem.EqNone.eq_str_none (fin_bl I q (by simp))
    | bl j => cases ry; exact PySem.EqMixed.eq_str_bool (fin_bl I q (by simp))
    | int j => obtain ⟨t', rfl⟩ := ry; exact PySem.EqMixed.eq_str_int (fin_bl I q (by simp))
    | str j => obtain ⟨t', rfl⟩ := ry; exact eq_str (fin_bl I q dec_str)
    | _ => exact absurd (show false = true from hs) Bool.false_ne_true
  | byt i =>
    obtain ⟨t, rfl⟩ := rx
    cases y with
    | byt j => obtain ⟨t', rfl⟩ := ry; exact PySem.W.eq_bytes (fin_bl I q dec_byt)
    | _ => exact absurd (show false = true from hs) Bool.false_ne_true
  | _ => cases y <;> exact absurd (show false = true from hs) Bool.false_ne_true
theorem op_ne : OpR X (compareOp .NotEq) rNe := by
  intro pins s σ H x y v u Q I rx ry h
  obtain ⟨hs, q⟩ := h
  cases x with
  | non =>
    cases rx
    cases y with
    | non => cases ry; exact PySem.EqNone.ne_none_none (fin_bl I q (by simp))
    | bl j => cases ry; exact PySem.EqNone.ne_none_bool (fin_bl I q (by simp))
    | int j => obtain ⟨t', rfl⟩ := ry; exact PySem.EqNone.ne_none_int (fin_bl I q (by simp))
    | str j => obtain ⟨t', rfl⟩ := ry; exact PySem.EqNone.ne_none_str (fin_bl I q (by simp))
    | _ => exact absurd (show false = true from hs) Bool.false_ne_true
  | bl i =>
    cases rx
    cases y with
    | non => cases ry; exact PySem.EqNone.ne_bool_none (fin_bl I q (by simp))
    | bl j => cases ry; exact ne_bool (fin_bl I q (congrArg not dec_bl))
    | str j => obtain ⟨t', rfl⟩ := ry; exact PySem.EqMixed.ne_bool_str (fin_bl I q (by simp))
    | _ => exact absurd (show false = true from hs) Bool.false_ne_true
  | int i =>
    obtain ⟨t, rfl⟩ := rx
    cases y with
    | non => cases ry; exact PySem.EqNone.ne_int_none (fin_bl I q (by simp))
    | int j => obtain ⟨t', rfl⟩ := ry; exact ne_int (fin_bl I q (congrArg not dec_int))
    | str j => obtain ⟨t', rfl⟩ := ry; exact PySem.EqMixed.ne_int_str (fin_bl I q (by simp))
    | _ => exact absurd (show false = true from hs) Bool.false_ne_true
  | str i =>
    obtain ⟨t, rfl⟩ := rx
    cases y with
    | non => cases ry; exact PySem.EqNone.ne_str_none (fin_bl I q (by simp))
    | bl j => cases ry; exact PySem.EqMixed.ne_str_bool (fin_bl I q (by simp))
    | int j => obtain ⟨t', rfl⟩ := ry; exact PySem.EqMixed.ne_str_int (fin_bl I q (by simp))
    | str j => obtain ⟨t', rfl⟩ := ry; exact ne_str (fin_bl I q (congrArg not dec_str))
    | _ => exact absurd (show false = true from hs) Bool.false_ne_true
  | byt i =>
    obtain ⟨t, rfl⟩ := rx
    cases y with
    | byt j => obtain ⟨t', rfl⟩ := ry; exact PySem.W.ne_bytes (fin_bl I q (congrArg not dec_byt))
    | _ => exact absurd (show false = true from hs) Bool.false_ne_true
  | _ => cases y <;> exact absurd (show false = true from hs) Bool.false_ne_true
theorem op_lt : OpR X (compareOp .Lt) (rI0 fun i j => .bl (decide (i < j))) := opB0 fun _ _ _ _ _ _ _ q => lt_int q
theorem op_gt : OpR X (compareOp .Gt) (rI0 fun i j => .bl (decide (j < i))) := opB0 fun _ _ _ _ _ _ _ q => gt_int q
theorem nomark (b : Expr) {op : CmpOp} (h : op ≠ .In := by decide) (h2 : op ≠ .NotIn := by decide) : behindInMarks op b = false := by
  have e1 : (op == CmpOp.In) = false := by cases op <;> first | rfl | exact absurd rfl h
  have e2 : (op == CmpOp.NotIn) = false := by cases op <;> first | rfl | exact absurd rfl h2
  cases b <;> simp [behindInMarks, e1, e2]
theorem pe_cmpR {op : CmpOp} {r : R2} (ho : OpR X (compareOp op) r) (ha : PE X a ta) (hb : PE X b tb) (hm : behindInMarks op b = false) : PE X (.Compare a [op] [b] pos) (tOp r ta tb) := by
  intro pins s σ H Q I h
  exact wpAny_Compare1 (binT ha hb I h fun v u s2 x y H2 I2 rx ry q => ho pins s2 σ H2 x y v u Q I2 rx ry q) hm
def tTest (t : TE) : TT := fun σ H Q => t σ H fun x H' => ∃ k, x = .bl k ∧ Q k H'
theorem pt_cmpR {op : CmpOp} {r : R2} (ho : OpR X (compareOp op) r) (ha : PE X a ta) (hb : PE X b tb) (hm : behindInMarks op b = false) : PT X (.Compare a [op] [b] pos) (tTest (tOp r ta tb)) := by
  intro pins s σ H Q I h
  refine wpAny_isTrue_Compare1 (thn (ha pins s σ H _ I h) fun v s1 ⟨x, H1, I1, r1, q1⟩ => thn (hb pins s1 σ H1 _ I1 q1) fun u s2 ⟨y, H2, I2, r2, q2⟩ =>
    thn (ho pins s2 σ H2 x y v u _ I2 r1 r2 q2) fun c s3 ⟨z, H3, I3, r3, k, e, q3⟩ => ?_) hm
  subst e
  cases r3
  exact wpAny_truthy_bool ⟨H3, I3, q3⟩
def TruV (K : PySem.W.Frag) (x : V) (H : Hp) (k : Bool) : Prop :=
  match x with
  | .non => k = false
  | .bl b => k = b
  | .int i => k = (i != 0)
  | .str y => y.length ≤ sizeLine ∧ k = ((y.length : Int) != 0)
  | .byt y => y.size ≤ sizeLine ∧ k = ((y.size : Int) != 0)
  | .ref p => (∃ xs, SqL K H p xs ∧ k = !xs.isEmpty) ∨ (∃ xs, SqT K H p xs ∧ k = !xs.isEmpty) ∨ ∃ kvs, H p = some (.dK kvs) ∧ k = !kvs.isEmpty
  | _ => False
theorem isEmpty_kv {κ : Type} {kvs : List (κ × V)} {vs : List (κ × Value)} (r : KV kvs vs) : (!vs.isEmpty) = !kvs.isEmpty := by
  cases r <;> rfl
theorem isEmpty_of {xs : List V} {its : List Value} (r : Vals xs its) : (!its.toArray.isEmpty) = !xs.isEmpty := by
  cases r <;> simp
theorem line63 : (sizeLine : Nat) < 2 ^ 63 := by rw [sizeLine_eq]; decide
theorem tru_ok : TruR X (fun x H Q => ∃ k, TruV X.K x H k ∧ Q k H) := by
  intro pins s σ H x v Q I rx h
  obtain ⟨k, e, q⟩ := h
  have hl := line63
  have hs : sizeLine = 16777216 := sizeLine_eq
  cases x with
  | non =>
    cases rx
    have e' : k = false := e
    subst e'
    exact truthy_none ⟨H, I, q⟩
  | bl b =>
    cases rx
    have e' : k = b := e
    subst e'
    exact wpAny_truthy_bool ⟨H, I, q⟩
  | int i =>
    obtain ⟨t, rfl⟩ := rx
    have e' : k = (i != 0) := e
    subst e'
    exact PySem.P.truthy_int ⟨H, I, q⟩
  | str y =>
    obtain ⟨t, rfl⟩ := rx
    obtain ⟨hy, e'⟩ : y.length ≤ sizeLine ∧ k = ((y.length : Int) != 0) := e
    subst e'
    exact PySem.P.truthy_str (by omega) ⟨H, I.tok _, q⟩
  | byt y =>
    obtain ⟨t, rfl⟩ := rx
    obtain ⟨hy, e'⟩ : y.size ≤ sizeLine ∧ k = ((y.size : Int) != 0) := e
    subst e'
    exact PySem.W.truthy_bytes (by omega) ⟨H, I.tok _, q⟩
  | ref p =>
    cases rx
    have e' : (∃ xs, SqL X.K H p xs ∧ k = !xs.isEmpty) ∨ (∃ xs, SqT X.K H p xs ∧ k = !xs.isEmpty) ∨ ∃ kvs, H p = some (.dK kvs) ∧ k = !kvs.isEmpty := e
    rcases e' with ⟨xs, hx, e'⟩ | ⟨xs, hx, e'⟩ | ⟨kvs, hx, e'⟩
    · subst e'
      obtain ⟨its, r, pl, hz⟩ := I.list hx
      have hlen := r.length
      exact wpAny_truthy_list pl.isList (by simp only [List.size_toArray]; omega) ⟨H, I.tok _, by rw [isEmpty_of r]; exact q⟩
    · subst e'
      obtain ⟨its, r, pl, hz⟩ := I.tuple hx
      have hlen := r.length
      exact truthy_tuple pl (by simp only [List.size_toArray]; omega) ⟨H, I.tok _, by rw [isEmpty_of r]; exact q⟩
    · subst e'
      obtain ⟨hz, hS, vs, r, m⟩ : kvs.length ≤ sizeLine ∧ (p == sysModules) = false ∧ ∃ vs, KV kvs vs ∧ s.heap.DictOf (mixKind X.prog X.w) p vs := I.hok p _ hx
      have hlen : kvs.length = vs.length := Paired.length r
      exact wpAny_truthy_dict hS m (by omega) ⟨H, I.tok _, by rw [isEmpty_kv r]; exact q⟩
  | _ => exact (show False from e).elim
theorem pt_truth (ha : PE X a ta) (he : ∀ whole, isTrue a X.env whole = (do let v ← whole; standAt a.pos; holding [v] (truthy v))) :
    PT X a (fun σ H Q => ta σ H fun x H' => ∃ k, TruV X.K x H' k ∧ Q k H') := by
  intro pins s σ H Q I h
  exact isTrue_plain (thn (ha pins s σ H _ I h) fun v s1 ⟨x, H1, I1, r1, q1⟩ => tru_ok pins s1 σ H1 x v Q I1 r1 q1) (he _)
theorem op_add_str : OpR X (binaryOp .Add) (fun x y H Q => ∃ i j, x = .str i ∧ y = .str j ∧ i.length + j.length ≤ sizeLine ∧ Q (.str (i ++ j)) H) := by
  intro pins s σ H x y v u Q I rx ry h
  obtain ⟨i, j, rfl, rfl, hz, q⟩ := h
  obtain ⟨t, rfl⟩ := rx
  obtain ⟨t', rfl⟩ := ry
  exact add_str (fun t' tk => ⟨.str (i ++ j), H, I.tok _, ⟨_, rfl⟩, q⟩) hz
theorem vals1 {x : V} {us : List Value} (r : Vals [x] us) : ∃ u, us = [u] ∧ RelV x u := by
  cases r with
  | cons r1 r2 => cases r2; exact ⟨_, rfl, r1⟩
theorem call_str_int : CallR X (.type "str") (fun xs H Q => ∃ i, xs = [.int i] ∧ i.natAbs.log2 < 1920 ∧ Q (.str (toString i)) H) := by
  intro pins s σ H xs us Q I r h
  obtain ⟨i, rfl, hz, q⟩ := h
  obtain ⟨u, rfl, t, rfl⟩ := vals1 r
  exact PySem.P.str_of_int hz ⟨.str _, H, I.tok _, ⟨_, rfl⟩, q⟩
end
end L2
namespace L2
open PySem PySem.Spec PyProof.Rows
section
variable {prog : Program} {w : World} {A : Around} {E : Value → Shared → Prop} {s : Shared} {K : PySem.W.Frag} {x dx C f : Addr} {mA : Str → Option Value} {name : Str} {v : Value}
end
section
variable {P : Program} {w : World} {H H' : Hp} {h h' : Heap} {a C dx : Addr} {fs fs' : List (Str × V)}
end
section
variable {X : Cx} {pins : List (Addr × Obj)} {σ : St} {H : Hp} {s : Shared} {a C dx : Addr} {fs : List (Str × V)} {f : Str} {v : V} {A : Around} {E : Value → Shared → Prop}
end
section
variable {X : Cx} {o e value : Expr} {f : Str} {pos pos' tpos : Pos} {ta tv : TE}
end
section
variable {X : Cx} {pins : List (Addr × Obj)} {σ : St} {H : Hp} {s : Shared} {A : Around} {E : Value → Shared → Prop} {Q : Value → Shared → Prop} {c : Value} {b : Bool}
end
end L2
namespace L2
open PySem PySem.Spec PyProof.Rows
structure Room (k : Nat) (A : Around) : Prop where
  hd : A.handled = none
  dp : A.depth + 3 * k + 5 < recursionLimit
  un : A.units + 16 * k + 200 < cLine
theorem Room.mono {j k : Nat} {A : Around} (r : Room k A) (h : j ≤ k) : Room j A := ⟨r.hd, by have := r.dp; omega, by have := r.un; omega⟩
theorem Room.deeper {k : Nat} {A : Around} (r : Room (k + 1) A) (env : Env) : Room k (A.deeper env) :=
  ⟨r.hd, by have := r.dp; show A.depth + 1 + 3 * k + 5 < _; omega, by have := r.un; show A.units + 3 + 16 * k + 200 < _; omega⟩
theorem Room.in1 {k : Nat} {A : Around} (r : Room (k + 1) A) : Room k A.in1 :=
  ⟨r.hd, by have := r.dp; show A.depth + 3 * k + 5 < _; omega, by have := r.un; show A.units + 1 + 16 * k + 200 < _; omega⟩
theorem Room.depth {k : Nat} {A : Around} (r : Room k A) : A.depth < recursionLimit := by have := r.dp; omega
theorem Room.units {k : Nat} {A : Around} (r : Room k A) : A.units + 64 < cLine := by have := r.un; omega
def tNil : TA := fun _ H Q => Q [] H
def tCons (ta : TE) (tr : TA) : TA := fun σ H Q => ta σ H fun x H1 => tr σ H1 fun xs H2 => Q (x :: xs) H2
section
variable {X : Cx} {e : Expr} {es : List Expr} {te : TE} {t : TA} {pos : Pos}
theorem pa_nil : PA X [] tNil := fun _ _ _ _ H Q I h => Calls.spliced_nil ⟨[], H, I, .nil, h⟩
theorem pa_cons (ha : PE X e te) (hr : PA X es t) (hs : starEach (e :: es) X.env = (false, eval e X.env) :: starEach es X.env := by rfl) : PA X (e :: es) (tCons te t) := by
  intro pos pins s σ H Q I h
  rw [hs]
  show wpAny _ _ (spliced ((false, eval e X.env) :: backTo pos (starEach es X.env))) _ _ s
  refine Calls.spliced_cons (thn (ha pins s σ H _ I h) fun u s1 ⟨x, H1, I1, r1, q1⟩ => ?_)
  exact thn (hr pos pins s1 σ H1 _ I1 q1) fun us s2 ⟨xs, H2, I2, r2, q2⟩ => ⟨x :: xs, H2, I2, .cons r1 r2, q2⟩
def tTup (t : TA) : TE := fun σ H Q => t σ H fun xs H1 => xs.length ≤ sizeLine ∧ ∀ p, H1 p = none → Q (.ref p) (upd H1 p (.tup xs))
def tLst (t : TA) : TE := fun σ H Q => t σ H fun xs H1 => xs.length ≤ sizeLine ∧ ∀ p, H1 p = none → Q (.ref p) (upd H1 p (.lst xs))
theorem pe_tup {x1} (h : PA X es t) : PE X (.Tuple es x1 pos) (tTup t) := by
  intro pins s σ H Q I hq
  refine wpAny_Tuple_spliced (thn (h pos pins s σ H _ I hq) fun us s1 ⟨xs, H1, I1, r, z, q⟩ => ⟨by rw [← r.length]; exact z, ?_⟩)
  have hf : H1 s1.heap.objs.size = none := I1.hok.fresh (Nat.le_refl _)
  refine ⟨.ref s1.heap.objs.size, upd H1 s1.heap.objs.size (.tup xs), I1.laid (t' := s1.toks) (fun b u e => Heap.get?_push_of_some _ e) (Nat.le_refl _) ?_, rfl, q _ hf⟩
  exact ⟨z, us, r, ⟨⟨_, Heap.get?_push_size _ rfl, rfl, _, rfl⟩, _, Heap.get?_push_size _ rfl, rfl⟩⟩
theorem pe_lst (h : PA X es t) : PE X (.List es pos) (tLst t) := by
  intro pins s σ H Q I hq
  refine wpAny_List_spliced (thn (h pos pins s σ H _ I hq) fun us s1 ⟨xs, H1, I1, r, z, q⟩ => ⟨by rw [← r.length]; exact z, ?_⟩)
  have hf : H1 s1.heap.objs.size = none := I1.hok.fresh (Nat.le_refl _)
  refine ⟨.ref s1.heap.objs.size, upd H1 s1.heap.objs.size (.lst xs), I1.laid (t' := s1.toks) (fun b u e => Heap.get?_push_of_some _ e) (Nat.le_refl _) ?_, rfl, q _ hf⟩
  exact ⟨z, us, 0, r, Heap.get?_push_size _ rfl⟩
end
abbrev Sp := List V → Hp → VK → XK → Prop
abbrev CXT := List Env → Hp → Shared → XK → Value → Shared → Prop
structure Env0 (P : Program) (w : World) (K : PySem.W.Frag) (mg : Str → Option Value) (base : Heap) (A : Around) (outer : List Env) (s : Shared) (H : Hp) : Prop where
  frames : A.frames = some outer
  mod : Mod K mg base
  bs : ∀ b o, base.get? b = some o → s.heap.get? b = some o ∧ H b = none
  bsz : base.objs.size ≤ s.heap.objs.size
  funs : s.heap.FunFrames base outer
  frf : ∀ b ∈ frs outer, H b = none
  hok : HOk P w H s.heap
  bare : AllBare s.gens
def CE (outer : List Env) (P : Program) (w : World) (H : Hp) (s : Shared) (Q : VK) (u : Value) (s' : Shared) : Prop :=
  ∃ v H', s'.os = s.os ∧ AllBare s'.gens ∧ Un (frs outer) [] H H' s.heap s'.heap ∧ HOk P w H' s'.heap ∧ RelV v u ∧ Q v H'
def CR (CX : CXT) (outer : List Env) (P : Program) (w : World) (H : Hp) (s : Shared) (Q : VK) (E : XK) (r : Result) (s' : Shared) : Prop :=
  match r with
  | .ok (.ret u) => CE outer P w H s Q u s'
  | .ok _ => False
  | .error e => CX outer H s E e s'
structure FnOk (P : Program) (w : World) (K : PySem.W.Frag) (mg : Str → Option Value) (base : Heap) (CX : CXT) (k : Nat) (f : Addr) (fd : FuncData) (ps : List Str) (sp : Sp) : Prop where
  len : ∀ vs H Q E, sp vs H Q E → vs.length = ps.length
  run : ∀ (A : Around) (outer : List Env) (s : Shared) (H : Hp) (args : Args) (us : List Value) (vs : List V) (Q : VK) (E : XK), Room k A → Env0 P w K mg base A outer s H → BindsTo s fd args (ps.zip us) → Vals vs us → sp vs H Q E →
    codeAny (model P w) A (.call (.ref f) args) (CR CX outer P w H s Q E) s
theorem FnOk.mono {P : Program} {w : World} {K : PySem.W.Frag} {mg : Str → Option Value} {base : Heap} {CX : CXT} {j k : Nat} {f : Addr} {fd : FuncData} {ps : List Str} {sp : Sp} (F : FnOk P w K mg base CX j f fd ps sp) (h : j ≤ k) :
    FnOk P w K mg base CX k f fd ps sp := ⟨F.len, fun A outer s H args us vs Q E hr => F.run A outer s H args us vs Q E (hr.mono h)⟩
theorem FnOk.imp {P : Program} {w : World} {K : PySem.W.Frag} {mg : Str → Option Value} {base : Heap} {CX : CXT} {k : Nat} {f : Addr} {fd : FuncData} {ps : List Str} {sp sp' : Sp} (F : FnOk P w K mg base CX k f fd ps sp)
    (h : ∀ vs H Q E, sp' vs H Q E → sp vs H Q E) : FnOk P w K mg base CX k f fd ps sp' :=
  ⟨fun vs H Q E q => F.len vs H Q E (h _ _ _ _ q), fun A outer s H args us vs Q E hr he hb hv hs => F.run A outer s H args us vs Q E hr he hb hv (h _ _ _ _ hs)⟩
theorem Env0.in1 {P : Program} {w : World} {K : PySem.W.Frag} {mg : Str → Option Value} {base : Heap} {A : Around} {outer : List Env} {s : Shared} {H : Hp} (e : Env0 P w K mg base A outer s H) :
    Env0 P w K mg base A.in1 outer s H := ⟨e.frames, e.mod, e.bs, e.bsz, e.funs, e.frf, e.hok, e.bare⟩
section
variable {X : Cx} {pins : List (Addr × Obj)} {σ : St} {H : Hp} {s s' : Shared}
theorem Inv.env0 (I : Inv X pins σ H s) : Env0 X.prog X.w X.K X.mg X.base X.A X.stack s H :=
  ⟨I.ok.frames, I.ok.mod, I.bs, Nat.le_trans I.ok.bsz I.sz, I.stack, I.stkFree, I.hok, I.bare⟩
theorem Inv.after {Q : VK} {u : Value} (I : Inv X pins σ H s) (h : CE X.stack X.prog X.w H s Q u s') : EP X pins σ Q u s' := by
  obtain ⟨v, H', os, bare, un, hok, r, q⟩ := h
  obtain ⟨hh, g, d, t, os'⟩ := s'
  obtain rfl : os' = s.os := os
  exact ⟨v, H', I.call (h' := hh) (g' := g) (d' := d) (t' := t) (ch := []) un hok bare (fun b z => absurd z (by simp)), r, q⟩
end
def tCall (sp : Sp) (dvs : List V) (E : XK) (t : TA) : TE := fun σ H Q => t σ H fun vs H1 => sp (vs ++ dvs) H1 Q E
def Binds (K : PySem.W.Frag) (fd : FuncData) (ps : List Str) (ds : List Value) : Prop :=
  ∀ (s : Shared) (us : List Value), K.In s.heap → (us ++ ds).length = ps.length → BindsTo s fd ⟨us, []⟩ (ps.zip (us ++ ds))
theorem Binds.all {K : PySem.W.Frag} {fd : FuncData} {ps : List Str} (h : ∀ us : List Value, us.length = ps.length → bindArgs fd ⟨us, []⟩ = pure (ps.zip us)) : Binds K fd ps [] := fun s us _ hl => by
  rw [List.append_nil] at hl ⊢
  exact .of_eq (h us hl)
def Passes (CX : CXT) (X : Cx) (E : XK) : Prop := ∀ (pins : List (Addr × Obj)) (σ : St) (H : Hp) (s : Shared) (e : Value) (s' : Shared), Inv X pins σ H s → CX X.stack H s E e s' → X.xe e s'
section
variable {X : Cx} {CX : CXT} {k : Nat} {f C : Addr} {fd : FuncData} {ps : List Str} {sp : Sp} {dvs : List V} {ds : List Value} {E : XK} {x m : Str} {p pos apos : Pos} {e o : Expr} {es : List Expr} {ta : TE} {t : TA}
theorem run_fn {pins : List (Addr × Obj)} {σ : St} {H : Hp} {s : Shared} {Q : VK} {us : List Value} {vs : List V} (F : FnOk X.prog X.w X.K X.mg X.base CX k f fd ps sp) (hr : Room k X.A) (hb : Binds X.K fd ps ds) (hd : Vals dvs ds) (hx : Passes CX X E)
    (I : Inv X pins σ H s) (r : Vals vs us) (h : sp (vs ++ dvs) H Q E) : wpAny (model X.prog X.w) X.A (call (.ref f) us) (EP X pins σ Q) X.xe s := by
  have r2 : Vals (vs ++ dvs) (us ++ ds) := r.append hd
  have hl : (us ++ ds).length = ps.length := by rw [← r2.length]; exact F.len _ _ _ _ h
  refine wpAny_call (codeAny_mono (F.run X.A X.stack s H ⟨us, []⟩ (us ++ ds) (vs ++ dvs) Q E hr I.env0 (hb s us I.kIn hl) r2 h) fun r s' hq => ?_)
  cases r with
  | error e => exact hx pins σ H s e s' I hq
  | ok fl =>
    cases fl with
    | ret u => exact I.after hq
    | next => exact False.elim hq
    | brk => exact False.elim hq
    | cont => exact False.elim hq
theorem pe_call (F : FnOk X.prog X.w X.K X.mg X.base CX k f fd ps sp) (hr : Room k X.A) (hg : Gl X x) (hm : X.mg x = some (.ref f)) (hk : PySem.W.keepIn X.K (.ref f) = true) (hb : Binds X.K fd ps ds) (hd : Vals dvs ds) (hx : Passes CX X E)
    (ha : PA X (e :: es) t) (hdb : (x == ("__debug__" : Str)) = false := by decide) (he : starEach (e :: es) X.env = (false, eval e X.env) :: starEach es X.env := by rfl) (hpl : (backTo pos (starEach es X.env)).any (·.1) = false := by rfl) :
    PE X (.Call (.Name x p) (e :: es) [] pos) (tCall sp dvs E t) := by
  intro pins s σ H Q I h
  refine wpAny_Call_Name_kw (ld_glob I hg hm ?_ hdb)
  refine PySem.W.callWith_K (h₀ := X.base) I.ok.mod.kin hk (thn (ha pos pins s σ H _ I h) fun us s1 ⟨vs, H1, I1, r, q⟩ => ⟨I1.kIn, ?_⟩) he hpl
  exact run_fn F hr hb hd hx I1 r q
end
def PK (X : Cx) (kws : List Keyword) (t : TA) : Prop :=
  ∀ (pos : Pos) (pins : List (Addr × Obj)) (s : Shared) (σ : St) (H : Hp) (Q : List V → Hp → Prop), Inv X pins σ H s → t σ H Q → wpAny (model X.prog X.w) X.A (evalAll ((backToKw pos (keywordEach kws X.env)).map (·.2))) (AP X pins σ Q) X.xe s
section
variable {X : Cx} {CX : CXT} {k : Nat} {f C : Addr} {fd : FuncData} {ps ks : List Str} {sp : Sp} {E : XK} {x m : Str} {p pos apos kpos : Pos} {e o : Expr} {es : List Expr} {kws : List Keyword} {te ta : TE} {t tk : TA} {nm : Option Str}
theorem pk_nil : PK X [] tNil := fun _ _ _ _ H Q I h => wpAny_evalAll_nil ⟨[], H, I, .nil, h⟩
theorem pk_cons (ha : PE X e te) (hr : PK X kws t) : PK X (⟨nm, e, kpos⟩ :: kws) (tCons te t) := by
  intro pos pins s σ H Q I h
  show wpAny _ _ (evalAll ((do let v ← eval e X.env; standAt pos; pure v) :: (backToKw pos (keywordEach kws X.env)).map (·.2))) _ _ s
  refine wpAny_evalAll_cons (wpAny_bind (thn (ha pins s σ H _ I h) fun u s1 ⟨x, H1, I1, r1, q1⟩ => wpAny_bind (wpAny_standAt (wpAny_pure ?_))))
  exact thn (hr pos pins s1 σ H1 _ I1 q1) fun us s2 ⟨xs, H2, I2, r2, q2⟩ => ⟨x :: xs, H2, I2, .cons r1 r2, q2⟩
variable {g : List Value → List Value → List Value} {gV : List V → List V → List V}
end
structure FnScope (N P : List Str) (sc : Scope) : Prop where
  kind : sc.kind = .function
  co : sc.isCoroutine = false
  gen : sc.isGenerator = false
  nd : N.Nodup
  pre : N.take P.length = P
  par : ∀ x ∈ P, sc.names.lookup x = some .local ∨ sc.names.lookup x = some .cell
  nofree : ∀ y ∈ sc.names, y.2 ≠ .free
theorem bindL_out {kindOf : Str → Option NameKind} {x : Str} : ∀ {binds : List (Str × Value)} {m : Str → Option Value}, (∀ v, (x, v) ∉ binds) → bindL kindOf binds m x = m x
  | [], _, _ => rfl
  | (n, v) :: r, m, h => by
    unfold bindL
    rw [bindL_out fun w hw => h w (List.mem_cons_of_mem _ hw)]
    split
    · have : x ≠ n := by rintro rfl; exact h v List.mem_cons_self
      simp [this]
    · rfl
theorem bindC_out {kindOf : Str → Option NameKind} {x : Str} : ∀ {binds : List (Str × Value)} {m : Str → Option Value}, (∀ v, (x, v) ∉ binds) → bindC kindOf binds m x = m x
  | [], _, _ => rfl
  | (n, v) :: r, m, h => by
    unfold bindC
    rw [bindC_out fun w hw => h w (List.mem_cons_of_mem _ hw)]
    split
    · rfl
    · have : x ≠ n := by rintro rfl; exact h v List.mem_cons_self
      simp [this]
theorem bindL_get {kindOf : Str → Option NameKind} {x : Str} {v : Value} : ∀ {P : List Str} {vs : List Value} {i : Nat} {m : Str → Option Value}, P.Nodup → P[i]? = some x → vs[i]? = some v → kindOf x = some .local →
    bindL kindOf (P.zip vs) m x = some v
  | [], _, _, _, _, h, _, _ => by simp at h
  | _ :: _, [], _, _, _, _, h, _ => by simp at h
  | p :: P, w :: vs, 0, m, nd, h1, h2, hk => by
    simp at h1 h2; subst h1; subst h2
    show bindL kindOf ((p, w) :: P.zip vs) m p = _
    unfold bindL
    rw [bindL_out fun v hv => (List.nodup_cons.mp nd).1 (List.of_mem_zip hv).1, if_pos hk]
    simp
  | p :: P, w :: vs, i + 1, m, nd, h1, h2, hk => by
    show bindL kindOf ((p, w) :: P.zip vs) m x = _
    unfold bindL
    exact bindL_get (i := i) (List.nodup_cons.mp nd).2 (by simpa using h1) (by simpa using h2) hk
theorem bindC_get {kindOf : Str → Option NameKind} {x : Str} {v : Value} : ∀ {P : List Str} {vs : List Value} {i : Nat} {m : Str → Option Value}, P.Nodup → P[i]? = some x → vs[i]? = some v → kindOf x ≠ some .local →
    bindC kindOf (P.zip vs) m x = some v
  | [], _, _, _, _, h, _, _ => by simp at h
  | _ :: _, [], _, _, _, _, h, _ => by simp at h
  | p :: P, w :: vs, 0, m, nd, h1, h2, hk => by
    simp at h1 h2; subst h1; subst h2
    show bindC kindOf ((p, w) :: P.zip vs) m p = _
    unfold bindC
    rw [bindC_out fun v hv => (List.nodup_cons.mp nd).1 (List.of_mem_zip hv).1, if_neg hk]
    simp
  | p :: P, w :: vs, i + 1, m, nd, h1, h2, hk => by
    show bindC kindOf ((p, w) :: P.zip vs) m x = _
    unfold bindC
    exact bindC_get (i := i) (List.nodup_cons.mp nd).2 (by simpa using h1) (by simpa using h2) hk
def start (N : List Str) (vs : List V) : St := vs.map some ++ List.replicate (N.length - vs.length) none
def cxOf (CX : CXT) (P : Program) (w : World) (K : PySem.W.Frag) (mg : Str → Option Value) (base : Heap) (N : List Str) (qual : Str) (scope : Scope) (f : Addr) (cd : Value) (A : Around) (outer : List Env) (s : Shared) (H : Hp) (E : XK) : Cx where
  prog := P
  w := w
  K := K
  mg := mg
  base := base
  A := A.deeper (envOfC qual scope s.heap.objs.size f cd)
  N := N
  s₀ := s
  H₀ := H
  env := envOfC qual scope s.heap.objs.size f cd
  outer := outer
  stack := envOfC qual scope s.heap.objs.size f cd :: outer
  ex := []
  calm := true
  fn := fun _ => true
  pn := []
  xe := fun e s' => wpAny (model P w) (A.deeper (envOfC qual scope s.heap.objs.size f cd)) (leaving (envOfC qual scope s.heap.objs.size f cd) e) (fun _ s'' => CX outer H s E e s'') (fun e' s'' => CX outer H s E e' s'') s'
theorem cell_has {sc : Scope} {n : Nat} {x : Str} (h : sc.names.lookup x = some .cell) : ∃ c, (cellsFrom n sc.names []).lookup x = some c := by
  have q := PySem.W.cellsFrom_some sc.names n [] (.inl h)
  exact Option.isSome_iff_exists.mp q
theorem inv_start {CX : CXT} {P : Program} {w : World} {K : PySem.W.Frag} {mg : Str → Option Value} {base : Heap} {N ps : List Str} {qual : Str} {scope : Scope} {f : Addr} {cd : Value} {A : Around} {outer : List Env} {s s1 : Shared} {H : Hp} {E : XK} {us : List Value} {vs : List V}
    (S : FnScope N ps scope) (hd : A.handled = none) (e0 : Env0 P w K mg base A outer s H) (hl : vs.length = ps.length) (r : Vals vs us)
    (x : InCallC s s.heap.objs.size (bindL (envOfC qual scope s.heap.objs.size f cd).kindOf (ps.zip us) fun _ => none) (cellsFrom (s.heap.objs.size + 1) scope.names []) (bindC (envOfC qual scope s.heap.objs.size f cd).kindOf (ps.zip us) fun _ => none) s1) :
    Inv (cxOf CX P w K mg base N qual scope f cd A outer s H E) [] (start N vs) H s1 := by
  have hpl : ps.length ≤ N.length := by have := congrArg List.length S.pre; rw [List.length_take] at this; omega
  obtain ⟨h1, tk, rfl, hk⟩ := x.done
  have noA : ∀ b : Addr, b ∉ (cxOf CX P w K mg base N qual scope f cd A outer s H E).ex := fun b z => absurd (show b ∈ ([] : List Addr) from z) (by simp)
  refine ⟨⟨e0.mod, S.kind, rfl, rfl, Nat.le_refl _, fun y z c h1 h2 => ?_, fun y hy => ?_, fun y c _ h => ?_, fun _ => hd, Around.frames_deeper e0.frames, .inr ⟨rfl, rfl⟩, fun b z => absurd z (noA b), e0.bs, e0.bsz, fun b _ _ => noA b, fun b z => absurd z (noA b), e0.funs, e0.frf⟩,
    rfl, e0.bare, Un.kept hk, ⟨_, x.toInCall.ns, fun i y v h1 h2 h3 => ?_⟩, fun y c h => ⟨_, x.cell y c h⟩, e0.hok.fresh (Nat.le_refl _), fun y c h => ?_, fun p hp => absurd (show p ∈ ([] : List (Addr × Obj)) from hp) (by simp), e0.hok.kept hk, ?_⟩
  · exact name_of_addr x.apart (PySem.mem_of_lookup h1) (PySem.mem_of_lookup h2)
  · have hy : scope.names.lookup y = some .cell ∨ scope.names.lookup y = some .free := hy
    rcases hy with hy | hy
    · exact cell_has hy
    · exact absurd rfl (S.nofree _ (PySem.mem_of_lookup hy))
  · exact Nat.le_of_lt (x.above y c (PySem.mem_of_lookup h))
  · have hi : i < vs.length := by
      unfold start at h2
      by_cases hi : i < vs.length
      · exact hi
      · rw [List.getElem?_append_right (by simpa using hi)] at h2
        rw [List.getElem?_replicate] at h2
        split at h2 <;> cases h2
    have ha : vs[i]? = some v := by
      unfold start at h2
      rw [List.getElem?_append_left (by simpa using hi), List.getElem?_map] at h2
      cases e : vs[i]? with
      | none => rw [e] at h2; cases h2
      | some a => rw [e] at h2; cases h2; rfl
    obtain ⟨u, hu, rv⟩ := r.get ha
    have hp : ps[i]? = some y := by
      rw [← S.pre, List.getElem?_take_of_lt (by omega)]; exact h1
    have ndP : ps.Nodup := by rw [← S.pre]; exact S.nd.sublist (List.take_sublist _ _)
    refine ⟨u, rv, ?_⟩
    rcases S.par y (List.mem_of_getElem? hp) with k | k
    · exact .inl ⟨k, bindL_get ndP hp hu k⟩
    · obtain ⟨c, e⟩ := cell_has (n := s.heap.objs.size + 1) k
      refine .inr ⟨.inl k, c, e, ?_⟩
      have q := x.cell y c e
      rw [bindC_get ndP hp hu (by show scope.names.lookup y ≠ _; rw [k]; decide)] at q
      exact q
  · exact e0.hok.fresh (Nat.le_of_lt (x.above y c (PySem.mem_of_lookup h)))
  · unfold start
    show _ = N.length
    rw [List.length_append, List.length_map, List.length_replicate]
    omega
theorem fn_of {CX : CXT} {P : Program} {w : World} {K : PySem.W.Frag} {mg : Str → Option Value} {base : Heap} {k : Nat} {f : Addr} {name qual : Str} {params : Arguments} {body : List Stmt} {scope : Scope} {dV kV doc pm cdv ct oc : Value} {an od : Option Addr}
    {osl : Array (Option Value)} {N ps : List Str} {sp : Sp} (lk : K.lookup f = some ⟨oc, od, .func (PySem.W.fnOf name qual params body scope dV kV doc pm an cdv ct), osl⟩) (hcd : PySem.W.codeIn K cdv qual = true) (S : FnScope N ps scope)
    (len : ∀ vs H Q E, sp vs H Q E → vs.length = ps.length)
    (hbody : ∀ (A : Around) (outer : List Env) (s : Shared) (H : Hp) (vs : List V) (Q : VK) (E : XK), Room k (A.deeper (envOfC qual scope s.heap.objs.size f cdv)) → sp vs H Q E →
      ∃ t, PSs (cxOf CX P w K mg base N qual scope f cdv A outer s H E) body t ∧ t { nx := fun _ H' => Q .non H', rt := Q } (start N vs) H) :
    FnOk P w K mg base CX (k + 1) f (PySem.W.fnOf name qual params body scope dV kV doc pm an cdv ct) ps sp := by
  refine ⟨len, fun A outer s H args us vs Q E hr e0 hb r hsp => ?_⟩
  have hl := len _ _ _ _ hsp
  have KX : K.In s.heap := e0.mod.kin.keeps fun b o e => (e0.bs b o e).1
  have lim : s.heap.NoLimit := e0.mod.nolimit.keeps fun b o e => (e0.bs b o e).1
  have hkind : ∀ y ∈ ps.zip us, scope.names.lookup y.1 = some .local ∨ (scope.names.lookup y.1 = some .cell ∧ ((cellsFrom (s.heap.objs.size + 1) scope.names []).lookup y.1).isSome = true) := fun ⟨n, v⟩ hy => by
    rcases S.par n (List.of_mem_zip hy).1 with q | q
    · exact .inl q
    · exact .inr ⟨q, PySem.W.cellsFrom_some _ _ _ (.inl q)⟩
  refine codeAny_call_function hr.depth (KX _ _ lk) rfl S.co S.gen rfl (PySem.W.codeRec_of KX hcd) (hb _ _ _ _ ?_)
  refine wpAny_newFunctionEnv_cells S.kind hkind fun env he s1 x => ?_
  subst he
  refine ⟨lim.keeps x.toInCall.keep, codeAny_func ?_⟩
  obtain ⟨t, ht, hq⟩ := hbody A outer s H vs Q E (hr.deeper _) hsp
  have I : Inv (cxOf CX P w K mg base N qual scope f cdv A outer s H E) [] (start N vs) H s1 := inv_start S hr.hd e0 hl r x
  refine wpAny_mono (ht [] s1 (start N vs) H _ I hq) (fun fl s' hs => ?_) fun e s' hs => hs
  have fin : ∀ {σ' : St} {H' : Hp} {v : V} {u : Value}, Inv (cxOf CX P w K mg base N qual scope f cdv A outer s H E) [] σ' H' s' → RelV v u → Q v H' → CE outer P w H s Q u s' :=
    fun {σ' H' v u} J rv q => ⟨v, H', J.os, J.bare, J.base, J.hok, rv, q⟩
  cases fl with
  | ret u =>
    obtain ⟨v, σ', H', J, rv, q⟩ := hs
    exact fin J rv q
  | next =>
    obtain ⟨σ', H', J, q⟩ := hs
    exact fin (v := V.non) (u := Value.none) J rfl q
  | brk =>
    obtain ⟨_, _, _, q⟩ := hs
    exact False.elim q
  | cont =>
    obtain ⟨_, _, _, q⟩ := hs
    exact False.elim q
end L2
namespace L2
open PySem PySem.Spec PyProof.Rows
section
variable {X : Cx} {x : Str} {p pos : Pos} {e : Expr} {es : List Expr} {t : TA} {id T : String} {r : List V → Hp → VK → Prop}
def tCB (r : List V → Hp → VK → Prop) (t : TA) : TE := fun σ H Q => t σ H fun vs H1 => r vs H1 Q
theorem pe_callB (hc : CallR X (.builtin id) r) (hg : Gl X x) (hm : X.mg x = none) (hv : bootBuiltins x = some (.builtin id)) (ha : PA X (e :: es) t) (hn : x ≠ "__name__" := by decide) (hdb : (x == ("__debug__" : Str)) = false := by decide)
    (he : starEach (e :: es) X.env = (false, eval e X.env) :: starEach es X.env := by rfl) (hpl : (backTo pos (starEach es X.env)).any (·.1) = false := by rfl) : PE X (.Call (.Name x p) (e :: es) [] pos) (tCB r t) := by
  intro pins s σ H Q I h
  refine wpAny_Call_Name_kw (ld_blt I hg hm hv ?_ hn hdb)
  exact PyProof.Rows.callWith_builtin1 (thn (ha pos pins s σ H _ I h) fun us s1 ⟨vs, H1, I1, r1, q1⟩ => hc pins s1 σ H1 vs us Q I1 r1 q1) he hpl
theorem pe_callTy (hc : CallR X (.type T) r) (hg : Gl X x) (hm : X.mg x = none) (hv : bootBuiltins x = some (.type T)) (ha : PA X (e :: es) t) (hn : x ≠ "__name__" := by decide) (hdb : (x == ("__debug__" : Str)) = false := by decide)
    (he : starEach (e :: es) X.env = (false, eval e X.env) :: starEach es X.env := by rfl) (hpl : (backTo pos (starEach es X.env)).any (·.1) = false := by rfl) : PE X (.Call (.Name x p) (e :: es) [] pos) (tCB r t) := by
  intro pins s σ H Q I h
  refine wpAny_Call_Name_kw (ld_blt I hg hm hv ?_ hn hdb)
  exact PyProof.Rows.callWith_type1 (thn (ha pos pins s σ H _ I h) fun us s1 ⟨vs, H1, I1, r1, q1⟩ => hc pins s1 σ H1 vs us Q I1 r1 q1) he hpl
end
end L2
namespace HT
open PySem PyProof.Rows
section
open PySem.SeqAt
open PySem.AutoSeq1 (wpAny_loadPart')
open PySem.MeetsSeq PySem.MeetsSeq2 PySem.MeetsSeq3
end
section
variable {prog : Program} {w : World} {A : Around} {E : Value → Shared → Prop} {s : Shared}
theorem cat_tup {t b : Addr} {vs ws : List Value} {Q : Value → Shared → Prop} (ht : IsTup s.heap t vs.toArray) (hb : IsTup s.heap b ws.toArray) (hv : vs ≠ [])
    (h1 : ws = [] → Q (.ref t) s) (h2 : ws ≠ [] → Q (.ref s.heap.objs.size) { s with heap := s.heap.push { cls := .type "tuple", data := .seq (vs ++ ws).toArray } })
    (hsz : vs.length + ws.length ≤ sizeLine) : wpAny (model prog w) A (binaryOp .Add (.ref t) (.ref b)) Q E s := by
  obtain ⟨⟨cls, dd, data, sl⟩, ho, hc, n, hd⟩ := id ht
  obtain ⟨⟨cls2, dd2, data2, sl2⟩, ho2, hc2, n2, hd2⟩ := id hb
  simp only at hc hd hc2 hd2
  subst hc hd hc2 hd2
  have e : vs.toArray ++ ws.toArray = (vs ++ ws).toArray := by simp
  by_cases hw : ws = []
  · exact concat_meets ⟨_, ho, rfl⟩ ⟨_, ho2, rfl⟩ noFill_tuple_add seq_tuple_add PySem.F.slot_tuple_add PySem.F.entry_tuple_add (PySem.F.args_tuple_add_2 _ _)
      (tuple_addW1 t b vs.toArray ws.toArray n n2 dd dd2 sl sl2 (by simpa using hv) (by simp [hw])) ⟨ho, ho2, h1 hw⟩
  · refine concat_meets ⟨_, ho, rfl⟩ ⟨_, ho2, rfl⟩ noFill_tuple_add seq_tuple_add PySem.F.slot_tuple_add PySem.F.entry_tuple_add (PySem.F.args_tuple_add_2 _ _)
      (tuple_addW2 t b vs.toArray ws.toArray n n2 dd dd2 sl sl2 (by simpa using hv) (by simpa using hw) (by rw [List.size_toArray, List.size_toArray]; exact hsz)) ⟨ho, ho2, ?_⟩
    rw [e]
    exact h2 hw
def sIx (n d : Nat) : Option Int → Nat
  | none => d
  | some v => if v < 0 then (v + (n : Int)).toNat else min v.toNat n
theorem sIx_nat (n d k : Nat) : sIx n d (some (k : Int)) = min k n := by
  show (if (k : Int) < 0 then ((k : Int) + (n : Int)).toNat else min (k : Int).toNat n) = min k n
  rw [if_neg (by omega), Int.toNat_natCast]
theorem sIx_le (n d : Nat) (hd : d ≤ n) (o : Option Int) : sIx n d o ≤ n := by
  cases o with
  | none => exact hd
  | some v =>
    show (if v < 0 then (v + (n : Int)).toNat else min v.toNat n) ≤ n
    by_cases hv : v < 0
    · rw [if_pos hv]; omega
    · rw [if_neg hv]; exact Nat.min_le_right _ _
theorem clip_eq (v : Int) (n d : Nat) : (if v < 0 then max (v + (n : Int)) 0 else min v (n : Int)) = ((sIx n d (some v) : Nat) : Int) := by
  show (if v < 0 then max (v + (n : Int)) 0 else min v (n : Int)) = (((if v < 0 then (v + (n : Int)).toNat else min v.toNat n) : Nat) : Int)
  by_cases hv : v < 0
  · simp only [if_pos hv]; omega
  · simp only [if_neg hv]; omega
theorem adjust_gen (lo hi : Option Int) (n : Nat) : Builtin.Slice.sliceAdjust lo hi 1 (n : Int) = (((sIx n 0 lo : Nat) : Int), ((sIx n n hi : Nat) : Int)) := by
  have h1 : ¬ ((1 : Int) < 0) := by omega
  unfold Builtin.Slice.sliceAdjust
  simp only [h1, if_false]
  refine Prod.ext ?_ ?_
  · cases lo with
    | none => rfl
    | some v => exact clip_eq v n 0
  · cases hi with
    | none => rfl
    | some v => exact clip_eq v n n
theorem places_gen (i j : Nat) : Builtin.Slice.slicePlaces (i : Int) (j : Int) 1 = j - i := by
  unfold Builtin.Slice.slicePlaces
  have h1 : (1 : Int) > 0 := by omega
  simp only [h1, if_true, Int.ediv_one]
  split <;> omega
theorem slicePart_ {v : Value} {o : Option Int} {Q : Option Int → Shared → Prop} (p : IsPart v o) (h : Q o s) : wpAny (model prog w) A (Builtin.Slice.slicePartIndex v) Q E s := by
  cases p with
  | none => exact slicePart_none h
  | int i t => exact slicePart_int h
theorem sliceApplied_gen {sl : Addr} {vl vu : Value} {lo hi : Option Int} {n : Nat} {Q : Int × Int × Nat → Shared → Prop} (hs : s.heap.IsSliceOf sl vl vu .none) (pl : IsPart vl lo) (pu : IsPart vu hi)
    (h : Q (((sIx n 0 lo : Nat) : Int), 1, sIx n n hi - sIx n 0 lo) s) : wpAny (model prog w) A (Builtin.Slice.sliceApplied (.ref sl) (pure (n : Int))) Q E s := by
  obtain ⟨os, hos, hcs, hds⟩ := id hs
  unfold Builtin.Slice.sliceApplied Builtin.Slice.sliceFields
  refine wpAny_bind (wpAny_bind (wpAny_field hos hds (x := vl) rfl (wpAny_bind (wpAny_field hos hds (x := vu) rfl (wpAny_bind (wpAny_field hos hds (x := .none) rfl (wpAny_pure ?_)))))))
  refine wpAny_bind (slicePart_none ?_)
  show wpAny _ _ (if ((1 : Int) == 0) = true then _ else _) _ _ s
  rw [if_neg (by decide)]
  refine wpAny_bind (slicePart_ pl (wpAny_bind (slicePart_ pu (wpAny_bind (wpAny_pure ?_)))))
  show wpAny _ _ (match Builtin.Slice.sliceAdjust lo hi 1 (n : Int) with | (lo, hi) => pure (lo, (1 : Int), Builtin.Slice.slicePlaces lo hi 1)) _ _ s
  rw [adjust_gen lo hi n]
  show wpAny _ _ (pure (((sIx n 0 lo : Nat) : Int), (1 : Int), Builtin.Slice.slicePlaces ((sIx n 0 lo : Nat) : Int) ((sIx n n hi : Nat) : Int) 1)) _ _ s
  rw [places_gen]
  exact wpAny_pure h
theorem pick_gen (xs : Array Value) (i k : Nat) : ((List.range k).filterMap fun (m : Nat) => xs[((i : Int) + (m : Int) * 1).toNat]?).toArray = ((xs.toList.drop i).take k).toArray := by
  have e : (fun (m : Nat) => xs[((i : Int) + (m : Int) * 1).toNat]?) = fun m => xs[i + m]? := by
    funext m
    have : ((i : Int) + (m : Int) * 1).toNat = i + m := by omega
    rw [this]
  rw [e]
  have := pick_run xs i k
  rw [List.filterMap_map] at this
  have e2 : ((fun x => xs[x]?) ∘ fun x => i + x) = fun m => xs[i + m]? := rfl
  rw [e2] at this
  rw [this]
theorem getItem_tuple_cut {t sl : Addr} {items : Array Value} {vl vu : Value} {lo hi : Option Int} {Q : Value → Shared → Prop} (ht : IsTup s.heap t items) (hs : s.heap.IsSliceOf sl vl vu .none) (pl : IsPart vl lo) (pu : IsPart vu hi)
    (hw : ¬ (sIx items.size 0 lo = 0 ∧ sIx items.size items.size hi = items.size))
    (h : Q (.ref s.heap.objs.size) { s with heap := s.heap.push { cls := .type "tuple", data := .seq ((items.toList.drop (sIx items.size 0 lo)).take (sIx items.size items.size hi - sIx items.size 0 lo)).toArray } })
    (hsz : items.size ≤ sizeLine) : wpAny (model prog w) A (getItem (.ref t) (.ref sl)) Q E s := by
  have htake : sizeOk (.seq ((items.toList.drop (sIx items.size 0 lo)).take (sIx items.size items.size hi - sIx items.size 0 lo)).toArray) := by
    show ((items.toList.drop (sIx items.size 0 lo)).take (sIx items.size items.size hi - sIx items.size 0 lo)).toArray.size ≤ sizeLine
    rw [List.size_toArray, List.length_take, List.length_drop, Array.length_toList]
    omega
  have hj : sIx items.size items.size hi ≤ items.size := sIx_le _ _ (Nat.le_refl _) hi
  obtain ⟨os, hos, hcs, hds⟩ := id hs
  have hTs : s.TypeIs (.ref sl) "slice" := ⟨os, hos, hcs⟩
  unfold getItem
  try with_reducible refine wpAny_holding ?_
  first | refine wpAny_bind (wpAny_pure ?_) | skip
  refine wpAny_bind (wpAny_sequenceKey ht.typeIs (by decide) ?_)
  refine wpAny_bind (wpAny_callSpecial?_slot (name := Str.ofString "__getitem__") ht.typeIs PyProof.Rows.slot_tuple_getitem
    (wpAny_call_entry PyProof.Rows.slot_tuple_getitem ht.typeIs entry_tuple_getitem ?_ (args_tuple_getitem _ _)))
  show wpAny _ _ (Builtin.Tuple.tupleItemsOf (.ref t) >>= _) _ _ s
  refine wpAny_bind (tupleItemsOf_ ht ?_)
  refine wpAny_bind (wpAny_typeOf hTs ?_)
  rw [if_pos (by decide)]
  refine wpAny_bind (sliceApplied_gen hs pl pu ?_)
  have hno : ¬ ((((sIx items.size 0 lo : Nat) : Int) == 0 && (1 : Int) == 1 && (sIx items.size items.size hi - sIx items.size 0 lo) == items.size) = true) := by
    intro q
    rw [Bool.and_eq_true, Bool.and_eq_true] at q
    have q1 : ((sIx items.size 0 lo : Nat) : Int) = 0 := eq_of_beq q.1.1
    have q2 : sIx items.size items.size hi - sIx items.size 0 lo = items.size := eq_of_beq q.2
    exact hw ⟨by omega, by omega⟩
  show wpAny _ _ (if (((sIx items.size 0 lo : Nat) : Int) == 0 && (1 : Int) == 1 && (sIx items.size items.size hi - sIx items.size 0 lo) == items.size) = true then _ else _) _ _ s
  rw [if_neg hno, pick_gen]
  first
    | exact wpAny_bind (m := Builtin.Tuple.tupleExact _) (wpAny_newObj_type (wpAny_pure ⟨_, rfl, wpAny_pure h⟩) htake)
    | exact wpAny_bind (m := Builtin.Tuple.tupleExact _) (wpAny_newObj_type (wpAny_bind (wpAny_pure (wpAny_pure ⟨_, rfl, wpAny_pure h⟩))) htake)
    | exact wpAny_bind (wpAny_bind (m := Builtin.Tuple.tupleExact _) (wpAny_newObj_type (wpAny_pure (wpAny_pure ⟨_, rfl, wpAny_pure h⟩)) htake))
    | exact wpAny_bind (wpAny_bind (m := Builtin.Tuple.tupleExact _) (wpAny_newObj_type (wpAny_pure ⟨_, rfl, wpAny_pure h⟩) htake))
end
end HT
namespace L2
open PySem PySem.Spec PyProof.Rows
abbrev TO := St → Hp → (Option Int → Hp → Prop) → Prop
def PO (X : Cx) (e : Option Expr) (t : TO) : Prop :=
  ∀ (pins : List (Addr × Obj)) (s : Shared) (σ : St) (H : Hp) (Q : Option Int → Hp → Prop), Inv X pins σ H s → t σ H Q →
    wpAny (model X.prog X.w) X.A (evalPart e X.env) (fun u s' => ∃ o H', Inv X pins σ H' s' ∧ IsPart u o ∧ Q o H') X.xe s
def tNoPart : TO := fun _ H Q => Q none H
def tPart (t : TE) : TO := fun σ H Q => t σ H fun x H1 => ∃ i, x = .int i ∧ Q (some i) H1
section
variable {X : Cx} {e : Expr} {te : TE} {lo hi : Option Expr} {tl th : TO} {pos p2 : Pos}
theorem po_none : PO X none tNoPart := by
  intro pins s σ H Q I h
  rw [evalPart_none]
  exact wpAny_pure ⟨none, H, I, .none, h⟩
theorem po_some (h : PE X e te) : PO X (some e) (tPart te) := by
  intro pins s σ H Q I hw
  rw [evalPart_some]
  refine thn (h pins s σ H _ I hw) fun u s1 ⟨x, H1, I1, r1, q1⟩ => ?_
  obtain ⟨i, rfl, q⟩ := q1
  obtain ⟨t, rfl⟩ := r1
  exact ⟨some i, H1, I1, .int i t, q⟩
def SlR (X : Cx) (r : V → Option Int → Option Int → Hp → VK → Prop) : Prop :=
  ∀ (pins : List (Addr × Obj)) (s : Shared) (σ : St) (H : Hp) (x : V) (v vl vu : Value) (lo hi : Option Int) (sl : Addr) (Q : VK), Inv X pins σ H s → RelV x v → s.heap.IsSliceOf sl vl vu .none → IsPart vl lo → IsPart vu hi → r x lo hi H Q →
    ∃ T id, typeLookup (.type T) "__getitem__" = pure (some (.builtin id)) ∧ s.TypeIs v T ∧ wpAny (model X.prog X.w) X.A (getItem v (.ref sl)) (EP X pins σ Q) X.xe s
def tSl (r : V → Option Int → Option Int → Hp → VK → Prop) (te : TE) (tl th : TO) : TE := fun σ H Q => te σ H fun x H1 => tl σ H1 fun l H2 => th σ H2 fun u H3 => r x l u H3 Q
theorem pe_slice {r : V → Option Int → Option Int → Hp → VK → Prop} (hr : SlR X r) (he : PE X e te) (hl : PO X lo tl) (hu : PO X hi th) : PE X (.Subscript e (.Slice lo hi none p2) pos) (tSl r te tl th) := by
  intro pins s σ H Q I h
  refine Subscript_ (thn (he pins s σ H _ I h) fun v s1 ⟨x, H1, I1, r1, q1⟩ => ?_)
  refine wpAny_Slice (thn (hl pins s1 σ H1 _ I1 q1) fun vl s2 ⟨l, H2, I2, pl, q2⟩ => thn (hu pins s2 σ H2 _ I2 q2) fun vu s3 ⟨u, H3, I3, pu, q3⟩ => ?_)
  rw [evalPart_none]
  refine wpAny_pure ?_
  have I4 : Inv X pins σ H3 { s3 with heap := s3.heap.push { cls := .type "slice", data := .fields #[vl, vu, .none] } } := I3.kept (t' := s3.toks) fun b ob q => Heap.get?_push_of_some _ q
  obtain ⟨T, id, hT, ht, hg⟩ := hr pins { s3 with heap := s3.heap.push { cls := .type "slice", data := .fields #[vl, vu, .none] } } σ H3 x v vl vu l u s3.heap.objs.size Q I4 r1 (Heap.IsSliceOf.new ..) pl pu q3
  show wpAny (model X.prog X.w) X.A (subscriptTail e (.Slice lo hi none p2) v (.ref s3.heap.objs.size)) (EP X pins σ Q) X.xe { s3 with heap := s3.heap.push { cls := .type "slice", data := .fields #[vl, vu, .none] } }
  exact tail_any (ops := [.ref s3.heap.objs.size, v]) ht hT hg (by with_unfolding_all rfl)
def cutV (xs : List V) (lo hi : Option Int) : List V := (xs.drop (HT.sIx xs.length 0 lo)).take (HT.sIx xs.length xs.length hi - HT.sIx xs.length 0 lo)
theorem cutV_length (xs : List V) (lo hi : Option Int) : (cutV xs lo hi).length ≤ xs.length := by
  unfold cutV
  rw [List.length_take, List.length_drop]
  omega
def rSlT (K : PySem.W.Frag) : V → Option Int → Option Int → Hp → VK → Prop := fun x lo hi H Q => ∃ a xs, x = .ref a ∧ SqT K H a xs ∧
  ¬ (HT.sIx xs.length 0 lo = 0 ∧ HT.sIx xs.length xs.length hi = xs.length) ∧ ∀ p, H p = none → Q (.ref p) (upd H p (.tup (cutV xs lo hi)))
theorem sl_tup : SlR X (rSlT X.K) := by
  intro pins s σ H x v vl vu lo hi sl Q I rx hs pl pu h
  obtain ⟨a, xs, rfl, hx, hw, q⟩ := h
  cases rx
  obtain ⟨its, r, ht, hz⟩ := I.tuple hx
  have hlen : its.toArray.size = xs.length := by rw [List.size_toArray]; exact r.length.symm
  refine ⟨"tuple", _, PyProof.Rows.slot_tuple_getitem.lookup, ht.typeIs, ?_⟩
  refine HT.getItem_tuple_cut ht hs pl pu (by rw [hlen]; exact hw) ?_ (by rw [hlen]; exact hz)
  rw [hlen]
  refine ⟨.ref s.heap.objs.size, _, I.laid (t' := s.toks) (o := .tup (cutV xs lo hi)) (fun b ob q => Heap.get?_push_of_some _ q) (Nat.le_refl _) ?_, rfl, q _ (I.hok.fresh (Nat.le_refl _))⟩
  exact ⟨Nat.le_trans (cutV_length xs lo hi) hz, _, (r.drop (HT.sIx xs.length 0 lo)).take (HT.sIx xs.length xs.length hi - HT.sIx xs.length 0 lo), IsTupN.new _ _⟩
def rCatT (K : PySem.W.Frag) : R2 := fun x y H Q => ∃ a b xs ys, x = .ref a ∧ y = .ref b ∧ SqT K H a xs ∧ SqT K H b ys ∧ xs ≠ [] ∧ xs.length + ys.length ≤ sizeLine ∧
  (ys = [] → Q (.ref a) H) ∧ (ys ≠ [] → ∀ p, H p = none → Q (.ref p) (upd H p (.tup (xs ++ ys))))
theorem Vals.nil_iff {xs : List V} {us : List Value} (r : Vals xs us) : us = [] ↔ xs = [] := by
  cases r with
  | nil => simp
  | cons _ _ => simp
theorem op_catT : OpR X (binaryOp .Add) (rCatT X.K) := by
  intro pins s σ H x y v u Q I rx ry h
  obtain ⟨a, b, xs, ys, rfl, rfl, ha, hb, hx, hz, q1, q2⟩ := h
  cases rx
  cases ry
  obtain ⟨its, r1, p1, _⟩ := I.tuple ha
  obtain ⟨its2, r2, p2, _⟩ := I.tuple hb
  refine HT.cat_tup p1 p2 (fun z => hx (r1.nil_iff.mp z)) (fun z => ⟨.ref a, H, I, rfl, q1 (r2.nil_iff.mp z)⟩) (fun z => ?_) (by rw [← r1.length, ← r2.length]; exact hz)
  refine ⟨.ref s.heap.objs.size, _, I.laid (t' := s.toks) (o := .tup (xs ++ ys)) (fun b ob q => Heap.get?_push_of_some _ q) (Nat.le_refl _) ?_, rfl, q2 (fun w => z (r2.nil_iff.mpr w)) _ (I.hok.fresh (Nat.le_refl _))⟩
  exact ⟨by rw [List.length_append]; exact hz, _, r1.append r2, IsTupN.new _ _⟩
end
end L2
namespace L2
open PySem PySem.Spec PyProof.Rows
def ixN (n : Nat) (i : Int) : Option Nat := if 0 ≤ i then (if i < n then some i.toNat else none) else if -(n : Int) ≤ i then some (i + n).toNat else none
def atI {α : Type} (xs : List α) (i : Int) : Option α := (ixN xs.length i).bind fun j => xs[j]?
theorem ixN_seq {n : Nat} {i : Int} {j : Nat} (h : ixN n i = some j) : seqIndex? i n = some j ∧ j < n ∧ -(n : Int) ≤ i ∧ i < n := by
  unfold ixN at h
  by_cases h0 : 0 ≤ i
  · rw [if_pos h0] at h
    by_cases h1 : i < n
    · rw [if_pos h1] at h
      have e : i.toNat = j := Option.some.inj h
      exact ⟨by rw [seqIndex_of h0 h1, e], by omega, by omega, h1⟩
    · rw [if_neg h1] at h; cases h
  · rw [if_neg h0] at h
    by_cases h1 : -(n : Int) ≤ i
    · rw [if_pos h1] at h
      have e : (i + n).toNat = j := Option.some.inj h
      exact ⟨by rw [seqIndex_neg (by omega) h1, e], by omega, h1, by omega⟩
    · rw [if_neg h1] at h; cases h
theorem atI_get {α : Type} {xs : List α} {i : Int} {v : α} (h : atI xs i = some v) : ∃ j, seqIndex? i xs.length = some j ∧ xs[j]? = some v ∧ j < xs.length ∧ -(xs.length : Int) ≤ i ∧ i < xs.length := by
  unfold atI at h
  cases e : ixN xs.length i with
  | none => rw [e] at h; cases h
  | some j =>
    rw [e] at h
    obtain ⟨h1, h2, h3, h4⟩ := ixN_seq e
    exact ⟨j, h1, h, h2, h3, h4⟩
theorem atI_nat {α : Type} {xs : List α} {j : Nat} {v : α} (h : xs[j]? = some v) : atI xs (j : Int) = some v := by
  have hj : j < xs.length := (List.getElem?_eq_some_iff.mp h).1
  have e : ixN xs.length (j : Int) = some j := by
    unfold ixN
    rw [if_pos (by omega), if_pos (by omega)]; simp
  unfold atI; rw [e]; exact h
def PlainIx (b : Expr) : Prop := ∀ o i, subscripted b false o i = operate [o, i] (getItem o i)
def IxR (X : Cx) (r : R2) : Prop :=
  ∀ (value slice : Expr) (pins : List (Addr × Obj)) (s : Shared) (σ : St) (H : Hp) (x y : V) (v u : Value) (Q : VK), Inv X pins σ H s → RelV x v → RelV y u → r x y H Q →
    subscripted slice false v u = operate [v, u] (getItem v u) → wpAny (model X.prog X.w) X.A (subscriptTail value slice v u) (EP X pins σ Q) X.xe s
def MtR (X : Cx) (id : String) (r : V → List V → Hp → VK → Prop) : Prop :=
  ∀ (pins : List (Addr × Obj)) (s : Shared) (σ : St) (H : Hp) (x : V) (xs : List V) (v : Value) (us : List Value) (Q : VK), Inv X pins σ H s → RelV x v → Vals xs us → r x xs H Q →
    wpAny (model X.prog X.w) X.A (call (.builtin id) (v :: us)) (EP X pins σ Q) X.xe s
section
variable {X : Cx} {a b : Expr} {ta tb : TE} {pos : Pos}
theorem IxR.or {r r' : R2} (h : IxR X r) (h' : IxR X r') : IxR X (fun x y H Q => r x y H Q ∨ r' x y H Q) := by
  intro value slice pins s σ H x y v u Q I rx ry q hs
  rcases q with q | q
  · exact h value slice pins s σ H x y v u Q I rx ry q hs
  · exact h' value slice pins s σ H x y v u Q I rx ry q hs
theorem pe_ix {r : R2} (hr : IxR X r) (ha : PE X a ta) (hb : PE X b tb) (hs : PlainIx b) : PE X (.Subscript a b pos) (tOp r ta tb) := by
  intro pins s σ H Q I h
  exact Subscript_ (binT ha hb I h fun v u s2 x y H2 I2 rx ry q => hr a b pins s2 σ H2 x y v u Q I2 rx ry q (hs _ _))
def rIxL (K : PySem.W.Frag) : R2 := fun x y H Q => ∃ p xs i v, x = .ref p ∧ y = .int i ∧ SqL K H p xs ∧ atI xs i = some v ∧ Q v H
def rIxT (K : PySem.W.Frag) : R2 := fun x y H Q => ∃ p xs i v, x = .ref p ∧ y = .int i ∧ SqT K H p xs ∧ atI xs i = some v ∧ Q v H
def rIxS : R2 := fun x y H Q => ∃ z i c, x = .str z ∧ y = .int i ∧ z.length ≤ sizeLine ∧ atI z.cps.toList i = some c ∧ Q (.str ⟨#[c]⟩) H
theorem ix_list : IxR X (rIxL X.K) := by
  intro value slice pins s σ H x y v u Q I rx ry h hs
  obtain ⟨p, xs, i, z, rfl, rfl, hq, he, q⟩ := h
  cases rx
  obtain ⟨t, rfl⟩ := ry
  obtain ⟨its, r, pl, hz⟩ := I.list hq
  obtain ⟨j, h1, h2, h3, h4, h5⟩ := atI_get he
  obtain ⟨w, ew, rw'⟩ := r.get h2
  have hl := r.length
  have hn := line63
  have fin : EP X pins σ Q w s := ⟨z, H, I, rw', q⟩
  by_cases h0 : 0 ≤ i
  · have hj : i.toNat = j := by
      rw [seqIndex_of h0 h5] at h1
      exact Option.some.inj h1
    exact item_listR pl.isList h0 (by omega) (by rw [hj]; simpa using ew) fin hs
  · have hj : (i + (its.toArray.size : Int)).toNat = j := by
      rw [seqIndex_neg (by omega) h4] at h1
      rw [List.size_toArray, ← hl]
      exact Option.some.inj h1
    exact subscriptTail_builtinR (x := w) pl.isList.typeIs slot_list_getitem.lookup
      (wpAny_getItem_list_neg (Q := fun r s' => r = w ∧ EP X pins σ Q r s') pl.isList (by omega) (by rw [List.size_toArray] <;> omega) (by omega) (by rw [hj]; simpa using ew) ⟨rfl, fin⟩) hs
theorem ix_tup : IxR X (rIxT X.K) := by
  intro value slice pins s σ H x y v u Q I rx ry h hs
  obtain ⟨p, xs, i, z, rfl, rfl, hq, he, q⟩ := h
  cases rx
  obtain ⟨t, rfl⟩ := ry
  obtain ⟨its, r, pl, hz⟩ := I.tuple hq
  obtain ⟨j, h1, h2, h3, h4, h5⟩ := atI_get he
  obtain ⟨w, ew, rw'⟩ := r.get h2
  have hl := r.length
  have hn := line63
  have fin : EP X pins σ Q w s := ⟨z, H, I, rw', q⟩
  exact subscriptTail_builtinR (x := w) pl.typeIs slot_tuple_getitem.lookup
    (getItem_tuple (j := j) (Q := fun r s' => r = w ∧ EP X pins σ Q r s') pl (by omega) (by omega) (by rw [List.size_toArray, ← hl]; exact h1) (by simpa using ew) ⟨rfl, fin⟩) hs
theorem ix_str : IxR X rIxS := by
  intro value slice pins s σ H x y v u Q I rx ry h hs
  obtain ⟨z, i, c, rfl, rfl, hz, he, q⟩ := h
  obtain ⟨t, rfl⟩ := rx
  obtain ⟨t', rfl⟩ := ry
  obtain ⟨j, h1, h2, h3, h4, h5⟩ := atI_get he
  have hl : z.cps.toList.length = z.length := by simp [Str.length]
  rw [hl] at h1 h4 h5
  have hn := line63
  exact tail_any (typeIs_str s z t) slot_str_getitem.lookup (getItem_str (c := c) (by
    have e1 : decide (i < -(2 ^ 63 : Int)) = false := decide_eq_false (by omega)
    have e2 : decide (i ≥ 2 ^ 63) = false := decide_eq_false (by omega)
    rw [e1, e2, Bool.or_false]) (by rw [h1]; simpa using h2) ⟨.str ⟨#[c]⟩, H, I.tok _, ⟨_, rfl⟩, q⟩) hs
def rIx (K : PySem.W.Frag) : R2 := fun x y H Q => rIxL K x y H Q ∨ rIxT K x y H Q ∨ rIxS x y H Q
theorem ix_seq : IxR X (rIx X.K) := ix_list.or (ix_tup.or ix_str)
theorem Inv.lst {pins : List (Addr × Obj)} {σ : St} {H : Hp} {s : Shared} {p : Addr} {xs : List V} (I : Inv X pins σ H s) (h : H p = some (.lst xs)) :
    ∃ (its : List Value) (n : Nat), Vals xs its ∧ s.heap.get? p = some { cls := .type "list", data := .seq its.toArray n } ∧ xs.length ≤ sizeLine := by
  obtain ⟨z, its, n, r, e⟩ := I.hok p _ h
  exact ⟨its, n, r, e, z⟩
theorem slice_bounds (lo hi : Option Int) (n : Nat) : (sliceBounds lo hi none n).1 = ((HT.sIx n 0 lo : Nat) : Int) ∧ (sliceBounds lo hi none n).2.1 = ((HT.sIx n n hi : Nat) : Int) ∧ (sliceBounds lo hi none n).2.2 = 1 := by
  refine ⟨?_, ?_, rfl⟩
  · cases lo with
    | none => simp [sliceBounds, HT.sIx]
    | some i =>
      simp only [sliceBounds, HT.sIx, Option.getD_none, show (1 : Int) > 0 by decide, if_true]
      by_cases h : i < 0
      · simp only [h, if_true] <;> omega
      · simp only [h, if_false] <;> omega
  · cases hi with
    | none => simp [sliceBounds, HT.sIx]
    | some i =>
      simp only [sliceBounds, HT.sIx, Option.getD_none, show (1 : Int) > 0 by decide, if_true]
      by_cases h : i < 0
      · simp only [h, if_true] <;> omega
      · simp only [h, if_false] <;> omega
theorem slicePick_cut (its : List Value) (lo hi : Option Int) : slicePick its.toArray lo hi none = ((its.drop (HT.sIx its.length 0 lo)).take (HT.sIx its.length its.length hi - HT.sIx its.length 0 lo)).toArray := by
  obtain ⟨h1, h2, h3⟩ := slice_bounds lo hi its.toArray.size
  unfold slicePick
  rw [h1, h2, h3]
  simp only [sliceRange_one, pick_run, List.size_toArray] <;> rfl
def rSlL (K : PySem.W.Frag) : V → Option Int → Option Int → Hp → VK → Prop := fun x lo hi H Q => ∃ a xs, x = .ref a ∧ SqL K H a xs ∧ ∀ p, H p = none → Q (.ref p) (upd H p (.lst (cutV xs lo hi)))
theorem sl_list : SlR X (rSlL X.K) := by
  intro pins s σ H x v vl vu lo hi sl Q I rx hs pl pu h
  obtain ⟨a, xs, rfl, hx, q⟩ := h
  cases rx
  obtain ⟨its, r, ht, hz⟩ := I.list hx
  have hlen := r.length
  refine ⟨"list", _, slot_list_getitem.lookup, ht.isList.typeIs, ?_⟩
  refine wpAny_getItem_list_slice ht.isList hs pl pu .none (by simp) ?_ (by rw [List.size_toArray] <;> omega)
  rw [slicePick_cut, ← hlen]
  refine ⟨.ref s.heap.objs.size, _, I.laid (t' := s.toks) (o := .lst (cutV xs lo hi)) (fun b ob q => Heap.get?_push_of_some _ q) (Nat.le_refl _) ?_, rfl, q _ (I.hok.fresh (Nat.le_refl _))⟩
  exact ⟨Nat.le_trans (cutV_length xs lo hi) hz, _, 0, (r.drop (HT.sIx xs.length 0 lo)).take (HT.sIx xs.length xs.length hi - HT.sIx xs.length 0 lo), Heap.get?_push_size _ rfl⟩
def flatV : V → Bool
  | .non => true
  | .bl _ => true
  | .int _ => true
  | .str _ => true
  | _ => false
def eqV : V → V → Bool
  | .non, .non => true
  | .bl a, .bl b => a == b
  | .bl a, .int b => (if a then 1 else 0) == b
  | .int a, .bl b => a == (if b then 1 else 0)
  | .int a, .int b => a == b
  | .str a, .str b => a == b
  | _, _ => false
theorem eqAt_V {A : Around} {s : Shared} {y x : V} {u v : Value} (ry : RelV y u) (rx : RelV x v) (fy : flatV y = true) (fx : flatV x = true) : SeqAt.EqAt A s u v (eqV y x) := by
  cases y with
  | non =>
    cases ry
    cases x with
    | non => cases rx; exact SeqAt.EqAt.same _
    | bl b => cases rx; exact SeqAt.EqAt.none_bool b
    | int b => obtain ⟨t, rfl⟩ := rx; exact SeqAt.EqAt.none_int b t
    | str b => obtain ⟨t, rfl⟩ := rx; exact SeqAt.EqAt.none_str b t
    | _ => exact absurd (show false = true from fx) Bool.false_ne_true
  | bl a =>
    cases ry
    cases x with
    | non => cases rx; exact SeqAt.EqAt.bool_none a
    | bl b => cases rx; exact SeqAt.EqAt.bool_bool a b
    | int b => obtain ⟨t, rfl⟩ := rx; exact SeqAt.EqAt.bool_int a b t
    | str b => obtain ⟨t, rfl⟩ := rx; exact SeqAt.EqAt.bool_str a b t
    | _ => exact absurd (show false = true from fx) Bool.false_ne_true
  | int a =>
    obtain ⟨t', rfl⟩ := ry
    cases x with
    | non => cases rx; exact SeqAt.EqAt.int_none a t'
    | bl b => cases rx; exact SeqAt.EqAt.int_bool a t' b
    | int b => obtain ⟨t, rfl⟩ := rx; exact SeqAt.EqAt.int_int a t' b t
    | str b => obtain ⟨t, rfl⟩ := rx; exact SeqAt.EqAt.int_str a t' b t
    | _ => exact absurd (show false = true from fx) Bool.false_ne_true
  | str a =>
    obtain ⟨t', rfl⟩ := ry
    cases x with
    | non => cases rx; exact SeqAt.EqAt.str_none a t'
    | bl b => cases rx; exact SeqAt.EqAt.str_bool a t' b
    | int b => obtain ⟨t, rfl⟩ := rx; exact SeqAt.EqAt.str_int a t' b t
    | str b => obtain ⟨t, rfl⟩ := rx; exact SeqAt.EqAt.str_str a t' b t
    | _ => exact absurd (show false = true from fx) Bool.false_ne_true
  | _ => exact absurd (show false = true from fy) Bool.false_ne_true
theorem call_len_seq : CallR X (.builtin "len") (fun xs H Q => ∃ p ys, xs = [.ref p] ∧ (SqL X.K H p ys ∨ SqT X.K H p ys) ∧ Q (.int ys.length) H) := by
  intro pins s σ H xs us Q I r h
  obtain ⟨p, ys, rfl, hq, q⟩ := h
  obtain ⟨u, rfl, rx⟩ := vals1 r
  cases rx
  have hn := line63
  rcases hq with hq | hq
  · obtain ⟨its, r', pl, hz⟩ := I.list hq
    have hlen := r'.length
    exact Calls.call_len_list pl.isList (by simp only [List.size_toArray] <;> omega) ⟨.int ys.length, H, I.tok _, ⟨s.toks + 1, by rw [List.size_toArray, hlen]⟩, q⟩
  · obtain ⟨its, r', pl, hz⟩ := I.tuple hq
    have hlen := r'.length
    exact len_tuple pl (by simp only [List.size_toArray] <;> omega) ⟨.int ys.length, H, I.tok _, ⟨s.toks + 1, by rw [List.size_toArray, hlen]⟩, q⟩
theorem call_len_str : CallR X (.builtin "len") (fun xs H Q => ∃ z, xs = [.str z] ∧ z.length ≤ sizeLine ∧ Q (.int z.length) H) := by
  intro pins s σ H xs us Q I r h
  obtain ⟨z, rfl, hz, q⟩ := h
  obtain ⟨u, rfl, t, rfl⟩ := vals1 r
  have hn := line63
  exact len_str (by omega) ⟨.int z.length, H, I.tok _, ⟨_, rfl⟩, q⟩
theorem CallR.or {f : Value} {r r' : List V → Hp → VK → Prop} (h : CallR X f r) (h' : CallR X f r') : CallR X f (fun xs H Q => r xs H Q ∨ r' xs H Q) := by
  intro pins s σ H xs us Q I rs q
  rcases q with q | q
  · exact h pins s σ H xs us Q I rs q
  · exact h' pins s σ H xs us Q I rs q
theorem call_list_of : CallR X (.type "list") (fun xs H Q => ∃ p ys, xs = [.ref p] ∧ (SqL X.K H p ys ∨ SqT X.K H p ys) ∧ ∀ l, H l = none → Q (.ref l) (upd H l (.lst ys))) := by
  intro pins s σ H xs us Q I r h
  obtain ⟨p, ys, rfl, hq, q⟩ := h
  obtain ⟨u, rfl, rx⟩ := vals1 r
  cases rx
  have fin : ∀ (its : List Value), Vals ys its → ys.length ≤ sizeLine → ∀ (h' : Heap) (c' : Nat), (∀ b o', s.heap.get? b = some o' → h'.get? b = some o') →
      h'.get? s.heap.objs.size = some { cls := .type "list", dict := none, data := .seq its.toArray c', slots := #[] } → EP X pins σ Q (.ref s.heap.objs.size) { s with heap := h' } := fun its r' hz h' c' kp e =>
    ⟨.ref s.heap.objs.size, _, I.laid (t' := s.toks) kp (Nat.le_refl _) (show ObjOk X.prog X.w _ h' _ (.lst ys) from ⟨hz, its, c', r', e⟩), rfl, q _ (I.hok.fresh (Nat.le_refl _))⟩
  rcases hq with hq | hq
  · obtain ⟨its, r', pl, hz⟩ := I.list hq
    have hlen := r'.length
    obtain ⟨o, ho, hc, n, hd⟩ := pl.isList
    exact call_list_seq p (.inl rfl) ho hc hd (fun h' c' kp e => fin its r' hz h' c' kp e) (by simp only [List.size_toArray] <;> omega)
  · obtain ⟨its, r', pl, hz⟩ := I.tuple hq
    have hlen := r'.length
    obtain ⟨o, ho, hc, n, hd⟩ := pl
    exact call_list_seq p (.inr rfl) ho hc hd (fun h' c' kp e => fin its r' hz h' c' kp e) (by simp only [List.size_toArray] <;> omega)
theorem call_tuple_of : CallR X (.type "tuple") (fun xs H Q => ∃ p ys, xs = [.ref p] ∧ ((SqL X.K H p ys ∧ ∀ l, H l = none → Q (.ref l) (upd H l (.tup ys))) ∨ (SqT X.K H p ys ∧ Q (.ref p) H))) := by
  intro pins s σ H xs us Q I r h
  obtain ⟨p, ys, rfl, h⟩ := h
  obtain ⟨u, rfl, rx⟩ := vals1 r
  cases rx
  rcases h with ⟨hq, q⟩ | ⟨hq, q⟩
  · obtain ⟨its, r', pl, hz⟩ := I.list hq
    have hlen := r'.length
    refine call_tuple_list pl.isList (fun h' kp => ?_) (by simp only [List.size_toArray] <;> omega)
    have I1 : Inv X pins σ H { s with heap := h' } := I.kept (t' := s.toks) kp
    have I2 : Inv X pins σ (upd H h'.objs.size (.tup ys)) { s with heap := h'.push { cls := .type "tuple", data := .seq its.toArray } } :=
      I1.laid (t' := s.toks) (fun b o e => Heap.get?_push_of_some _ e) (Nat.le_refl _) (show ObjOk X.prog X.w _ _ _ (.tup ys) from ⟨hz, its, r', IsTupN.new _ _⟩)
    exact ⟨.ref h'.objs.size, _, I2, rfl, q _ (I1.hok.fresh (Nat.le_refl _))⟩
  · obtain ⟨its, r', pl, hz⟩ := I.tuple hq
    exact call_tuple_same pl ⟨.ref p, H, I, rfl, q⟩
def tyV (K : PySem.W.Frag) (T : String) (x : V) (H : Hp) : Prop := match x with
  | .str _ => T = "str"
  | .int _ => T = "int"
  | .ref p => (T = "list" ∧ ∃ xs, SqL K H p xs) ∨ (T = "tuple" ∧ ∃ o, K.lookup p = some o ∧ o.cls = .type "tuple" ∧ o.dict = none) ∨
      (T = "dict" ∧ ((∃ kvs, H p = some (.dK kvs)) ∨ ∃ kvs, H p = some (.dT kvs))) ∨ (T = "set" ∧ ∃ S n, H p = some (.set S n))
  | _ => False
theorem tyV_is {pins : List (Addr × Obj)} {σ : St} {H : Hp} {s : Shared} {T : String} {x : V} {v : Value} (I : Inv X pins σ H s) (r : RelV x v) (ty : tyV X.K T x H) :
    s.TypeIs v T ∧ ∀ a, v = .ref a → ∃ ob, s.heap.get? a = some ob ∧ ob.dict = none := by
  cases x with
  | str z =>
    obtain ⟨t, rfl⟩ := r
    cases (show T = "str" from ty)
    exact ⟨typeIs_str s z t, fun _ e => nomatch e⟩
  | int i =>
    obtain ⟨t, rfl⟩ := r
    cases (show T = "int" from ty)
    exact ⟨typeIs_int s i t, fun _ e => nomatch e⟩
  | ref p =>
    cases r
    rcases ty with ⟨rfl, xs, hq⟩ | ⟨rfl, o, hk, hc, hd⟩ | ⟨rfl, hk⟩ | ⟨rfl, S, n, hk⟩
    · obtain ⟨its, _, pl, _⟩ := I.list hq
      refine ⟨pl.isList.typeIs, fun a e => ?_⟩
      cases e
      obtain ⟨o, n, e, c, hd, _⟩ := pl
      exact ⟨o, e, hd⟩
    · refine ⟨⟨o, I.kIn p o hk, hc⟩, fun a e => ?_⟩
      cases e
      exact ⟨o, I.kIn _ o hk, hd⟩
    · have z : ∃ o, s.heap.get? p = some o ∧ o.ExactDict := by
        rcases hk with ⟨kvs, hk⟩ | ⟨kvs, hk⟩
        · obtain ⟨_, _, _, _, o, _, _, e, ex, _⟩ := I.hok p _ hk
          exact ⟨o, e, ex⟩
        · obtain ⟨_, _, _, _, o, _, _, e, ex, _⟩ := I.hok p _ hk
          exact ⟨o, e, ex⟩
      obtain ⟨o, e, ex⟩ := z
      refine ⟨⟨o, e, ex.1⟩, fun a e2 => ?_⟩
      cases e2
      exact ⟨o, e, ex.2.1⟩
    · obtain ⟨o, _, _, _, e, ex, _⟩ := I.hok p _ hk
      refine ⟨⟨o, e, ex.1⟩, fun a e2 => ?_⟩
      cases e2
      exact ⟨o, e, ex.2.1⟩
  | _ => exact False.elim ty
def tBM (K : PySem.W.Frag) (T : String) (r : V → List V → Hp → VK → Prop) (to : TE) (t : TA) : TE := fun σ H Q => to σ H fun x H1 => tyV K T x H1 ∧ t σ H1 fun xs H2 => r x xs H2 Q
variable {o e : Expr} {es : List Expr} {to : TE} {t : TA} {name : Str} {apos cpos : Pos} {T id : String} {r : V → List V → Hp → VK → Prop}
theorem pe_bm (pa : PlainAttrs T) (slot : Slot T name id) (hty : typeOf (.builtin id) = pure (.type "method_descriptor")) (hm : MtR X id r) (ho : PE X o to) (ha : PA X (e :: es) t)
    (hbase : attributeBase o name X.env (eval o X.env) = eval o X.env := by rfl)
    (hfew : ((backTo cpos (starEach (e :: es) X.env)).all (fun x => !x.1) && (backToKw cpos (keywordEach [] X.env)).all (fun x => x.1.isSome)
      && decide ((e :: es).length + ([] : List Keyword).length + (if ([] : List Keyword).isEmpty then 0 else 1) < 30)) = true := by rfl)
    (hline : (apos.endLine == cpos.line) = true := by rfl) (hs : starEach (e :: es) X.env = (false, eval e X.env) :: starEach es X.env := by rfl) (hplain : (backTo cpos (starEach es X.env)).any (·.1) = false := by rfl) :
    PE X (.Call (.Attribute o name apos) (e :: es) [] cpos) (tBM X.K T r to t) := by
  intro pins s σ H Q I h
  refine wpAny_Call_method_late hbase hfew hline rfl (thn (ho pins s σ H _ I h) fun v s1 ⟨x, H1, I1, r1, ty, q1⟩ => ?_)
  obtain ⟨h1, h2⟩ := tyV_is I1 r1 ty
  refine ⟨T, id, pa, slot, hty, h1, h2, ?_⟩
  have hA := ha cpos pins s1 σ H1 _ I1 q1
  rw [hs] at hA ⊢
  refine Calls.callWith_builtin (by show (false || (backTo cpos (starEach es X.env)).any (·.1)) = false; rw [hplain] <;> rfl) (Calls.evalArgs_plain ?_)
  exact thn hA fun us s2 ⟨vs, H2, I2, r2, q2⟩ => hm pins s2 σ H2 x vs v us Q I2 r1 r2 q2
end
end L2
namespace L2
open PySem PySem.Spec PyProof.Rows
def MtM (X : Cx) (id : String) (r : V → List V → Hp → VK → Prop) : Prop :=
  ∀ (pins : List (Addr × Obj)) (s : Shared) (σ : St) (H : Hp) (x : V) (xs : List V) (v : Value) (us : List Value) (Q : VK), Inv X pins σ H s → RelV x v → Vals xs us → r x xs H Q →
    wpAny (model X.prog X.w) X.A (call (.builtin id) (v :: us)) (EP X pins σ Q) X.xe s
theorem Vals.one : ∀ {x : V} {us : List Value}, Vals [x] us → ∃ u, us = [u] ∧ RelV x u
  | _, _, .cons r .nil => ⟨_, rfl, r⟩
theorem Vals.two : ∀ {x y : V} {us : List Value}, Vals [x, y] us → ∃ u v, us = [u, v] ∧ RelV x u ∧ RelV y v
  | _, _, _, .cons r (.cons q .nil) => ⟨_, _, rfl, r, q⟩
theorem Vals.zero : ∀ {us : List Value}, Vals [] us → us = []
  | _, .nil => rfl
theorem Vals.reverse {xs : List V} {us : List Value} (h : Vals xs us) : Vals xs.reverse us.reverse := by
  induction h with
  | nil => exact .nil
  | cons r t ih => rw [List.reverse_cons, List.reverse_cons]; exact Vals.append ih (.cons r .nil)
section
variable {X : Cx} {pins : List (Addr × Obj)} {σ : St} {H : Hp} {s : Shared} {l b : Addr} {xs ys zs : List V}
theorem Inv.lset {its its' : List Value} {n : Nat} {f : Array Value → Array Value} {t' : Nat} (I : Inv X pins σ H s) (hH : H l = some (.lst xs))
    (e : s.heap.get? l = some { cls := .type "list", data := .seq its.toArray n }) (hf : f its.toArray = its'.toArray) (hv : Vals ys its') (hz : ys.length ≤ sizeLine) :
    Inv X pins σ (upd H l (.lst ys)) { s with heap := s.heap.update l (Obj.mapSeq f), toks := t' } := by
  have q := PySem.IsL.update e f
  rw [hf] at q
  refine I.write (x := l) (e := l) (by rw [hH]; exact trivial) (.inl rfl) (fun b' u hb hu => (Heap.get?_update_other s.heap (Obj.mapSeq f) (Ne.symm hb)).trans hu) ⟨_, q⟩ ?_
  exact ⟨hz, its', _, hv, q⟩
theorem Inv.lnew {its : List Value} {t' : Nat} (I : Inv X pins σ H s) (hv : Vals ys its) (hz : ys.length ≤ sizeLine) :
    Inv X pins σ (upd H s.heap.objs.size (.lst ys)) { s with heap := s.heap.push { cls := .type "list", data := .seq its.toArray }, toks := t' } :=
  I.laid (fun _ _ q => Heap.get?_push_of_some _ q) (Nat.le_refl _) ⟨hz, its, 0, hv, Heap.get?_push_size _ rfl⟩
theorem Inv.fresh (I : Inv X pins σ H s) : H s.heap.objs.size = none := I.hok.fresh (Nat.le_refl _)
theorem Inv.lstM (I : Inv X pins σ H s) (hH : H l = some (.lst xs)) : xs.length ≤ sizeLine ∧ ∃ (its : List Value) (n : Nat), Vals xs its ∧ xs.length = its.length ∧ s.heap.get? l = some { cls := .type "list", data := .seq its.toArray n } := by
  obtain ⟨z, its, n, r, e⟩ := I.hok l _ hH
  exact ⟨z, its, n, r, r.length, e⟩
theorem notLongL {n : Nat} (h : n ≤ sizeLine) : Builtin.List.listTooLong n = false := by
  unfold Builtin.List.listTooLong
  exact decide_eq_false (by omega)
end
section
variable {X : Cx}
def rAppend : V → List V → Hp → VK → Prop := fun x vs H Q => ∃ l xs y, x = .ref l ∧ vs = [y] ∧ H l = some (.lst xs) ∧ xs.length < sizeLine ∧ Q .non (upd H l (.lst (xs ++ [y])))
theorem mt_append : MtM X "list.append" rAppend := by
  intro pins s σ H x vs v us Q I rx rv h
  obtain ⟨l, xs, y, rfl, rfl, hH, hz, q⟩ := h
  cases rx
  obtain ⟨u, rfl, ru⟩ := rv.one
  obtain ⟨z, its, n, r, hl, e⟩ := I.lstM hH
  refine call_meets F.slot_list_append ⟨_, e, rfl⟩ F.entry_list_append (F.args_list_append_2 _ _) (PySem.list_append l its.toArray n u (by rw [List.size_toArray]; omega)) ⟨e, ?_⟩
  refine ⟨.non, _, I.lset (its' := its ++ [u]) hH e (by simp) (r.append (.cons ru .nil)) ?_, rfl, q⟩
  rw [List.length_append, List.length_singleton]
  omega
def rExtend : V → List V → Hp → VK → Prop := fun x vs H Q => ∃ l b xs zs, x = .ref l ∧ vs = [.ref b] ∧ H l = some (.lst xs) ∧ H b = some (.lst zs) ∧ xs.length + zs.length ≤ sizeLine ∧ Q .non (upd H l (.lst (xs ++ zs)))
theorem mt_extend : MtM X "list.extend" rExtend := by
  intro pins s σ H x vs v us Q I rx rv h
  obtain ⟨l, b, xs, zs, rfl, rfl, hH, hB, hz, q⟩ := h
  cases rx
  obtain ⟨u, rfl, ru⟩ := rv.one
  cases ru
  obtain ⟨z, its, n, r, hl, e⟩ := I.lstM hH
  obtain ⟨z2, its2, n2, r2, hl2, e2⟩ := I.lstM hB
  have hsz : its.toArray.size + its2.toArray.size ≤ sizeLine := by rw [List.size_toArray, List.size_toArray]; omega
  have hlong : ¬ (!its.toArray.isEmpty && Builtin.List.listTooLong (its.toArray.size + its2.toArray.size)) = true := by
    rw [notLongL hsz, Bool.and_false]
    exact Bool.false_ne_true
  refine call_meets F.slot_list_extend ⟨_, e, rfl⟩ F.entry_list_extend (F.args_list_extend_2 _ _)
    (AutoSeq1.list_extend_list_list_0 l its.toArray n b its2.toArray n2 hlong (by rw [List.size_toArray]; omega) (by omega)) ⟨e, e2, ?_⟩
  refine ⟨.non, _, I.lset (its' := its ++ its2) hH e (by simp) (r.append r2) ?_, rfl, q⟩
  rw [List.length_append]
  omega
def rCat : R2 := fun x y H Q => ∃ l b xs zs, x = .ref l ∧ y = .ref b ∧ H l = some (.lst xs) ∧ H b = some (.lst zs) ∧ xs.length + zs.length ≤ sizeLine ∧ ∀ p, H p = none → Q (.ref p) (upd H p (.lst (xs ++ zs)))
theorem op_cat : OpR X (binaryOp .Add) rCat := by
  intro pins s σ H x y v u Q I rx ry h
  obtain ⟨l, b, xs, zs, rfl, rfl, hH, hB, hz, q⟩ := h
  cases rx
  cases ry
  obtain ⟨z, its, n, r, hl, e⟩ := I.lstM hH
  obtain ⟨z2, its2, n2, r2, hl2, e2⟩ := I.lstM hB
  refine PySem.P.add_list e e2 ?_ (by rw [List.size_toArray, List.size_toArray]; omega)
  have ea : its.toArray ++ its2.toArray = (its ++ its2).toArray := by simp
  rw [ea]
  exact ⟨.ref _, _, I.lnew (t' := s.toks) (r.append r2) (by rw [List.length_append]; omega), rfl, q _ I.fresh⟩
end
section
variable {prog : Program} {w : World} {A : Around} {E : Value → Shared → Prop} {s : Shared}
set_option maxRecDepth 100000 in
end
section
variable {X : Cx}
end
end L2
namespace Att
open PySem PySem.W PySem.Calls PyProof.Rows
theorem ints_of_wellAll {P : Params} {h : Heap} : ∀ (ns : List Int) (vs : List Value), WellAll P h vs (ns.map WData.int) → IntsAre vs ns := by
  intro ns
  induction ns with
  | nil =>
    intro vs w
    rw [List.map_nil] at w
    cases w
    exact .nil
  | cons n ns ih =>
    intro vs w
    rw [List.map_cons] at w
    cases w with
    | cons a b =>
      cases a
      exact .cons _ _ (ih _ b)
theorem script_of {l : OpenLaw} {n : Nat} (hn : l.most = some n) {P : Params} {h : Heap} {args : List WData} {vals : List Value}
    (hpre : l.row.toRowW.claim.pre args = true) (hwl : WellAll P h vals args) :
    ∃ a vs ns, vals = [Value.ref a] ∧ args = [WData.list (ns.map WData.int)] ∧ h.get? a = some { cls := .type "list", data := .seq vs.toArray } ∧ IntsAre vs ns ∧ ns.length ≤ n := by
  have hsh : WShape.hasAll [] args [.list .int] = true := (pre_splitW hpre).1
  have hc : l.pre.holds [] { args := args } = true := (pre_splitW hpre).2
  obtain ⟨d, r, rfl, h1, h2⟩ := hasAllW_cons hsh
  obtain rfl := hasAllW_nil h2
  obtain ⟨xs, rfl, h3⟩ := hasW_list h1
  obtain ⟨ns, rfl⟩ := items_int h3
  have hlen : ns.length ≤ n := by
    unfold OpenLaw.pre at hc
    have h4 : (WTm.not (.lt (.lit (.int (n : Int))) (.len (.arg 0)))).holds [] { args := [.list (ns.map .int)] } = true := by
      have h4 := (holds_andW hc).1
      rw [hn] at h4
      exact h4
    have h5 := condW_of h4 (w_not (w_lt w_lit (w_len_list (w_arg rfl))))
    rw [List.length_map] at h5
    refine Nat.le_of_not_lt fun q => ?_
    have q' : (n : Int) < ((ns.length : Nat) : Int) := by omega
    first
      | (rw [decide_eq_true q'] at h5; exact absurd h5 (by decide))
      | (simp at h5; omega)
  cases hwl with
  | cons w1 w2 =>
    cases w2
    cases w1 with
    | list ho hall => exact ⟨_, _, ns, rfl, rfl, ho, ints_of_wellAll ns _ hall, hlen⟩
theorem post_true (l : OpenLaw) (args : List WData) : l.row.toRowW.claim.post args (.bool true) args = true :=
  postW_of (r := l.row.toRowW) (X := (true == true))
    (show WShape.has [] (.bool true) .bool = true by first | rfl | decide | simp [WShape.has, WShape.arms, WShape.armsAll])
    (show (WTm.eq .res (.lit (.bool true))).value [] { args := args, res := some (.bool true), after := args } = some (.bool (true == true)) from w_eq_bool (w_res rfl) w_lit) rfl
theorem attach_call {l : OpenLaw} {n : Nat} {q : Program} {loose : List Str} {XP : (Str → Option Value) → Heap → Prop} {YP : World → Heap → Prop} {d : DefRec}
    (hn : l.most = some n) (hdf : d.params.defaults = [])
    (call : ∀ (w : World) (s₀ s₁ : Shared) (mg mb : Str → Option Value) (fa : Addr) (o : Obj) (pm cd doc : Value) (a : Addr) (vs : List Value) (ns : List Int),
      Ground q loose [] XP w s₀ mg mb s₁.heap → YP w s₁.heap →
      s₁.heap.get? fa = some o → o.data = .func (docDef d.name d.params d.body d.scope pm cd doc) → s₁.heap.CodeRec cd d.name → mg d.name = some (.ref fa) →
      s₁.heap.get? a = some { cls := .type "list", data := .seq vs.toArray } → IntsAre vs ns → ns.length ≤ n → s₁.gens = #[] →
      codeAny (model l.prog w) callerA (.call (.ref fa) ⟨[.ref a], []⟩) (fun r s' => r = .ok (.ret (.bool true)) ∧ OldK s₁.heap s'.heap ∧ s'.os = s₁.os ∧ AllBare s'.gens) s₁) :
    WalkO q loose XP YP l.row.toRowW d [] (fun f vs => PySem.call f vs) := by
  intro w s₀ s₁ mg mb G Y fa o pm cd doc dV kV ho hd hcd hD hmg hg args vals as hpre hlay hrd hwl hlo
  obtain rfl : dV = .none := Dflts.none hD hdf
  obtain rfl : kV = .none := Dflts.noKw hD
  obtain ⟨a, vs, ns, rfl, rfl, hobj, hints, hlen⟩ := script_of hn hpre hwl
  refine enter_call (codeAny_mono (call w s₀ s₁ mg mb fa o pm cd doc a vs ns G Y ho (fd_plain hd) hcd hmg hobj hints hlen hg) fun r s' hq => ?_)
  obtain ⟨rfl, h2, h3, h4⟩ := hq
  exact ⟨.inl ⟨.bool true, .bool true, [], rfl, fun _ => rfl, .bool true, post_true l _, fun _ => ⟨List.Pairwise.nil, fun _ hm => (nomatch hm)⟩⟩, h2, h3, h4⟩
section
variable {prog : Program} {w : World} {A : Around} {E : Value → Shared → Prop} {s : Shared} {K : Frag}
end
end Att
namespace L2
open PySem PySem.Spec PyProof.Rows
theorem vals_ints : ∀ {vs : List Value} {ns : List Int}, IntsAre vs ns → Vals (ns.map V.int) vs
  | _, _, .nil => .nil
  | _, _, .cons n t h => .cons ⟨t, rfl⟩ (vals_ints h)
def Only (H : Hp) : Prop := ∀ b, H b = none ∨ ∃ o xs, H b = some (.frz o (.lst xs))
theorem law_call {P : Program} {w : World} {K : PySem.W.Frag} {mg mb : Str → Option Value} {CX : CXT} {k : Nat} {fa a : Addr} {fd : FuncData} {x : Str} {sp : Sp} {s₁ : Shared} {vs : List Value} {ns : List Int}
    (KX : K.In s₁.heap) (hns : s₁.heap.Ns mainGlobals mg) (hb : s₁.heap.Ns builtinsNs mb) (hbb : ∀ x : Str, x ≠ "__name__" → mb x = bootBuiltins x) (hlim : s₁.heap.NoLimit) (hg : s₁.gens = #[])
    (ha : s₁.heap.get? a = some { cls := .type "list", data := .seq vs.toArray }) (hi : IntsAre vs ns) (hl : ns.length ≤ sizeLine) (hr : Room k callerA)
    (F : ∀ base : Heap, K.In base → base.Ns mainGlobals mg → FnOk P w K mg base CX k fa fd [x] sp) (hbind : ∀ (s : Shared) (u : Value), BindsTo s fd ⟨[u], []⟩ [(x, u)])
    (hsp : ∀ H : Hp, Only H → SqL K H a (ns.map V.int) → sp [.ref a] H (fun v _ => v = .bl true) fun _ _ _ => False)
    (hCX : ∀ H e s', CX [] H s₁ (fun _ _ _ => False) e s' → False) :
    codeAny (model P w) callerA (.call (.ref fa) ⟨[.ref a], []⟩) (fun r s' => r = .ok (.ret (.bool true)) ∧ OldK s₁.heap s'.heap ∧ s'.os = s₁.os ∧ AllBare s'.gens) s₁ := by
  have rv := vals_ints hi
  have lenV := hi.length
  -- from an abstract heap in which nothing but the script may be tracked
  have core : ∀ H : Hp, Only H → SqL K H a (ns.map V.int) → HOk P w H s₁.heap → (∀ b, H b ≠ none → b = a) → (H a ≠ none → K.lookup a = none) →
      codeAny (model P w) callerA (.call (.ref fa) ⟨[.ref a], []⟩) (fun r s' => r = .ok (.ret (.bool true)) ∧ OldK s₁.heap s'.heap ∧ s'.os = s₁.os ∧ AllBare s'.gens) s₁ := by
    intro H hO hS hok hA hK
    have base_of : ∀ {b : Addr} {o : Obj}, s₁.heap.get? b = some o → H b = none → (hidT s₁.heap H).get? b = some o := fun e n => hidT_get e n
    have noA : ∀ {b : Addr} {o : Obj} {es : Array DictEntry} {ep : Nat}, s₁.heap.get? b = some o → o.data = .dict es ep → H b = none := fun {b o es ep} e d => by
      cases q : H b with
      | none => rfl
      | some u =>
        have e' : b = a := hA b (by rw [q]; simp)
        subst e'
        rw [ha] at e; cases e
        have d' : Data.seq vs.toArray _ = Data.dict es ep := d
        cases d'
    have nsK : ∀ {b : Addr} {m : Str → Option Value}, s₁.heap.Ns b m → (hidT s₁.heap H).Ns b m := fun {b m} ⟨o, es, ep, e, d, r⟩ => ⟨o, es, ep, base_of e (noA e d), d, r⟩
    have hKb : K.In (hidT s₁.heap H) := fun b o e => base_of (KX b o e) (by
      cases q : H b with
      | none => rfl
      | some u =>
        have e' : b = a := hA b (by rw [q]; simp)
        subst e'
        rw [hK (by rw [q]; simp)] at e; cases e)
    have hM : Mod K mg (hidT s₁.heap H) := ⟨hKb, nsK hns, ⟨mb, nsK hb, hbb⟩, let ⟨mc, h1, h2⟩ := hlim; ⟨mc, nsK h1, h2⟩⟩
    have e0 : Env0 P w K mg (hidT s₁.heap H) callerA [] s₁ H := ⟨rfl, hM, fun b o e => of_hidT e, Nat.le_of_eq (hidT_size _ _), trivial, fun b hb => absurd (show b ∈ ([] : List Addr) from hb) (by simp), hok, .of_eq hg⟩
    refine codeAny_mono ((F _ hKb (nsK hns)).run callerA [] s₁ H ⟨[.ref a], []⟩ [.ref a] [.ref a] _ _ hr e0 (hbind s₁ (.ref a)) (.cons rfl .nil) (hsp H hO hS)) fun r s' h => ?_
    cases r with
    | error e => exact (hCX H e s' h).elim
    | ok fl =>
      cases fl with
      | next => exact False.elim h
      | brk => exact False.elim h
      | cont => exact False.elim h
      | ret u =>
        obtain ⟨v, H', os, bare, un, hok', r', q⟩ := h
        have q' : v = .bl true := q
        subst q'
        obtain rfl : u = Value.bool true := r'
        refine ⟨rfl, OldK.of_keep fun b o e => ?_, os, bare⟩
        cases q : H b with
        | none => exact un.keep b o e q (by intro z; exact absurd (show b ∈ ([] : List Addr) from z) (by simp)) (by simp)
        | some u =>
          rcases hO b with z | ⟨ob, xs, z⟩
          · rw [q] at z; cases z
          · have z2 := un.frzs b ob _ z
            obtain ⟨e1, _⟩ := hok b _ z
            obtain ⟨e2, _⟩ := hok' b _ z2
            rw [e] at e1; cases e1
            exact e2
  cases hk : K.lookup a with
  | some o =>
    -- the script is one of the module's own objects
    have e := KX a o hk
    rw [ha] at e
    cases e
    refine core (fun _ => none) (fun _ => .inl rfl) (.inr ⟨_, vs.toArray, _, hk, rfl, rfl, rfl, by rw [List.size_toArray, lenV]; exact hl, by simpa using rv⟩) (fun b u z => by have z' : (none : Option HO) = some u := z; cases z') (fun b z => absurd rfl z) fun z => absurd rfl z
  | none =>
    refine core (fun b => if b = a then some (.frz { cls := .type "list", data := .seq vs.toArray } (.lst (ns.map V.int))) else none) (fun b => ?_) (.inl (.inr ⟨{ cls := .type "list", data := .seq vs.toArray }, if_pos rfl⟩)) (fun b u z => ?_) (fun b z => ?_) fun _ => hk
    · by_cases hb : b = a
      · exact .inr ⟨_, _, if_pos hb⟩
      · exact .inl (if_neg hb)
    · by_cases hb : b = a
      · have z' := (if_pos hb).symm.trans z
        cases z'
        subst hb
        exact ⟨ha, by rw [List.length_map]; exact hl, vs, _, rv, ha⟩
      · have z' := (if_neg hb).symm.trans z
        cases z'
    · by_cases hb : b = a
      · exact hb
      · exact absurd (if_neg hb) z
end L2
namespace L2
open PySem PySem.Spec PyProof.Rows
theorem walk_of {l : PySem.W.OpenLaw} {n k : Nat} {q : Program} {loose : List Str} {XP : (Str → Option Value) → Heap → Prop} {YP : World → Heap → Prop} {d : DefRec} {K : Params → PySem.W.Frag} {CX : World → CXT} {sp : World → Sp} {x : Str}
    (hn : l.most = some n) (hn2 : n ≤ sizeLine) (hdf : d.params.defaults = []) (hr : Room k callerA)
    (hY : ∀ (w : World) (h : Heap), YP w h → (K w.params).In h)
    (F : ∀ (w : World) (mg : Str → Option Value) (fa : Addr) (h : Heap), (K w.params).In h → h.Ns mainGlobals mg → mg d.name = some (.ref fa) →
      ∃ fd : FuncData, (∀ (s : Shared) (u : Value), BindsTo s fd ⟨[u], []⟩ [(x, u)]) ∧
        ∀ base : Heap, (K w.params).In base → base.Ns mainGlobals mg → FnOk l.prog w (K w.params) mg base (CX w) k fa fd [x] (sp w))
    (hsp : ∀ (w : World) (H : Hp) (a : Addr) (ns : List Int), ns.length ≤ n → Only H → SqL (K w.params) H a (ns.map V.int) → sp w [.ref a] H (fun v _ => v = .bl true) fun _ _ _ => False)
    (hCX : ∀ (w : World) (H : Hp) (s : Shared) (e : Value) (s' : Shared), CX w [] H s (fun _ _ _ => False) e s' → False) :
    PySem.W.WalkO q loose XP YP l.row.toRowW d [] (fun f vs => PySem.call f vs) := by
  refine Att.attach_call hn hdf fun w s₀ s₁ mg mb fa o pm cd doc a vs ns G Y ho hd hcd hmg hobj hints hlen hg => ?_
  have KX := hY w _ Y
  obtain ⟨fd, hb, hF⟩ := F w mg fa _ KX G.T.g hmg
  exact law_call KX G.T.g G.T.b G.T.builtins G.T.nolimit hg hobj hints (Nat.le_trans hlen hn2) hr hF hb (fun H hO hS => hsp w H a ns hlen hO hS) fun H e s' => hCX w H s₁ e s'
end L2
namespace L2
open PySem PySem.Spec PyProof.Rows
def defArgs (s : Stmt) : Arguments := match s with
  | .FunctionDef _ a _ _ _ _ _ _ _ _ => a
  | _ => { posonlyargs := [], args := [], vararg := none, kwonlyargs := [], kw_defaults := [], kwarg := none, defaults := [] }
def defBody (s : Stmt) : List Stmt := match s with
  | .FunctionDef _ _ b _ _ _ _ _ _ _ => b
  | _ => []
def defScope (s : Stmt) : Scope := match s with
  | .FunctionDef _ _ _ _ _ _ sc _ _ _ => sc
  | _ => { kind := .function, names := [], isGenerator := false, isCoroutine := false }
abbrev CX0 : CXT := fun _ _ _ _ _ _ => False
abbrev E0 : XK := fun _ _ _ => False
theorem pass0 {X : Cx} : Passes CX0 X E0 := fun _ _ _ _ _ _ _ h => h.elim
structure Fun (K : PySem.W.Frag) (x qual : Str) (st : Stmt) (f : Addr) (fd : FuncData) : Prop where
  ex : ∃ (oc : Value) (od : Option Addr) (kV doc pm : Value) (an : Option Addr) (cdv ct : Value) (osl : Array (Option Value)),
    fd = PySem.W.fnOf x qual (defArgs st) (defBody st) (defScope st) .none kV doc pm an cdv ct ∧ K.lookup f = some ⟨oc, od, .func fd, osl⟩ ∧ PySem.W.codeIn K cdv qual = true
  kp : PySem.W.keepIn K (.ref f) = true
section
variable {P : Program} {w : World} {K : PySem.W.Frag} {mg : Str → Option Value} {base : Heap}
theorem Fun.ok {x qual : Str} {st : Stmt} {f : Addr} {fd : FuncData} {N ps : List Str} {k : Nat} {sp : Sp} (F : Fun K x qual st f fd) (S : FnScope N ps (defScope st)) (len : ∀ vs H Q E, sp vs H Q E → vs.length = ps.length)
    (hbody : ∀ (cdv : Value) (A : Around) (outer : List Env) (s : Shared) (H : Hp) (vs : List V) (Q : VK) (E : XK), Room k (A.deeper (envOfC qual (defScope st) s.heap.objs.size f cdv)) → sp vs H Q E →
      ∃ t, PSs (cxOf CX0 P w K mg base N qual (defScope st) f cdv A outer s H E).nox (defBody st) t ∧ t { nx := fun _ H' => Q .non H', rt := Q } (start N vs) H) : FnOk P w K mg base CX0 (k + 1) f fd ps sp := by
  obtain ⟨oc, od, kV, doc, pm, an, cdv, ct, osl, rfl, lk, hcd⟩ := F.ex
  refine fn_of lk hcd S len fun A outer s H vs Q E hr hsp => ?_
  obtain ⟨t, h, q⟩ := hbody cdv A outer s H vs Q E hr hsp
  exact ⟨t, h.nox, q⟩
theorem Fun.binds {x qual : Str} {st : Stmt} {f : Addr} {fd : FuncData} {ps : List Str} (F : Fun K x qual st f fd)
    (h : ∀ (kV doc pm : Value) (an : Option Addr) (cdv ct : Value) (us : List Value), us.length = ps.length → bindArgs (PySem.W.fnOf x qual (defArgs st) (defBody st) (defScope st) .none kV doc pm an cdv ct) ⟨us, []⟩ = pure (ps.zip us)) : Binds K fd ps [] := by
  obtain ⟨oc, od, kV, doc, pm, an, cdv, ct, osl, rfl, lk, hcd⟩ := F.ex
  exact .all (h kV doc pm an cdv ct)
theorem fun_mk {x qual : Str} {st : Stmt} {f : Addr} {oc : Value} {od an : Option Addr} {osl : Array (Option Value)} {kV doc pm cdv ct : Value} (l : K.lookup f = some ⟨oc, od, .func (PySem.W.fnOf x qual (defArgs st) (defBody st) (defScope st) .none kV doc pm an cdv ct), osl⟩)
    (c : PySem.W.codeIn K cdv qual = true) (k : PySem.W.keepIn K (.ref f) = true) : Fun K x qual st f (PySem.W.fnOf x qual (defArgs st) (defBody st) (defScope st) .none kV doc pm an cdv ct) := ⟨⟨oc, od, kV, doc, pm, an, cdv, ct, osl, rfl, l, c⟩, k⟩
end
theorem hu_of {A : Around} {k : Nat} (hr : Room k A) : A.units + 1 < cLine := Nat.lt_of_le_of_lt (Nat.add_le_add_left (by decide : 1 ≤ 64) _) hr.units
section
variable {X : Cx}
theorem pv (i : Nat) {x : Str} {pos : Pos} (hN : X.N[i]? = some x := by rfl) (hv : Vis X.env.scope x := by first | exact Or.inl rfl | exact Or.inr (Or.inl rfl) | exact Or.inr (Or.inr rfl)) (hd : (x == ("__debug__" : Str)) = false := by decide)
    (hcd : (x == ("__classdict__" : Str)) = false := by decide) : PE X (.Name x pos) (tVar i) := pe_var hN hv hd hcd
end
theorem iteF {A B : Prop} (h : B) : if false = true then A else B := by
  rw [if_neg Bool.false_ne_true]
  exact h
theorem iteT {A B : Prop} (h : A) : if true = true then A else B := by
  rw [if_pos rfl]
  exact h
theorem ite2 {c A B : Prop} [Decidable c] (h1 : c → A) (h2 : ¬ c → B) : if c then A else B := by
  by_cases h : c
  · rw [if_pos h]
    exact h1 h
  · rw [if_neg h]
    exact h2 h
def Same (H H' : Hp) : Prop := ∀ b o, H b = some o → H' b = some o
theorem Same.refl (H : Hp) : Same H H := fun _ _ h => h
theorem Same.trans {H H1 H2 : Hp} (a : Same H H1) (b : Same H1 H2) : Same H H2 := fun c o h => b c o (a c o h)
theorem Same.free {H H' : Hp} (e : Same H H') {l : Addr} (h : H' l = Option.none) : H l = Option.none := by
  cases q : H l with
  | none => rfl
  | some o =>
    rw [e l o q] at h
    cases h
theorem Same.seq {K : PySem.W.Frag} {H H' : Hp} {a : Addr} {xs : List V} (e : Same H H') (h : SqL K H a xs) : SqL K H' a xs := by
  rcases h with (h | ⟨o, h⟩) | h
  · exact .inl (.inl (e _ _ h))
  · exact .inl (.inr ⟨o, e _ _ h⟩)
  · exact .inr h
end L2
namespace L2
open PySem PySem.Spec PyProof.Rows
section
variable {κ : Type} [DecidableEq κ]
def valV (kvs : List (κ × V)) (k : κ) : Option V := (kvs.find? fun kv => decide (kv.1 = k)).map (·.2)
def putK (kvs : List (κ × V)) (k : κ) (v : V) : List (κ × V) :=
  if (kvs.any fun kv => decide (kv.1 = k)) = true then kvs.map (fun kv => if kv.1 = k then (kv.1, v) else kv) else kvs ++ [(k, v)]
def dropK (kvs : List (κ × V)) (k : κ) : List (κ × V) := kvs.filter fun kv => decide (kv.1 ≠ k)
theorem valV_pos {p : κ × V} {r : List (κ × V)} {k : κ} (e : p.1 = k) : valV (p :: r) k = some p.2 := by simp [valV, List.find?_cons, e]
theorem valV_neg {p : κ × V} {r : List (κ × V)} {k : κ} (e : ¬ p.1 = k) : valV (p :: r) k = valV r k := by simp [valV, List.find?_cons, e]
theorem valV_any (k : κ) : ∀ kvs : List (κ × V), (kvs.any fun kv => decide (kv.1 = k)) = (valV kvs k).isSome
  | [] => rfl
  | p :: r => by
    rw [List.any_cons]
    by_cases e : p.1 = k
    · simp only [valV_pos e, decide_eq_true e, Bool.true_or, Option.isSome_some]
    · rw [valV_neg e, decide_eq_false e, Bool.false_or]; exact valV_any k r
theorem valV_map (k j : κ) (y : V) : ∀ kvs : List (κ × V), valV (kvs.map fun kv => if kv.1 = k then (kv.1, y) else kv) j = (valV kvs j).map fun x => if j = k then y else x
  | [] => rfl
  | p :: r => by
    have ih := valV_map k j y r
    rw [List.map_cons]
    by_cases h : p.1 = k
    · rw [if_pos h]
      by_cases e : p.1 = j
      · rw [valV_pos (p := (p.1, y)) e, valV_pos e, Option.map_some, if_pos (e.symm.trans h)]
      · rw [valV_neg (p := (p.1, y)) e, valV_neg e, ih]
    · rw [if_neg h]
      by_cases e : p.1 = j
      · rw [valV_pos (p := p) e, valV_pos e, Option.map_some, if_neg (fun z => h (e.trans z))]
      · rw [valV_neg (p := p) e, valV_neg e, ih]
theorem valV_snoc (k j : κ) (y : V) : ∀ kvs : List (κ × V), valV kvs k = none → valV (kvs ++ [(k, y)]) j = if j = k then some y else valV kvs j
  | [], _ => by
    by_cases e : k = j
    · rw [if_pos e.symm]; exact valV_pos (p := (k, y)) e
    · rw [if_neg (fun z => e z.symm)]; exact valV_neg (p := (k, y)) e
  | p :: r, hn => by
    rw [List.cons_append]
    have hk : ¬ p.1 = k := fun z => by rw [valV_pos z] at hn; cases hn
    rw [valV_neg hk] at hn
    have ih := valV_snoc k j y r hn
    by_cases e : p.1 = j
    · rw [valV_pos e, valV_pos e, if_neg (fun z => hk (e.trans z))]
    · rw [valV_neg e, valV_neg e, ih]
theorem valV_put (kvs : List (κ × V)) (k j : κ) (y : V) : valV (putK kvs k y) j = if j = k then some y else valV kvs j := by
  unfold putK
  by_cases a : (kvs.any fun kv => decide (kv.1 = k)) = true
  · rw [if_pos a, valV_map]
    rw [valV_any] at a
    by_cases e : j = k
    · obtain ⟨x, hx⟩ := Option.isSome_iff_exists.mp a
      rw [if_pos e, e, hx, Option.map_some, if_pos rfl]
    · rw [if_neg e]
      cases valV kvs j with
      | none => rfl
      | some x => rw [Option.map_some, if_neg e]
  · rw [if_neg a]
    refine valV_snoc k j y kvs ?_
    rw [valV_any] at a
    cases q : valV kvs k with
    | none => rfl
    | some x => rw [q] at a; exact (a rfl).elim
theorem length_putK (kvs : List (κ × V)) (k : κ) (v : V) : (putK kvs k v).length ≤ kvs.length + 1 := by
  unfold putK
  split
  · rw [List.length_map]; omega
  · rw [List.length_append, List.length_cons, List.length_nil]; omega
theorem RelO.isSome_eq {o : Option V} {u : Option Value} (r : RelO o u) : o.isSome = u.isSome := by
  cases o with
  | none => cases u with
    | none => rfl
    | some _ => exact (show False from r).elim
  | some _ => cases u with
    | none => exact (show False from r).elim
    | some _ => rfl
theorem RelO.getD {o : Option V} {u : Option Value} {d : V} {d' : Value} (r : RelO o u) (rd : RelV d d') : RelV (o.getD d) (u.getD d') := by
  cases o with
  | none => cases u with
    | none => exact rd
    | some _ => exact (show False from r).elim
  | some _ => cases u with
    | none => exact (show False from r).elim
    | some _ => exact r
theorem KV.val {kvs : List (κ × V)} {vs : List (κ × Value)} (r : KV kvs vs) (k : κ) : RelO (valV kvs k) (valueAt vs k) := by
  unfold KV at r
  induction r with
  | nil => exact True.intro
  | @cons p q ps qs h t ih =>
    obtain ⟨h1, h2⟩ := h
    by_cases e : p.1 = k
    · have e' : q.1 = k := h1.symm.trans e
      have b : valueAt (q :: qs) k = some q.2 := by simp [valueAt, List.find?_cons, e']
      rw [valV_pos e, b]; exact h2
    · have e' : ¬ q.1 = k := fun z => e (h1.trans z)
      have b : valueAt (q :: qs) k = valueAt qs k := by simp [valueAt, List.find?_cons, e']
      rw [valV_neg e, b]; exact ih
theorem KV.any {kvs : List (κ × V)} {vs : List (κ × Value)} (r : KV kvs vs) (k : κ) : (kvs.any fun kv => decide (kv.1 = k)) = vs.any fun kv => decide (kv.1 = k) := by
  unfold KV at r
  induction r with
  | nil => rfl
  | cons h t ih => rw [List.any_cons, List.any_cons, ih, h.1]
theorem KV.repl {kvs : List (κ × V)} {vs : List (κ × Value)} (r : KV kvs vs) (k : κ) {y : V} {u : Value} (ry : RelV y u) :
    KV (kvs.map fun kv => if kv.1 = k then (kv.1, y) else kv) (vs.map fun kv => if kv.1 = k then (kv.1, u) else kv) := by
  unfold KV at r ⊢
  induction r with
  | nil => exact .nil
  | @cons p q ps qs h t ih =>
    rw [List.map_cons, List.map_cons]
    refine .cons ?_ ih
    obtain ⟨h1, h2⟩ := h
    by_cases e : p.1 = k
    · rw [if_pos e, if_pos (h1.symm.trans e)]; exact ⟨h1, ry⟩
    · rw [if_neg e, if_neg (fun z => e (h1.trans z))]; exact ⟨h1, h2⟩
theorem KV.put {kvs : List (κ × V)} {vs : List (κ × Value)} (r : KV kvs vs) (k : κ) {y : V} {u : Value} (ry : RelV y u) : KV (putK kvs k y) (stored vs k u) := by
  unfold putK stored
  rw [r.any k]
  by_cases e : (vs.any fun kv => decide (kv.1 = k)) = true
  · rw [if_pos e, if_pos e]; exact r.repl k ry
  · rw [if_neg e, if_neg e]; exact Paired.snoc r ⟨rfl, ry⟩
theorem KV.drop {kvs : List (κ × V)} {vs : List (κ × Value)} (r : KV kvs vs) (k : κ) : KV (dropK kvs k) (without vs k) := by
  unfold KV at r ⊢
  unfold dropK without
  induction r with
  | nil => exact .nil
  | @cons p q ps qs h t ih =>
    obtain ⟨h1, h2⟩ := h
    rw [List.filter_cons, List.filter_cons]
    by_cases e : p.1 = k
    · have a : ¬ decide (p.1 ≠ k) = true := by simp [e]
      have b : ¬ decide (q.1 ≠ k) = true := by simp [h1.symm.trans e]
      rw [if_neg a, if_neg b]; exact ih
    · have e' : ¬ q.1 = k := fun z => e (h1.trans z)
      have a : decide (p.1 ≠ k) = true := by simp [e]
      have b : decide (q.1 ≠ k) = true := by simp [e']
      rw [if_pos a, if_pos b]; exact .cons ⟨h1, h2⟩ ih
theorem KV.keys {kvs : List (κ × V)} {vs : List (κ × Value)} (r : KV kvs vs) : kvs.map (·.1) = vs.map (·.1) := by
  unfold KV at r
  induction r with
  | nil => rfl
  | cons h t ih => rw [List.map_cons, List.map_cons, ih, h.1]
theorem KV.length {kvs : List (κ × V)} {vs : List (κ × Value)} (r : KV kvs vs) : kvs.length = vs.length := Paired.length r
end
theorem kV_is {P : Program} {w : World} {k : Key} {u : Value} (r : RelV (kV k) u) : (mixKind P w).is k u = true := by
  cases k with
  | inl i => obtain ⟨t, e⟩ := (show ∃ t, u = Value.int i t from r); subst e; exact mixKind_int P w i t
  | inr x => obtain ⟨t, e⟩ := (show ∃ t, u = Value.str x t from r); subst e; exact mixKind_str P w x t
theorem items_are {P : Program} {w : World} : ∀ {ks : List Key} {us : List Value}, Vals (ks.map kV) us → ItemsAre (mixKind P w) ks us
  | [], _, r => by rw [List.map_nil] at r; cases r; exact .nil
  | k :: ks, _, r => by
    rw [List.map_cons] at r
    cases r with
    | cons h t => exact .cons (kV_is h) (items_are t)
abbrev KT (H : Hp) : List (List Key × V) → List (List Key × Addr × Value) → Prop := Paired fun p q => p.1 = q.1 ∧ H q.2.1 = some (.tup (p.1.map kV)) ∧ RelV p.2 q.2.2
theorem KT.val {H : Hp} {kvs : List (List Key × V)} {xs : List (List Key × Addr × Value)} (r : KT H kvs xs) (k : List Key) : RelO (valV kvs k) ((atKey xs k).map (·.2)) := by
  induction r with
  | nil => exact True.intro
  | @cons p q ps qs h t ih =>
    obtain ⟨h1, _, h2⟩ := h
    by_cases e : p.1 = k
    · have e' : q.1 = k := h1.symm.trans e
      have b : atKey (q :: qs) k = some q.2 := by simp [atKey, List.find?_cons, e']
      rw [valV_pos e, b]; exact h2
    · have e' : ¬ q.1 = k := fun z => e (h1.trans z)
      have b : atKey (q :: qs) k = atKey qs k := by simp [atKey, List.find?_cons, e']
      rw [valV_neg e, b]; exact ih
theorem KT.repl {H : Hp} {kvs : List (List Key × V)} {xs : List (List Key × Addr × Value)} (r : KT H kvs xs) (k : List Key) {y : V} {u : Value} (ry : RelV y u) :
    KT H (kvs.map fun kv => if kv.1 = k then (kv.1, y) else kv) (xs.map (putAt k u)) := by
  induction r with
  | nil => exact .nil
  | @cons p q ps qs h t ih =>
    rw [List.map_cons, List.map_cons]
    refine .cons ?_ ih
    obtain ⟨h1, h2, h3⟩ := h
    unfold putAt
    by_cases e : p.1 = k
    · rw [if_pos e, if_pos (h1.symm.trans e)]; exact ⟨h1, h2, ry⟩
    · rw [if_neg e, if_neg (fun z => e (h1.trans z))]; exact ⟨h1, h2, h3⟩
theorem KT.put {H : Hp} {kvs : List (List Key × V)} {xs : List (List Key × Addr × Value)} (r : KT H kvs xs) (k : List Key) {b : Addr} {y : V} {u : Value} (hb : H b = some (.tup (k.map kV))) (ry : RelV y u) :
    KT H (putK kvs k y) (storedH xs k b u) := by
  have e : (kvs.any fun kv => decide (kv.1 = k)) = (atKey xs k).isSome := by
    rw [valV_any, (r.val k).isSome_eq, Option.isSome_map]
  unfold putK storedH
  rw [e]
  by_cases q : (atKey xs k).isSome = true
  · rw [if_pos q, if_pos q]; exact r.repl k ry
  · rw [if_neg q, if_neg q]; exact Paired.snoc r ⟨rfl, hb, ry⟩
theorem KT.keeps {H H' : Hp} {kvs : List (List Key × V)} {xs : List (List Key × Addr × Value)} (r : KT H kvs xs) (ht : ∀ b ys, H b = some (.tup ys) → H' b = some (.tup ys)) : KT H' kvs xs :=
  Paired.mapP r fun _ _ z => ⟨z.1, ht _ _ z.2.1, z.2.2⟩
section
variable {P : Program} {w : World} {H : Hp} {h : Heap} {a : Addr}
theorem rd_of {u : HO} (ok : HOk P w H h) (e : Rd H a u) : ObjOk P w H h a u := e.ok ok
theorem dk_rd {kvs : List (Key × V)} (ok : HOk P w H h) (e : Rd H a (.dK kvs)) : kvs.length ≤ sizeLine ∧ (a == sysModules) = false ∧ ∃ vs, KV kvs vs ∧ h.DictOf (mixKind P w) a vs :=
  show ObjOk P w H h a (.dK kvs) from rd_of ok e
theorem dk_of {kvs : List (Key × V)} (ok : HOk P w H h) (e : H a = some (.dK kvs)) : kvs.length ≤ sizeLine ∧ (a == sysModules) = false ∧ ∃ vs, KV kvs vs ∧ h.DictOf (mixKind P w) a vs := dk_rd ok (.inl e)
theorem key_of {ks : List Key} (ok : HOk P w H h) (e : H a = some (.tup (ks.map kV))) : (tupleKind (mixKind P w)).is h ks a := by
  obtain ⟨_, its, r, ⟨o, h1, h2, n, h3⟩, _⟩ := (show ObjOk P w H h a (.tup (ks.map kV)) from ok a _ e)
  exact ⟨o, its.toArray, n, h1, h2, h3, by simpa using items_are r⟩
theorem dt_rd {kvs : List (List Key × V)} (ok : HOk P w H h) (e : Rd H a (.dT kvs)) : kvs.length ≤ sizeLine ∧ (a == sysModules) = false ∧
    ∃ xs, KT H kvs xs ∧ h.DictOfH (tupleKind (mixKind P w)) a xs := by
  obtain ⟨z, y, xs, r, o, es, ep, h1, h2, h3, h4, h5⟩ := (show ObjOk P w H h a (.dT kvs) from rd_of ok e)
  refine ⟨z, y, xs, r, o, es, ep, h1, h2, h3, h4, fun x hx => ?_, h5⟩
  have all : ∀ {l : List (List Key × V)} {m : List (List Key × Addr × Value)}, KT H l m → ∀ x ∈ m, (tupleKind (mixKind P w)).is h x.1 x.2.1 := by
    intro l m q
    induction q with
    | nil => intro x hx; exact nomatch hx
    | @cons p q ps qs hq t ih =>
      intro x hx
      rcases List.mem_cons.mp hx with e | hx
      · subst e
        exact key_of ok (by rw [← hq.1]; exact hq.2.1)
      · exact ih x hx
  exact all r x hx
theorem dt_of {kvs : List (List Key × V)} (ok : HOk P w H h) (e : H a = some (.dT kvs)) : kvs.length ≤ sizeLine ∧ (a == sysModules) = false ∧
    ∃ xs, KT H kvs xs ∧ h.DictOfH (tupleKind (mixKind P w)) a xs := dt_rd ok (.inl e)
end
def DGet (H : Hp) (a : Addr) (y : V) (r : Option V) : Prop :=
  (∃ kvs k, Rd H a (.dK kvs) ∧ y = kV k ∧ r = valV kvs k) ∨ ∃ kvs k b, Rd H a (.dT kvs) ∧ y = .ref b ∧ H b = some (.tup (k.map kV)) ∧ r = valV kvs k
def DPut (H : Hp) (a : Addr) (y v : V) (H' : Hp) : Prop :=
  (∃ kvs k, H a = some (.dK kvs) ∧ y = kV k ∧ kvs.length < sizeLine ∧ H' = upd H a (.dK (putK kvs k v))) ∨
  ∃ kvs k b, H a = some (.dT kvs) ∧ y = .ref b ∧ H b = some (.tup (k.map kV)) ∧ kvs.length < sizeLine ∧ H' = upd H a (.dT (putK kvs k v))
theorem DGet.k {H : Hp} {a : Addr} {kvs : List (Key × V)} {k : Key} (e : H a = some (.dK kvs)) : DGet H a (kV k) (valV kvs k) := .inl ⟨kvs, k, .inl e, rfl, rfl⟩
theorem DGet.t {H : Hp} {a b : Addr} {kvs : List (List Key × V)} {k : List Key} (e : H a = some (.dT kvs)) (eb : H b = some (.tup (k.map kV))) : DGet H a (.ref b) (valV kvs k) := .inr ⟨kvs, k, b, .inl e, rfl, eb, rfl⟩
theorem DPut.k {H : Hp} {a : Addr} {kvs : List (Key × V)} {k : Key} {v : V} (e : H a = some (.dK kvs)) (hl : kvs.length < sizeLine) : DPut H a (kV k) v (upd H a (.dK (putK kvs k v))) := .inl ⟨kvs, k, e, rfl, hl, rfl⟩
theorem DPut.t {H : Hp} {a b : Addr} {kvs : List (List Key × V)} {k : List Key} {v : V} (e : H a = some (.dT kvs)) (eb : H b = some (.tup (k.map kV))) (hl : kvs.length < sizeLine) :
    DPut H a (.ref b) v (upd H a (.dT (putK kvs k v))) := .inr ⟨kvs, k, b, e, rfl, eb, hl, rfl⟩
section
variable {X : Cx} {pins : List (Addr × Obj)} {σ : St} {H : Hp} {s : Shared} {a : Addr} {y v : V} {u r : Value} {o : Option V} {A : Around} {E : Value → Shared → Prop}
theorem Inv.big (I : Inv X pins σ H s) : sysModules < s.heap.objs.size := by
  have h : mainGlobals < s.heap.objs.size := (I.mod.glob.keeps I.bk).lt
  exact Nat.lt_trans (by decide) h
theorem d_in {Q : Value → Shared → Prop} (hu : A.units + 1 < cLine) (I : Inv X pins σ H s) (g : DGet H a y o) (ry : RelV y u) (h : ∀ s', Inv X pins σ H s' → Q (.bool o.isSome) s') :
    wpAny (model X.prog X.w) A (compareOp .In u (.ref a)) Q E s := by
  rcases g with ⟨kvs, k, e, ey, l⟩ | ⟨kvs, k, b, e, ey, eb, l⟩
  · subst ey
    obtain ⟨z, hd, vs, rel, dd⟩ := dk_rd I.hok e
    refine wpAny_in_of (kV_is ry) hd dd.mapOf ?_
    rw [← (rel.val k).isSome_eq, ← l]
    exact h _ (I.tok _)
  · subst ey
    cases (show u = Value.ref b from ry)
    obtain ⟨z, hd, xs, rel, dd⟩ := dt_rd I.hok e
    refine wpAny_in_heap (tupleKind_room_in1 hu) (key_of I.hok eb) hd dd ?_
    have q := (rel.val k).isSome_eq
    rw [Option.isSome_map] at q
    rw [← q, ← l]
    exact h _ (I.tok _)
theorem d_write {h' : Heap} {t' : Nat} {ob : HO} (I : Inv X pins σ H s) (mu : Mut (H a)) (hs : Heap.SameBut a s.heap h') (he : ∃ q, h'.get? a = some q) (new : ObjOk X.prog X.w (upd H a ob) h' a ob) :
    Inv X pins σ (upd H a ob) { s with heap := h', toks := t' } :=
  I.write (x := a) (e := a) mu (.inl rfl) (fun b q hb z => (hs.2 b hb).trans z) he new
theorem dk_new {P : Program} {w : World} {H' : Hp} {h' : Heap} {kvs : List (Key × V)} {vs : List (Key × Value)} (z : kvs.length ≤ sizeLine) (hd : (a == sysModules) = false) (rel : KV kvs vs) (dd : h'.DictOf (mixKind P w) a vs) :
    ObjOk P w H' h' a (.dK kvs) := ⟨z, hd, vs, rel, dd⟩
theorem d_setItem {H' : Hp} {Q : Unit → Shared → Prop} (hu : A.units + 1 < cLine) (I : Inv X pins σ H s) (g : DPut H a y v H') (ry : RelV y u) (rv : RelV v r) (h : ∀ s', Inv X pins σ H' s' → Q () s') :
    wpAny (model X.prog X.w) A (setItem (.ref a) u r) Q E s := by
  rcases g with ⟨kvs, k, e, ey, l, eH⟩ | ⟨kvs, k, b, e, ey, eb, l, eH⟩
  · subst ey eH
    obtain ⟨z, hd, vs, rel, dd⟩ := dk_of I.hok e
    have hz : vs.length ≤ sizeLine := by rw [← rel.length]; exact z
    have hl : (putK kvs k v).length ≤ sizeLine := by have := length_putK kvs k v; omega
    refine wpAny_setItem_pairs (hsz := hz) (kV_is ry) dd fun h' dd' hs => h _ ?_
    have he : ∃ q, h'.get? a = some q := let ⟨q, _, _, hq, _⟩ := dd'; ⟨q, hq⟩
    exact d_write I (by rw [e]; exact True.intro) hs he (dk_new hl hd (rel.put k rv) dd')
  · subst ey eH
    cases (show u = Value.ref b from ry)
    obtain ⟨z, hd, xs, rel, dd⟩ := dt_of I.hok e
    have hz : xs.length ≤ sizeLine := by rw [← Paired.length rel]; exact z
    have hl : (putK kvs k v).length ≤ sizeLine := by have := length_putK kvs k v; omega
    refine wpAny_setItem_heap (hsz := hz) (tupleKind_room_in1 hu) (key_of I.hok eb) dd fun h' dd' hs => h _ ?_
    obtain ⟨q, es, ep, hq, h2, h3, h4, _, h5⟩ := dd'
    refine d_write I (by rw [e]; exact True.intro) hs ⟨q, hq⟩ ⟨hl, hd, _, (rel.put k eb rv).keeps fun c ys ec => ?_, q, es, ep, hq, h2, h3, h4, h5⟩
    rw [upd_ne (ne_of ec e (fun z => nomatch z))]
    exact ec
end
section
variable {X : Cx} {pins : List (Addr × Obj)} {σ : St} {H : Hp} {s : Shared} {a : Addr} {kvs : List (Key × V)} {k : Key} {u : Value} {A : Around} {E : Value → Shared → Prop}
end
def tDIn (ty td : TE) : TE := fun σ H Q => ty σ H fun y H1 => td σ H1 fun x H2 => ∃ a o, x = .ref a ∧ DGet H2 a y o ∧ Q (.bl o.isSome) H2
def sDPut (td ty tv : TE) : TS := fun D σ H => tv σ H fun v H1 => td σ H1 fun x H2 => ty σ H2 fun y H3 => ∃ a H4, x = .ref a ∧ DPut H3 a y v H4 ∧ D.nx σ H4
section
variable {X : Cx} {o i e value : Expr} {pos pos' tpos : Pos} {td ty tv : TE}
theorem pc_din (hu : X.A.units + 1 < cLine) (hi : PE X i ty) (ho : PE X o td) : PC X .In i o (tDIn ty td) := by
  intro pins s σ H Q I h
  refine thn (hi pins s σ H _ I h) fun iv s1 ⟨y, H1, I1, ry, q1⟩ => thn (ho pins s1 σ H1 _ I1 q1) fun u s2 ⟨x, H2, I2, rx, a, ov, ex, g, q2⟩ => ?_
  subst ex
  obtain rfl : u = Value.ref a := rx
  exact d_in hu I2 g ry fun s3 I3 => ⟨.bl ov.isSome, H2, I3, rfl, q2⟩
theorem ps_dput (hu : X.A.units + 1 < cLine) (ho : PE X o td) (hi : PE X i ty) (hv : PE X value tv) (hs : swapsWith value (some (.Subscript o i pos')) pos.line X.env = pure false) :
    PS X (.Assign [.Subscript o i pos'] value pos) (sDPut td ty tv) := by
  intro pins s σ H D I h
  refine wpAny_Assign_Subscript (thn (hv pins s σ H _ I h) fun r s1 ⟨v, H1, I1, rv, q1⟩ => thn (ho pins s1 σ H1 _ I1 q1) fun u s2 ⟨x, H2, I2, rx, q2⟩ => thn (hi pins s2 σ H2 _ I2 q2) fun iv s3 ⟨y, H3, I3, ry, a, H4, ex, g, q3⟩ => ?_) hs
  subst ex
  obtain rfl : u = Value.ref a := rx
  exact d_setItem hu I3 g ry rv fun s4 I4 => ⟨σ, H4, I4, q3⟩
end
theorem dt_empty {P : Program} {w : World} {H : Hp} (h : Heap) (hb : sysModules < h.objs.size) : ObjOk P w H (h.push { cls := .type "dict", data := .dict #[] }) h.objs.size (.dT []) :=
  ⟨Nat.zero_le _, beq_eq_false_iff_ne.mpr (Ne.symm (Nat.ne_of_lt hb)), [], .nil, _, #[], 0, Heap.get?_push_size _ rfl, ⟨rfl, rfl, rfl⟩, rfl, rfl, List.nodup_nil⟩
def tDNewT : TE := fun _ H Q => ∀ p, H p = none → Q (.ref p) (upd H p (.dT []))
section
variable {X : Cx} {pos : Pos}
theorem pe_dnewT : PE X (.Dict [] [] pos) tDNewT := fun pins s σ H Q I h =>
  wpAny_Dict_empty ⟨.ref s.heap.objs.size, _, I.laid (a := s.heap.objs.size) (o := .dT []) (t' := s.toks) (fun _ _ q => Heap.get?_push_of_some _ q) (Nat.le_refl _) (dt_empty s.heap I.big), rfl, h _ (I.hok.fresh (Nat.le_refl _))⟩
end
section
variable {X : Cx} {pins : List (Addr × Obj)} {σ : St} {H : Hp} {s : Shared} {a : Addr} {y d : V} {u r : Value} {o : Option V} {A : Around} {E : Value → Shared → Prop}
end
section
variable {X : Cx} {o e f : Expr} {apos cpos : Pos} {td ty tx : TE}
end
section
variable {X : Cx} {pins : List (Addr × Obj)} {σ : St} {H : Hp} {s : Shared} {a : Addr} {kvs : List (Key × V)} {A : Around} {E : Value → Shared → Prop}
end
section
variable {X : Cx} {pins : List (Addr × Obj)} {σ : St} {H : Hp} {s : Shared} {a : Addr} {y : V} {u : Value} {A : Around} {E : Value → Shared → Prop}
end
end L2
set_option maxHeartbeats 4000000
namespace L2
open PySem
end L2
namespace L2
open PySem PySem.Spec PyProof.Rows
def cxComp (X : Cx) (scope : Scope) (x : Str) (C : Addr) (s : Shared) (H : Hp) (fp : List Addr) : Cx :=
  { X with
    N := [x]
    s₀ := s
    H₀ := H
    env := { scope := scope, locals := C, globals := X.env.globals, cells := [], qual := X.env.qual, func := none, code := X.env.code, frame := X.env.frame, builtins := X.env.builtins }
    outer := X.stack
    stack := X.stack
    ex := fp
    fn := fun _ => true
    pn := []
    xe := fun _ _ => False }
def tComp (wi : TI) (te : TE) : TE := fun σ H Q => wi σ H fun J H1 => ∀ D, H1 D = none → ∃ W : Nat → Nat → List V → Hp → Prop,
  (∃ m, W 0 m [] (upd H1 D (.lst []))) ∧ ∀ i m ys H2, W i m ys H2 → H2 D = some (.lst ys) ∧
    ((J.stop i H2 ∧ Q (.ref D) H2) ∨ (J.go i H2 ∧ ∀ x H3, J.yld i H2 x H3 → te [some x] H3 fun y H4 => H4 D = some (.lst ys) ∧ ys.length < sizeLine ∧ ∃ m', m' < m ∧ W (i + 1) m' (ys ++ [y]) (upd H4 D (.lst (ys ++ [y])))))
section
variable {X : Cx}
theorem pe_comp {elt iter : Expr} {x : Str} {px pos : Pos} {scope : Scope} {wi : TI} {te : TE} (hc : X.calm = true)
    (hfree : ∀ nk ∈ scope.names, nk.2 ≠ .free) (hcell : ∀ nk ∈ scope.names, nk.2 ≠ .cell) (hkind : scope.kind = .function)
    (hnames : ∀ nk ∈ scope.names, nk.2 = .local → scope.names.lookup nk.1 = some .local) (hx : scope.names.lookup x = some .local)
    (hi : PI X (.Name x px) iter wi) (he : ∀ C s H fp, PE (cxComp X scope x C s H fp) elt te)
    (hs : ∀ v, foldedSetIterable iter X.env v = pure v := by intro _; rfl) : PE X (.ListComp elt [⟨.Name x px, iter, [], 0⟩] scope pos) (tComp wi te) := by
  intro pins s σ H Q I h
  refine wpAny_ListComp hfree hkind hnames (thn (hi pins s σ H _ I h) fun v s1 h1 => thn h1 fun itv s2 h2 => ?_) hs
  obtain ⟨it, fp, tn, J, H2, e, I2, T, st2, f2, hR⟩ := h2
  subst e
  have hD0 : H2 s2.heap.objs.size = none := I2.fresh
  obtain ⟨W, ⟨m0, w0⟩, turnW⟩ := hR _ hD0
  have I3 : Inv X pins σ (upd H2 s2.heap.objs.size (.lst [])) { s2 with heap := s2.heap.push { cls := .type "list", data := .seq ([] : List Value).toArray } } := I2.lnew (t' := s2.toks) .nil (Nat.zero_le _)
  refine wpAny_newObj_type (wpAny_newFunctionEnv hcell (fun nk hnk => by simp at hnk) (fun h₁ hns₁ hsb₁ => ?_) hkind)
  dsimp only at hns₁ hsb₁ ⊢
  generalize hs3 : ({ s2 with heap := s2.heap.push { cls := .type "list", data := .seq ([] : List Value).toArray } } : Shared) = s3 at I3
  have eh3 : s3.heap = s2.heap.push { cls := .type "list", data := .seq ([] : List Value).toArray } := by rw [← hs3]
  have hC : s3.heap.objs.size = s2.heap.objs.size + 1 := by rw [eh3, Heap.size_push]
  have old : ∀ b o, s3.heap.get? b = some o → h₁.get? b = some o := fun b o e => by
    have hb : b ≠ s3.heap.objs.size := Nat.ne_of_lt (Heap.lt_size e)
    rw [eh3] at e hb
    exact hsb₁.extBut b o hb (Heap.get?_push_of_some _ e)
  have fpl : ∀ b ∈ fp, b < s2.heap.objs.size := fun b hb => let ⟨o, e, _⟩ := T.obj _ _ st2 b hb; Heap.lt_size e
  have fps : ∀ b ∈ fp, b ∉ frs X.stack := fun b hb z => (List.mem_cons.mp (I2.stkSub b z)).elim (f2 b hb).2.1 (f2 b hb).2.2.1
  let X' : Cx := cxComp X scope x s3.heap.objs.size s3 (upd H2 s2.heap.objs.size (.lst [])) fp
  have noc : ∀ (y : Str) (c : Addr), ¬ (([] : List (Str × Addr)).lookup y = some c) := fun y c e => by cases e
  have okX : X'.Ok := by
    refine ⟨I2.ok.mod, hkind, I2.ok.glob, I2.ok.blt, Nat.le_refl _, fun y z c e => absurd e (noc y c), fun y hy => ?_, fun y c _ e => absurd e (noc y c), I2.ok.hd, I2.ok.frames, .inl rfl, fun b hb => ⟨?_, fun y c e => absurd e (noc y c)⟩,
      I3.bs, Nat.le_trans I3.ok.bsz I3.sz, fun b o e hb => ?_, fps, I3.stack, I3.stkFree⟩
    · have hy' : scope.names.lookup y = some .cell ∨ scope.names.lookup y = some .free := hy
      rcases hy' with q | q
      · exact absurd rfl (hcell _ (PySem.mem_of_lookup q))
      · exact absurd rfl (hfree _ (PySem.mem_of_lookup q))
    · exact Nat.ne_of_lt (Nat.lt_of_lt_of_le (fpl b hb) (by show s2.heap.objs.size ≤ s3.heap.objs.size; rw [hC]; exact Nat.le_succ _))
    · rcases (f2 b hb).2.2.2.1 with z | z
      · exact I2.ok.noex b o e z
      · exact absurd (Nat.lt_of_lt_of_le (Heap.lt_size (I2.ok.bs b o e).1) z) (Nat.lt_irrefl _)
  have stat : ∀ {H' : Hp}, (∀ b ∈ fp, H' b = none) → ∀ b ∈ fp, FpOk X' [] H' b := fun hn b hb => by
    refine ⟨hn b hb, ?_, fps b hb, .inl hb, fun y c e => absurd e (noc y c), fun p hp => absurd (show p ∈ ([] : List (Addr × Obj)) from hp) (by simp)⟩
    exact Nat.ne_of_lt (Nat.lt_of_lt_of_le (fpl b hb) (by show s2.heap.objs.size ≤ s3.heap.objs.size; rw [hC]; exact Nat.le_succ _))
  have I4 : ∀ tk : Nat, Inv X' [] [none] (upd H2 s2.heap.objs.size (.lst [])) { s3 with heap := h₁, toks := tk } := fun tk => by
    refine ⟨okX, rfl, I3.bare, Un.kept old, ⟨_, by rw [← eh3] at hns₁; exact hns₁, fun i y v _ e2 _ => ?_⟩, fun y c e => absurd e (noc y c), I3.hok.fresh (Nat.le_refl _), fun y c e => absurd e (noc y c), fun p hp => absurd (show p ∈ ([] : List (Addr × Obj)) from hp) (by simp), I3.hok.kept old, rfl⟩
    cases i with
    | zero => simp at e2
    | succ i => simp at e2
  have fr0 : ∀ b ∈ fp, (upd H2 s2.heap.objs.size (.lst []) : Hp) b = none := fun b hb => by rw [upd_ne (Nat.ne_of_lt (fpl b hb))]; exact (f2 b hb).1
  have st4 : tn 0 h₁ := T.keep 0 _ _ st2 fun b hb o e => old b o (by rw [eh3]; exact Heap.get?_push_of_some _ e)
  have fin : ∀ {v0 : Option V} {H' : Hp} {s5 : Shared} {h' : Heap}, Inv X' [] [v0] H' s5 → Heap.SameBut s3.heap.objs.size s5.heap h' → Q (.ref s2.heap.objs.size) H' → EP X pins σ Q (.ref s2.heap.objs.size) { s5 with heap := h' } := by
    intro v0 H' s5 h' I5 sb q
    obtain ⟨hh, g, d, t, os'⟩ := s5
    have eo : os' = s3.os := I5.os
    subst eo
    have keepC : ∀ b o, b ≠ s3.heap.objs.size → hh.get? b = some o → h'.get? b = some o := fun b o hb e => sb.extBut b o hb e
    have ne3 : ∀ b o, s3.heap.get? b = some o → b ≠ s3.heap.objs.size := fun b o e => Nat.ne_of_lt (Heap.lt_size e)
    have u : Un (frs X.stack) fp (upd H2 s2.heap.objs.size (.lst [])) H' s3.heap hh := I5.base
    have un : Un (frs X.stack) fp (upd H2 s2.heap.objs.size (.lst [])) H' s3.heap h' :=
      ⟨fun b o e n hb hx => keepC b o (ne3 b o e) (u.keep b o e n hb hx), fun b o e n hb hx => let ⟨sl, q⟩ := u.slot b o e n hb hx; ⟨sl, keepC b _ (ne3 b o e) q⟩, u.free, fun b o e hx => let ⟨o', q⟩ := u.there b o e hx; ⟨o', keepC b o' (ne3 b o e) q⟩, u.tups, u.frzs, u.tbls⟩
    have hfree' : H' s3.heap.objs.size = none := I5.free
    have hok' : HOk X.prog X.w H' h' := fun b u e => by
      refine (I5.hok b u e).stay (fun c v hc q => keepC c v ?_ q) (fun _ q => q) fun _ _ q => q
      rcases hc with z | z
      · rw [z]; intro z2; rw [z2, hfree'] at e; cases e
      · intro z2; rw [z2, hfree'] at z; cases z
    have J := I3.call (h' := h') (g' := g) (d' := d) (t' := t) (ch := fp) un hok' I5.bare (fun b hb => let ⟨_, h1, _, h2, h3, h4⟩ := f2 b hb; ⟨h2, h1, h3, h4⟩)
    exact ⟨.ref s2.heap.objs.size, H', J, rfl, q⟩
  have loop : ∀ s4 : Shared, s4.heap = h₁ → (∃ tk, s4 = { s3 with heap := h₁, toks := tk }) →
      codeAny (model X.prog X.w) X.A (.compLoop (.ListComp elt [⟨.Name x px, iter, [], 0⟩] scope pos) 0 (.ref it) (.ref s2.heap.objs.size) X'.env)
        (fun r s' => ∃ m, s'.heap.Ns s3.heap.objs.size m ∧ ∀ h', Heap.SameBut s3.heap.objs.size s'.heap h' →
          match r with | .ok _ => EP X pins σ Q (.ref s2.heap.objs.size) { s' with heap := h' } | .error x => wpAny (model X.prog X.w) X.A (passOn "comprehension.variables-let-go" x X'.env) (EP X pins σ Q) X.xe { s' with heap := h' }) s4 := by
    rintro s4 e4 ⟨tk, rfl⟩
    refine codeAny_compLoop_list (fun n s' => ∃ i ys v0 H', Inv X' [] [v0] H' s' ∧ tn i s'.heap ∧ (∀ b ∈ fp, H' b = none) ∧ W i n ys H') ?_ m0 ⟨0, [], none, _, I4 tk, st4, fr0, w0⟩
    rintro n s5 ⟨i, ys, v0, H5, I5, st5, fr5, w5⟩
    obtain ⟨hD5, ⟨js, q⟩ | ⟨jg, step⟩⟩ := turnW i n ys H5 w5
    · refine wpAny_mono (T.done X' rfl rfl rfl hc i [] s5 _ H5 (fun _ _ => False) I5 (stat fr5) st5 js) (fun r s6 hr => ?_) fun _ _ z => z.elim
      obtain ⟨rfl, I6⟩ := hr
      obtain ⟨m, hn, _⟩ := I6.loc
      exact ⟨m, hn, fun h' sb => fin I6 sb q⟩
    · refine wpAny_mono (T.item X' rfl rfl rfl hc i [] s5 _ H5 (fun _ _ => False) I5 (stat fr5) st5 jg) (fun r s6 hr => ?_) fun _ _ z => z.elim
      obtain ⟨u, rfl, h6⟩ := hr
      show wpAny _ _ (letOwnedTupleGo (.Name x px) (.ref it) u >>= fun _ => assign (.Name x px) X'.env u) _ _ s6
      refine wpAny_bind (wpAny_mono h6 (fun _ s7 h7 => ?_) fun _ _ z => z.elim)
      obtain ⟨xv, H7, I7, r7, y7, st7, fr7⟩ := h7
      have I7' := I7.pinned (stat fr7) (T.obj _ _ st7)
      have nd : X'.N.Nodup := by show ([x] : List Str).Nodup; simp
      refine wpAny_mono (pg_name (X := X') (pos := px) (i := 0) (x := x) nd rfl (.inl hx) (.inl rfl) _ s7 [v0] H7 xv u (fun σ' H' => σ' = [some xv] ∧ H' = H7) I7' r7 ⟨rfl, rfl⟩) (fun _ s8 h8 => ?_) fun _ _ z => z.elim
      obtain ⟨σ8, H8, I8, rfl, rfl⟩ := h8
      refine wpAny_mono (he s3.heap.objs.size s3 (upd H2 s2.heap.objs.size (.lst [])) fp _ s8 [some xv] H8 _ I8 (step xv H8 y7)) (fun y s9 h9 => ?_) fun _ _ z => z.elim
      obtain ⟨yv, H9, I9, r9, hD9, hl9, m', lt, w9⟩ := h9
      refine wpAny_mono (mt_append (X := X') _ s9 [some xv] H9 (.ref s2.heap.objs.size) [yv] (.ref s2.heap.objs.size) [y] (fun _ H' => H' = upd H9 s2.heap.objs.size (.lst (ys ++ [yv]))) I9 rfl (.cons r9 .nil) ⟨_, ys, yv, rfl, rfl, hD9, hl9, rfl⟩) (fun _ s10 h10 => ?_) fun _ _ z => z.elim
      obtain ⟨_, H10, I10, _, rfl⟩ := h10
      refine ⟨m', lt, i + 1, ys ++ [yv], some xv, _, I10.unpinned, T.keep _ _ _ st7 fun b hb o e => (I10.pin (b, o) (List.mem_append_right _ (List.mem_append_right _ (mem_pinsAt hb e)))).1, fun b hb => ?_, w9⟩
      obtain ⟨o, e, d⟩ := T.obj _ _ st7 b hb
      exact (I10.pin (b, o) (List.mem_append_right _ (List.mem_append_right _ (mem_pinsAt hb e)))).2.1
  have L := loop { s3 with heap := h₁, toks := s2.toks + ([] : List (Str × Value)).length } rfl ⟨_, rfl⟩
  subst hs3
  exact codeAny_compStart_list L (T.self _ 0 _ _ _ st4 L)
end
section
variable {X : Cx} {tg : Expr}
end
theorem Same.new {H : Hp} {p : Addr} (h : H p = none) (o : HO) : Same H (upd H p o) := fun b u q => by rw [upd_ne (ne_of_none q h)]; exact q
theorem vals_strs : ∀ l : List (Str × Tok), Vals (l.map fun p => V.str p.1) (strValues l)
  | [] => .nil
  | p :: r => .cons ⟨p.2, rfl⟩ (vals_strs r)
theorem vals_strs' {l : List (Str × Tok)} {ts : List Str} (h : l.map (·.1) = ts) : Vals (ts.map V.str) (strValues l) := by
  subst h
  rw [List.map_map]
  exact vals_strs l
theorem strsAre_vals : ∀ {ts : List Str} {us : List Value}, Vals (ts.map V.str) us → StrsAre us ts
  | [], _, .nil => .nil
  | t :: ts, _, .cons ⟨k, e⟩ r => by
    subst e
    exact .cons t k (strsAre_vals r)
section
variable {X : Cx}
theorem Inv.strs {pins : List (Addr × Obj)} {σ : St} {H : Hp} {s : Shared} (I : Inv X pins σ H s) {l : List (Str × Tok)} {ts : List Str} (h : l.map (·.1) = ts) (hz : ts.length ≤ sizeLine) (k : Nat) :
    Inv X pins σ (upd H s.heap.objs.size (.lst (ts.map V.str))) { s with heap := s.heap.push { cls := .type "list", data := .seq (strValues l).toArray }, toks := k } :=
  I.lnew (vals_strs' h) (by rw [List.length_map]; exact hz)
def tFmt (te : TE) : TE := fun σ H Q => te σ H fun x H1 => (∃ i, x = .int i ∧ i.natAbs.log2 < 1920 ∧ Q (.str (toString i)) H1) ∨ (∃ y, x = .str y ∧ y.length ≤ sizeLine ∧ Q (.str y) H1)
theorem pe_fmt {e : Expr} {te : TE} {pos : Pos} (he : PE X e te) : PE X (.FormattedValue e (-1) none pos) (tFmt te) := by
  intro pins s σ H Q I h
  refine wpAny_FormattedValue_plain (thn (he pins s σ H _ I h) fun v s1 ⟨x, H1, I1, r1, q1⟩ => ?_)
  rcases q1 with ⟨i, rfl, hi, q⟩ | ⟨y, rfl, hy, q⟩
  · obtain ⟨t, rfl⟩ := r1
    exact wpAny_formatField_int hi ⟨.str _, H1, I1.tok _, ⟨_, rfl⟩, q⟩
  · obtain ⟨t, rfl⟩ := r1
    exact wpAny_formatField_str ⟨.str _, H1, I1, ⟨_, rfl⟩, q⟩ ⟨.str _, H1, I1.tok _, ⟨_, rfl⟩, q⟩ hy
def tJoin3 (ta tb tc : TE) : TE := fun σ H Q => ta σ H fun x H1 => ∃ a, x = .str a ∧ (Str.empty ++ a).length ≤ sizeLine ∧ tb σ H1 fun y H2 => ∃ b, y = .str b ∧ (Str.empty ++ a ++ b).length ≤ sizeLine ∧
  tc σ H2 fun z H3 => ∃ c, z = .str c ∧ (Str.empty ++ a ++ b ++ c).length ≤ sizeLine ∧ Q (.str (Str.empty ++ a ++ b ++ c)) H3
theorem pe_join3 {a b c : Expr} {ta tb tc : TE} {pos : Pos} (ha : PE X a ta) (hb : PE X b tb) (hc : PE X c tc) : PE X (.JoinedStr [a, b, c] pos) (tJoin3 ta tb tc) := by
  intro pins s σ H Q I h
  refine wpAny_JoinedStr ?_
  show wpAny _ _ (eval a X.env) _ _ s
  refine thn (ha pins s σ H _ I h) fun v s1 ⟨x, H1, I1, r1, q1⟩ => ?_
  obtain ⟨y, rfl, hy, q1⟩ := q1
  obtain ⟨t, rfl⟩ := r1
  refine ⟨y, t, rfl, hy, ?_⟩
  show wpAny _ _ (eval b X.env) _ _ s1
  refine thn (hb pins s1 σ H1 _ I1 q1) fun v s2 ⟨x, H2, I2, r2, q2⟩ => ?_
  obtain ⟨y2, rfl, hy2, q2⟩ := q2
  obtain ⟨t2, rfl⟩ := r2
  refine ⟨y2, t2, rfl, hy2, ?_⟩
  show wpAny _ _ (eval c X.env) _ _ s2
  refine thn (hc pins s2 σ H2 _ I2 q2) fun v s3 ⟨x, H3, I3, r3, q3⟩ => ?_
  obtain ⟨y3, rfl, hy3, q3⟩ := q3
  obtain ⟨t3, rfl⟩ := r3
  exact ⟨y3, t3, rfl, hy3, hy3, .str _, H3, I3.tok _, ⟨_, rfl⟩, q3⟩
theorem vals_bools : ∀ {bs : List Bool} {us : List Value}, Vals (bs.map V.bl) us → ∀ (i : Nat) (v : Value), us[i]? = some v → ∃ b, bs[i]? = some b ∧ v = .bool b
  | [], _, .nil, i, v, e => by simp at e
  | b :: bs, _, .cons r _, 0, v, e => by
    have r' : _ = Value.bool b := r
    simp at e; subst e; exact ⟨b, rfl, r'⟩
  | b :: bs, _, .cons _ t, i + 1, v, e => by
    obtain ⟨c, h1, h2⟩ := vals_bools t i v (by simpa using e)
    exact ⟨c, by simpa using h1, h2⟩
theorem range_all' (bs : List Bool) : ((List.range bs.length).all fun i => (bs[i]?).getD true) = bs.all id := by
  induction bs with
  | nil => rfl
  | cons b bs ih =>
    rw [List.length_cons, List.range_succ_eq_map, List.all_cons, List.all_map, List.all_cons, ← ih]
    rfl
theorem call_all (hc : X.calm = true) : CallR X (.builtin "all") (fun xs H Q => ∃ (p : Addr) (bs : List Bool), xs = [.ref p] ∧ SqL X.K H p (bs.map V.bl) ∧ Q (.bl (bs.all id)) H) := by
  intro pins s σ H xs us Q I r h
  obtain ⟨p, bs, rfl, hq, q⟩ := h
  obtain ⟨u, rfl, ru⟩ := vals1 r
  cases ru
  obtain ⟨its, rv, pl, hz⟩ := I.list hq
  have isl := pl.isList
  have below : p < s.heap.objs.size := by obtain ⟨_, e, _⟩ := isl; exact Heap.lt_size e
  have hlen := rv.length
  rw [List.length_map] at hlen
  have W := Walks.list (prog := X.prog) (w := X.w) (A := X.A.in1) (I.ok.hd hc) s.heap.objs.size p (Nat.ne_of_lt below) its.toArray
  have truths : TruthOf X.prog X.w X.A.in1 (fun i v => its.toArray[i]? = some v) (fun i => (bs[i]?).getD true) := fun i v s1 R E1 at_i hR => by
    obtain ⟨b, eb, ev⟩ := vals_bools rv i v (by simpa using at_i)
    subst ev
    have hR2 : R ((bs[i]?).getD true) s1 := hR
    rw [eb] at hR2
    exact wpAny_truthy_bool hR2
  have worth : ((List.range its.toArray.size).all fun i => (bs[i]?).getD true) = bs.all id := by
    rw [List.size_toArray, ← hlen]; exact range_all' bs
  have begun : (s.heap.push { cls := .type "list_iterator", data := .fields #[.ref p, .int 0 0] }).IsListIter s.heap.objs.size p 0 := ⟨_, Heap.get?_push_size _ rfl, rfl, rfl⟩
  refine call_all_walk (wpAny_pyIter_list isl ⟨s.heap.objs.size, _, _, _, _, _, _, rfl, W, ⟨begun, isl.push _⟩, truths, fun h1 tk same => ?_⟩)
  rw [worth]
  refine ⟨.bl _, H, I.kept (h' := h1) (t' := tk) (fun b o e => same b o (fun hm => ?_) (Heap.get?_push_of_some _ e)), rfl, q⟩
  have eb := List.mem_singleton.mp hm
  subst eb
  exact Nat.lt_irrefl _ (Heap.lt_size e)
theorem Same.tup {K : PySem.W.Frag} {H H' : Hp} {a : Addr} {xs : List V} (e : Same H H') (h : SqT K H a xs) : SqT K H' a xs := by
  rcases h with (h | ⟨o, h⟩) | h
  · exact .inl (.inl (e _ _ h))
  · exact .inl (.inr ⟨o, e _ _ h⟩)
  · exact .inr h
end
end L2
namespace L2
open PySem PySem.Spec PyProof.Rows
theorem runs_toks {M : Model} {Γ : PySem.Ctx} {p : Pos} {t : Sem Fin} {fs : List Frame} {s s' : Shared} {e : End} (h : Runs M Γ p t fs s e s') : s.toks ≤ s'.toks := by
  induction h with
  | done => exact Nat.le_refl _
  | raise => exact Nat.le_refl _
  | yield => exact Nat.le_refl _
  | fresh _ ih => exact Nat.le_trans (Nat.le_succ _) ih
  | call _ _ a b => exact Nat.le_trans a b
  | resumeFresh _ _ _ _ a b => exact Nat.le_trans a b
  | resumeSuspended _ _ _ _ a b => exact Nat.le_trans a b
  | segRet _ _ a b => exact Nat.le_trans a b
  | segGen _ _ a b => exact Nat.le_trans a b
  | segSuspGen _ _ _ _ a b => exact Nat.le_trans a b
  | again _ _ ih => exact ih
  | rule _ ih => exact ih
  | «at» _ ih => exact ih
  | load _ _ ih => exact ih
  | update _ _ ih => exact ih
  | loadIfAlive _ ih => exact ih
  | point _ ih => exact ih
  | alloc _ ih => exact ih
  | ask _ ih => exact ih
  | choose _ _ ih => exact ih
  | os _ ih => exact ih
  | handled _ ih => exact ih
  | genState _ _ ih => exact ih
  | stack _ ih => exact ih
  | thread _ ih => exact ih
  | newGen _ ih => exact ih
  | callSusp _ ih => exact ih
  | resumeJustStarted _ _ _ ih => exact ih
  | resumeThrowFresh _ _ ih => exact ih
  | resumeRunning _ _ ih => exact ih
  | resumeFinished _ _ ih => exact ih
  | segSuspOut _ _ ih => exact ih
theorem wakes_toks {M : Model} {Γ : PySem.Ctx} {p : Pos} {g : Nat} {r : Resume} {s s' : Shared} {res : GenResult} (h : Wakes M Γ p g r s res s') : s.toks ≤ s'.toks := by
  unfold Wakes at h
  split at h
  · exact h.elim
  · split at h
    · obtain ⟨e1, s1, hr, _, _, rfl⟩ := h
      have := runs_toks hr
      exact this
    · obtain ⟨_, rfl⟩ := h; exact Nat.le_refl _
    · obtain ⟨_, rfl⟩ := h; exact Nat.le_refl _
  · obtain ⟨e1, s1, hr, _, _, rfl⟩ := h
    have := runs_toks hr
    exact this
  · obtain ⟨_, rfl⟩ := h; exact Nat.le_refl _
  · obtain ⟨_, rfl⟩ := h; exact Nat.le_refl _
theorem wp_toks {α : Type} {M : Model} {Γ : PySem.Ctx} (n : Nat) (t : Sem α) {Q : α → Pos → Shared → Prop} {E : Value → Pos → Shared → Prop} {p : Pos} {s : Shared} (hn : n ≤ s.toks) (h : Sem.wp M Γ t Q E p s) :
    Sem.wp M Γ t (fun a p' s' => Q a p' s' ∧ n ≤ s'.toks) E p s := by
  induction t generalizing p s with
  | pure a => exact ⟨h, hn⟩
  | raise v => exact h
  | unsupported => exact h
  | finish => exact h
  | yield => exact h
  | fork => exact h
  | await => exact h
  | register => exact h
  | rule _ k ih => exact ih _ hn h
  | «at» _ k ih => exact ih _ hn h
  | alloc _ k ih => exact ih _ hn h
  | loadIfAlive _ k ih => exact ih _ hn h
  | point _ k ih => exact ih _ hn h
  | fresh k ih => exact ih _ (Nat.le_succ_of_le hn) h
  | ask k ih => exact ih _ hn h
  | os _ _ k ih => exact ih _ hn h
  | handled _ k ih => exact ih _ hn h
  | newGen _ k ih => exact ih _ hn h
  | stack k ih => exact ih _ hn h
  | thread k ih => exact ih _ hn h
  | load a _ k ih => obtain ⟨o, ho, h⟩ := h; exact ⟨o, ho, ih _ hn h⟩
  | genState a k ih => obtain ⟨o, ho, h⟩ := h; exact ⟨o, ho, ih _ hn h⟩
  | update a _ f k ih => obtain ⟨ha, h⟩ := h; exact ⟨ha, ih _ hn h⟩
  | choose _ _ k ih => obtain ⟨ha, h⟩ := h; exact ⟨ha, ih _ hn h⟩
  | call c hh g l k ih => obtain ⟨r, s', hr, h⟩ := h; exact ⟨r, s', hr, ih r (Nat.le_trans hn (runs_toks hr)) h⟩
  | resume g r l k ih => obtain ⟨res, s', hw, h⟩ := h; exact ⟨res, s', hw, ih _ (Nat.le_trans hn (wakes_toks hw)) h⟩
theorem tk {α : Type} {M : Model} {A : Around} {t : Sem α} {Q : α → Shared → Prop} {E : Value → Shared → Prop} {s : Shared} (h : wpAny M A t Q E s) : wpAny M A t (fun a s' => Q a s' ∧ s.toks ≤ s'.toks) E s :=
  fun Γ p hΓ => wp_toks s.toks t (Nat.le_refl _) (h Γ p hΓ)
end L2
namespace L2
open PySem PySem.Spec PyProof.Rows
def PSk (X : Cx) (st : Stmt) (t : TS) : Prop :=
  ∀ (pins : List (Addr × Obj)) (s : Shared) (σ : St) (H : Hp) (D : Ends), 0 < s.toks → Inv X pins σ H s → t D σ H → wpAny (model X.prog X.w) X.A (exec st X.env) (SP X pins D) X.xe s
def PSsk (X : Cx) (st : List Stmt) (t : TS) : Prop :=
  ∀ (pins : List (Addr × Obj)) (s : Shared) (σ : St) (H : Hp) (D : Ends), 0 < s.toks → Inv X pins σ H s → t D σ H → wpAny (model X.prog X.w) X.A (execs st X.env) (SP X pins D) X.xe s
section
variable {X : Cx} {st : Stmt} {rest : List Stmt} {t u : TS} {e : Expr} {te : TE} {pos : Pos} {tg : Expr}
theorem PS.k (h : PS X st t) : PSk X st t := fun pins s σ H D _ I hw => h pins s σ H D I hw
theorem PSs.k (h : PSs X rest t) : PSsk X rest t := fun pins s σ H D _ I hw => h pins s σ H D I hw
end
end L2
namespace L2
open PySem PySem.Spec PyProof.Rows
section
variable {prog : Program} {w : World} {A : Around} {R : Result → Shared → Prop} {s : Shared}
theorem comp_turns {elt target iter : Expr} {ifs : List Expr} {scope : Scope} {pos : Pos} {it acc : Value} {env : Env} (I : Nat → Shared → Prop)
    (turn : ∀ n s, I n s → wpAny (model prog w) A (pyNext it) (fun r s1 => match r with
      | none => R (.ok .next) s1
      | some v => wpAny (model prog w) A (letOwnedTupleGo target it v) (fun _ s1' => wpAny (model prog w) A (assign target env v) (fun _ s2 =>
          wpAny (model prog w) A (forIn ifs true fun c r => if r = true then do let ok ← isTrue c env (eval c env); pure (ForInStep.yield ok) else pure (ForInStep.yield r)) (fun ok s3 =>
            if ok = true then wpAny (model prog w) A (eval elt env) (fun x s4 => wpAny (model prog w) A (call (.builtin "list.append") [acc, x]) (fun _ s5 => ∃ m, m < n ∧ I m s5) (fun _ _ => False) s4) (fun _ _ => False) s3
            else ∃ m, m < n ∧ I m s3) (fun _ _ => False) s2) (fun _ _ => False) s1') (fun _ _ => False) s1) (fun _ _ => False) s)
    (n : Nat) (h : I n s) : codeAny (model prog w) A (.compLoop (.ListComp elt [⟨target, iter, ifs, 0⟩] scope pos) 0 it acc env) R s := by
  refine codeAny_loop rfl I (fun n s hI => ?_) n h
  show wpAny _ A ((compTurn (.ListComp elt [⟨target, iter, ifs, 0⟩] scope pos) 0 it acc env).onRaise (fun x => do noteFrame x env; theTreesLotGoes x)) _ _ s
  refine wpAny_noted ?_
  rw [compTurn_list]
  refine wpAny_bind (wpAny_standAt (wpAny_bind (wpAny_mono (turn n s hI) (fun r s1 h1 => ?_) fun _ _ z => z.elim)))
  cases r with
  | none => exact wpAny_pure h1
  | some v =>
    refine wpAny_bind (wpAny_mono h1 (fun _ s1' h1' => wpAny_bind (wpAny_mono h1' (fun _ s2 h2 => wpAny_bind (wpAny_mono h2 (fun ok s3 h3 => ?_) fun _ _ z => z.elim)) fun _ _ z => z.elim)) fun _ _ z => z.elim)
    cases ok with
    | false => exact wpAny_pure ⟨rfl, h3⟩
    | true => exact wpAny_bind (wpAny_bind (wpAny_mono h3 (fun x s4 h4 => wpAny_bind (wpAny_mono h4 (fun _ s5 h5 => wpAny_pure (wpAny_pure ⟨rfl, h5⟩)) fun _ _ z => z.elim)) fun _ _ z => z.elim))
end
theorem clos_of {env : Env} : ∀ (names : List (Str × NameKind)) (acc : List (Str × Addr)), (∀ nk ∈ names, nk.2 = .free → ∃ c, env.cells.lookup nk.1 = some c) → (∀ y c, acc.lookup y = some c → env.cells.lookup y = some c) →
    ∃ cl, (forIn names acc (fun (x : Str × NameKind) (r : List (Str × Addr)) => (if x.2 == .free then do let a ← cellOf env x.1; pure (ForInStep.yield ((x.1, a) :: r)) else pure (ForInStep.yield r) : Sem (ForInStep (List (Str × Addr)))))) = (pure cl : Sem _) ∧
      (∀ y c, cl.lookup y = some c → env.cells.lookup y = some c) ∧ (∀ y c, acc.lookup y = some c → ∃ c, cl.lookup y = some c) ∧ ∀ y, names.lookup y = some .free → ∃ c, cl.lookup y = some c
  | [], acc, _, ha => ⟨acc, rfl, ha, fun y c e => ⟨c, e⟩, fun y e => by simp at e⟩
  | (n, k) :: names, acc, hf, ha => by
    cases hk : k == NameKind.free with
    | false =>
      obtain ⟨cl, e, h1, h2, h3⟩ := clos_of names acc (fun nk h => hf nk (List.mem_cons_of_mem _ h)) ha
      refine ⟨cl, ?_, h1, h2, fun y hy => ?_⟩
      · rw [List.forIn_cons]
        simp only [hk, Bool.false_eq_true, if_false]
        exact e
      · rw [List.lookup_cons] at hy
        cases hyn : y == n with
        | true => rw [hyn] at hy; cases hy; cases hk
        | false => rw [hyn] at hy; exact h3 y hy
    | true =>
      have ek : k = .free := eq_of_beq hk
      obtain ⟨c, hc⟩ := hf (n, k) (List.mem_cons_self ..) ek
      have ha' : ∀ y c', ((n, c) :: acc).lookup y = some c' → env.cells.lookup y = some c' := fun y c' e => by
        rw [List.lookup_cons] at e
        cases hyn : y == n with
        | true => rw [hyn] at e; cases e; rw [eq_of_beq hyn]; exact hc
        | false => rw [hyn] at e; exact ha y c' e
      obtain ⟨cl, e, h1, h2, h3⟩ := clos_of names ((n, c) :: acc) (fun nk h => hf nk (List.mem_cons_of_mem _ h)) ha'
      have in_acc : ∀ y c', acc.lookup y = some c' → ∃ c'', ((n, c) :: acc).lookup y = some c'' := fun y c' e => by
        rw [List.lookup_cons]
        cases hyn : y == n with
        | true => exact ⟨c, rfl⟩
        | false => exact ⟨c', e⟩
      refine ⟨cl, ?_, h1, fun y c' e' => let ⟨c'', e''⟩ := in_acc y c' e'; h2 y c'' e'', fun y hy => ?_⟩
      · have e0 : cellOf env n = pure c := by unfold cellOf; rw [hc]
        rw [List.forIn_cons]
        simp only [hk, if_true, e0]
        exact e
      · rw [List.lookup_cons] at hy
        cases hyn : y == n with
        | true => exact h2 y c (by rw [List.lookup_cons, hyn])
        | false => rw [hyn] at hy; exact h3 y hy
theorem closure_of {scope : Scope} {env : Env} (hf : ∀ nk ∈ scope.names, nk.2 = .free → ∃ c, env.cells.lookup nk.1 = some c) :
    ∃ cl, closureFor scope env = pure cl ∧ (∀ y c, cl.lookup y = some c → env.cells.lookup y = some c) ∧ ∀ y, scope.names.lookup y = some .free → ∃ c, cl.lookup y = some c := by
  obtain ⟨cl, e, h1, _, h3⟩ := clos_of (env := env) scope.names [] hf (fun y c e => by simp at e)
  refine ⟨cl, ?_, h1, h3⟩
  unfold closureFor
  simp only [bind_pure]
  exact e
theorem relab_free {env : Env} : ∀ {names : List (Str × NameKind)} {y : Str}, names.lookup y = some .free →
    (names.map fun (n, k) => if (k == NameKind.free && env.scope.kind == .function && env.kindOf n == some .cell) then (n, NameKind.cell) else (n, k)).lookup y = some .cell ∨
    (names.map fun (n, k) => if (k == NameKind.free && env.scope.kind == .function && env.kindOf n == some .cell) then (n, NameKind.cell) else (n, k)).lookup y = some .free
  | [], _, h => by simp at h
  | (n, k) :: r, y, h => by
    have ih := @relab_free env r y
    show List.lookup y ((if (k == NameKind.free && env.scope.kind == .function && env.kindOf n == some .cell) = true then (n, NameKind.cell) else (n, k)) :: _) = _ ∨ List.lookup y ((if (k == NameKind.free && env.scope.kind == .function && env.kindOf n == some .cell) = true then (n, NameKind.cell) else (n, k)) :: _) = _
    cases hx : y == n with
    | true =>
      simp only [List.lookup_cons, hx] at h
      cases h
      by_cases hc : (NameKind.free == NameKind.free && env.scope.kind == .function && env.kindOf n == some .cell) = true
      · rw [if_pos hc]; simp only [List.lookup_cons, hx]; exact .inl trivial
      · rw [if_neg hc]; simp only [List.lookup_cons, hx]; exact .inr trivial
    | false =>
      simp only [List.lookup_cons, hx] at h
      by_cases hc : (k == NameKind.free && env.scope.kind == .function && env.kindOf n == some .cell) = true
      · rw [if_pos hc]; simp only [List.lookup_cons, hx]; exact ih h
      · rw [if_neg hc]; simp only [List.lookup_cons, hx]; exact ih h
theorem relab_inv {env : Env} : ∀ {names : List (Str × NameKind)} {y : Str}, (∀ nk ∈ names, nk.2 ≠ .cell) →
    ((names.map fun (n, k) => if (k == NameKind.free && env.scope.kind == .function && env.kindOf n == some .cell) then (n, NameKind.cell) else (n, k)).lookup y = some .cell ∨
    (names.map fun (n, k) => if (k == NameKind.free && env.scope.kind == .function && env.kindOf n == some .cell) then (n, NameKind.cell) else (n, k)).lookup y = some .free) → names.lookup y = some .free
  | [], _, _, h => by simp at h
  | (n, k) :: r, y, hn, h => by
    have ih := @relab_inv env r y (fun nk h => hn nk (List.mem_cons_of_mem _ h))
    have h' : List.lookup y ((if (k == NameKind.free && env.scope.kind == .function && env.kindOf n == some .cell) = true then (n, NameKind.cell) else (n, k)) :: r.map fun (n, k) => if (k == NameKind.free && env.scope.kind == .function && env.kindOf n == some .cell) then (n, NameKind.cell) else (n, k)) = some .cell ∨ List.lookup y ((if (k == NameKind.free && env.scope.kind == .function && env.kindOf n == some .cell) = true then (n, NameKind.cell) else (n, k)) :: r.map fun (n, k) => if (k == NameKind.free && env.scope.kind == .function && env.kindOf n == some .cell) then (n, NameKind.cell) else (n, k)) = some .free := h
    cases hx : y == n with
    | true =>
      simp only [List.lookup_cons, hx]
      by_cases hc : (k == NameKind.free && env.scope.kind == .function && env.kindOf n == some .cell) = true
      · have : (k == NameKind.free) = true := by
          cases hk : k == NameKind.free with
          | true => rfl
          | false => rw [hk] at hc; simp at hc
        rw [eq_of_beq this]
      · rw [if_neg hc] at h'
        simp only [List.lookup_cons, hx] at h'
        rcases h' with h' | h'
        · cases h'; exact absurd rfl (hn (n, .cell) (List.mem_cons_self ..))
        · exact h'
    | false =>
      simp only [List.lookup_cons, hx]
      by_cases hc : (k == NameKind.free && env.scope.kind == .function && env.kindOf n == some .cell) = true
      · rw [if_pos hc] at h'; simp only [List.lookup_cons, hx] at h'; exact ih h'
      · rw [if_neg hc] at h'; simp only [List.lookup_cons, hx] at h'; exact ih h'
def cxCF (X : Cx) (scope : Scope) (cl : List (Str × Addr)) (Ns : List Str) (C : Addr) (s : Shared) (H : Hp) (fp : List Addr) : Cx :=
  { X with
    N := Ns
    s₀ := s
    H₀ := H
    env := compEnvC scope cl C X.env
    outer := X.stack
    stack := X.stack
    ex := fp
    fn := fun _ => false
    pn := []
    xe := fun _ _ => False }
def frOf (σ : St) (js : List Nat) : St := js.map fun j => (σ[j]?).join
def tCompF (wi : TI) (g : TG) (n : Nat) (js : List Nat) (tt : TT) (te : TE) : TE := fun σ H Q => wi σ H fun J H1 => ∀ D, H1 D = none → ∃ W : Nat → Nat → List V → Hp → Prop,
  (∃ m, W 0 m [] (upd H1 D (.lst []))) ∧ ∀ i m ys H2, W i m ys H2 → H2 D = some (.lst ys) ∧
    ((J.stop i H2 ∧ Q (.ref D) H2) ∨ (J.go i H2 ∧ ∀ x H3, J.yld i H2 x H3 → ∀ pre : St, pre.length = n → g x (pre ++ frOf σ js) H3 fun σ4 H4 => (∃ pre' : St, pre'.length = n ∧ σ4 = pre' ++ frOf σ js) ∧
      tt σ4 H4 fun b H5 => if b = true then te σ4 H5 (fun y H6 => H6 D = some (.lst ys) ∧ ys.length < sizeLine ∧ ∃ m', m' < m ∧ W (i + 1) m' (ys ++ [y]) (upd H6 D (.lst (ys ++ [y])))) else ∃ m', m' < m ∧ W (i + 1) m' ys H5))
def PTs (X : Cx) (ifs : List Expr) (t : TT) : Prop :=
  ∀ (pins : List (Addr × Obj)) (s : Shared) (σ : St) (H : Hp) (Q : Bool → Hp → Prop), Inv X pins σ H s → t σ H Q →
    wpAny (model X.prog X.w) X.A (forIn ifs true fun c r => if r = true then do let ok ← isTrue c X.env (eval c X.env); pure (ForInStep.yield ok) else pure (ForInStep.yield r)) (TP X pins σ Q) X.xe s
def tTrue : TT := fun _ H Q => Q true H
theorem pts_nil {X : Cx} : PTs X [] tTrue := fun _ _ _ H _ I h => wpAny_tests_nil ⟨H, I, h⟩
theorem pts_one {X : Cx} {c : Expr} {t : TT} (h : PT X c t) : PTs X [c] t := fun pins s σ H Q I hw => wpAny_tests_one (h pins s σ H Q I hw)
def FreeOk (X : Cx) (scope : Scope) : List Str → List Nat → Prop
  | [], [] => True
  | y :: ys, j :: js => X.N[j]? = some y ∧ (X.env.kindOf y = some .cell ∨ X.env.kindOf y = some .free) ∧ scope.names.lookup y = some .free ∧ FreeOk X scope ys js
  | _, _ => False
theorem FreeOk.at {X : Cx} {scope : Scope} : ∀ {ys : List Str} {js : List Nat}, FreeOk X scope ys js → ys.length = js.length ∧ ∀ (k : Nat) (y : Str), ys[k]? = some y → ∃ j, js[k]? = some j ∧ X.N[j]? = some y ∧ (X.env.kindOf y = some .cell ∨ X.env.kindOf y = some .free) ∧ scope.names.lookup y = some .free
  | [], [], _ => ⟨rfl, fun k y e => by simp at e⟩
  | [], _ :: _, h => h.elim
  | _ :: _, [], h => h.elim
  | y :: ys, j :: js, h => by
    obtain ⟨h1, h2, h3, h4⟩ := h
    obtain ⟨l, ih⟩ := FreeOk.at h4
    refine ⟨by simp [l], fun k y' e => ?_⟩
    cases k with
    | zero => simp at e; subst e; exact ⟨j, rfl, h1, h2, h3⟩
    | succ k => simpa using ih k y' (by simpa using e)
section
variable {X : Cx}
theorem pe_compF {elt iter target : Expr} {ifs : List Expr} {xs ys : List Str} {js : List Nat} {pos : Pos} {scope : Scope} {wi : TI} {g : TG} {tt : TT} {te : TE} (hc : X.calm = true)
    (hfree : ∀ nk ∈ scope.names, nk.2 = .free → nk.1 ∈ ys) (hcell : ∀ nk ∈ scope.names, nk.2 ≠ .cell) (hkind : scope.kind = .function)
    (hnames : ∀ nk ∈ scope.names, nk.2 = .local → scope.names.lookup nk.1 = some .local) (hfo : FreeOk X scope ys js)
    (hi : PI X target iter wi) (hg : ∀ cl C s H fp, PG (cxCF X scope cl (xs ++ ys) C s H fp) target g) (ht : ∀ cl C s H fp, PTs (cxCF X scope cl (xs ++ ys) C s H fp) ifs tt)
    (he : ∀ cl C s H fp, PE (cxCF X scope cl (xs ++ ys) C s H fp) elt te)
    (hs : ∀ v, foldedSetIterable iter X.env v = pure v := by intro _; rfl) : PE X (.ListComp elt [⟨target, iter, ifs, 0⟩] scope pos) (tCompF wi g xs.length js tt te) := by
  intro pins s σ H Q I h
  obtain ⟨ylen, yat⟩ := hfo.at
  have hkd : ∀ nk ∈ scope.names, nk.2 = .free → X.env.kindOf nk.1 = some .cell ∨ X.env.kindOf nk.1 = some .free := fun nk hnk hf => by
    obtain ⟨k, hk, e⟩ := List.mem_iff_getElem.mp (hfree nk hnk hf)
    obtain ⟨_, _, _, hk2, _⟩ := yat k nk.1 (by rw [List.getElem?_eq_getElem hk, e])
    exact hk2
  obtain ⟨cl, hclos, hsub, hhas⟩ := closure_of (scope := scope) (env := X.env) fun nk hnk hf => I.ok.has _ (hkd nk hnk hf)
  rw [eval_ListComp]
  refine wpAny_comprehension_free (use := none) rfl hs hclos hkind hnames (thn (hi pins s σ H _ I h) fun v s1 h1 => thn h1 fun itv s2 h2 => ?_)
  obtain ⟨it, fp, tn, J, H2, e, I2, T, st2, f2, hR⟩ := h2
  subst e
  have hD0 : H2 s2.heap.objs.size = none := I2.fresh
  obtain ⟨W, ⟨m0, w0⟩, turnW⟩ := hR _ hD0
  have I3 : Inv X pins σ (upd H2 s2.heap.objs.size (.lst [])) { s2 with heap := s2.heap.push { cls := .type "list", data := .seq ([] : List Value).toArray } } := I2.lnew (t' := s2.toks) .nil (Nat.zero_le _)
  refine wpAny_newObj_type (wpAny_newFunctionEnv hcell (fun nk hnk => by simp at hnk) (fun h₁ hns₁ hsb₁ => ?_) hkind)
  dsimp only at hns₁ hsb₁ ⊢
  generalize hs3 : ({ s2 with heap := s2.heap.push { cls := .type "list", data := .seq ([] : List Value).toArray } } : Shared) = s3 at I3
  have eh3 : s3.heap = s2.heap.push { cls := .type "list", data := .seq ([] : List Value).toArray } := by rw [← hs3]
  have hC : s3.heap.objs.size = s2.heap.objs.size + 1 := by rw [eh3, Heap.size_push]
  have old : ∀ b o, s3.heap.get? b = some o → h₁.get? b = some o := fun b o e => by
    have hb : b ≠ s3.heap.objs.size := Nat.ne_of_lt (Heap.lt_size e)
    rw [eh3] at e hb
    exact hsb₁.extBut b o hb (Heap.get?_push_of_some _ e)
  have fpl : ∀ b ∈ fp, b < s2.heap.objs.size := fun b hb => let ⟨o, e, _⟩ := T.obj _ _ st2 b hb; Heap.lt_size e
  have fps : ∀ b ∈ fp, b ∉ frs X.stack := fun b hb z => (List.mem_cons.mp (I2.stkSub b z)).elim (f2 b hb).2.1 (f2 b hb).2.2.1
  have fpc : ∀ b ∈ fp, ∀ y c, cl.lookup y = some c → c ≠ b := fun b hb y c e => (f2 b hb).2.2.2.2.1 y c (hsub y c e)
  have cne : ∀ y c, cl.lookup y = some c → c ≠ s3.heap.objs.size := fun y c e z => by
    obtain ⟨v, q⟩ := I3.cell y c (hsub y c e)
    exact absurd q.lt (by rw [z]; exact Nat.lt_irrefl _)
  let X' : Cx := cxCF X scope cl (xs ++ ys) s3.heap.objs.size s3 (upd H2 s2.heap.objs.size (.lst [])) fp
  have okX : X'.Ok := by
    refine ⟨I2.ok.mod, hkind, I2.ok.glob, I2.ok.blt, Nat.le_refl _, fun y z c e1 e2 => I2.ok.inj y z c (hsub _ _ e1) (hsub _ _ e2), fun y hy => hhas y (relab_inv hcell hy), fun y c z _ => absurd z (by simp [X', cxCF]), I2.ok.hd, I2.ok.frames, .inl rfl, fun b hb => ⟨?_, fun y c e => fpc b hb y c e⟩,
      I3.bs, Nat.le_trans I3.ok.bsz I3.sz, fun b o e hb => ?_, fps, I3.stack, I3.stkFree⟩
    · exact Nat.ne_of_lt (Nat.lt_of_lt_of_le (fpl b hb) (by show s2.heap.objs.size ≤ s3.heap.objs.size; rw [hC]; exact Nat.le_succ _))
    · rcases (f2 b hb).2.2.2.1 with z | z
      · exact I2.ok.noex b o e z
      · exact absurd (Nat.lt_of_lt_of_le (Heap.lt_size (I2.ok.bs b o e).1) z) (Nat.lt_irrefl _)
  have stat : ∀ {H' : Hp}, (∀ b ∈ fp, H' b = none) → ∀ b ∈ fp, FpOk X' [] H' b := fun hn b hb => by
    refine ⟨hn b hb, ?_, fps b hb, .inl hb, fun y c e => fpc b hb y c e, fun p hp => absurd (show p ∈ ([] : List (Addr × Obj)) from hp) (by simp)⟩
    exact Nat.ne_of_lt (Nat.lt_of_lt_of_le (fpl b hb) (by show s2.heap.objs.size ≤ s3.heap.objs.size; rw [hC]; exact Nat.le_succ _))
  have I4 : ∀ tk : Nat, Inv X' [] (List.replicate xs.length none ++ frOf σ js) (upd H2 s2.heap.objs.size (.lst [])) { s3 with heap := h₁, toks := tk } := fun tk => by
    refine ⟨okX, rfl, I3.bare, Un.kept old, ⟨_, by rw [← eh3] at hns₁; exact hns₁, fun i y v e1 e2 _ => ?_⟩, fun y c e => let ⟨v, q⟩ := I3.cell y c (hsub y c e); let ⟨o, q1, q2⟩ := q; ⟨v, o, old c o q1, q2⟩, I3.hok.fresh (Nat.le_refl _), fun y c e => I3.freeC y c (hsub y c e), fun p hp => absurd (show p ∈ ([] : List (Addr × Obj)) from hp) (by simp), I3.hok.kept old, by simp [X', cxCF, frOf, ylen]⟩
    by_cases hlt : i < xs.length
    · rw [List.getElem?_append_left (by simpa using hlt), List.getElem?_replicate, if_pos hlt] at e2
      cases e2
    · have hge : xs.length ≤ i := Nat.le_of_not_lt hlt
      have e1' : (xs ++ ys)[i]? = some y := e1
      rw [List.getElem?_append_right hge] at e1'
      rw [List.getElem?_append_right (by simpa using hge), List.length_replicate] at e2
      obtain ⟨j, hj, hN, hk, hfr⟩ := yat _ y e1'
      have e3 : (σ[j]?).join = some v := by
        unfold frOf at e2
        rw [List.getElem?_map, hj] at e2
        exact Option.some.inj e2
      have e4 : σ[j]? = some (some v) := by
        cases q : σ[j]? with
        | none => rw [q] at e3; cases e3
        | some w => rw [q] at e3; have : w = some v := e3; rw [this]
      obtain ⟨m3, _, hl3⟩ := I3.loc
      obtain ⟨u, ru, lk⟩ := hl3 j y v hN e4 (by rcases hk with z | z; exact .inr (.inl z); exact .inr (.inr z))
      refine ⟨u, ru, .inr ⟨relab_free hfr, ?_⟩⟩
      rcases lk with ⟨z, _⟩ | ⟨_, c, hc1, hc2⟩
      · rcases hk with z2 | z2 <;> rw [z] at z2 <;> cases z2
      · obtain ⟨c', hc'⟩ := hhas y hfr
        have : c' = c := by have := hsub y c' hc'; rw [hc1] at this; exact (Option.some.inj this).symm
        subst this
        obtain ⟨o, q1, q2⟩ := hc2
        exact ⟨c', hc', o, old c' o q1, q2⟩
  have fr0 : ∀ b ∈ fp, (upd H2 s2.heap.objs.size (.lst []) : Hp) b = none := fun b hb => by rw [upd_ne (Nat.ne_of_lt (fpl b hb))]; exact (f2 b hb).1
  have st4 : tn 0 h₁ := T.keep 0 _ _ st2 fun b hb o e => old b o (by rw [eh3]; exact Heap.get?_push_of_some _ e)
  have fin : ∀ {σ5 : St} {H' : Hp} {s5 : Shared} {h' : Heap}, Inv X' [] σ5 H' s5 → Heap.SameBut s3.heap.objs.size s5.heap h' → Q (.ref s2.heap.objs.size) H' → EP X pins σ Q (.ref s2.heap.objs.size) { s5 with heap := h' } := by
    intro σ5 H' s5 h' I5 sb q
    obtain ⟨hh, gg, d, t, os'⟩ := s5
    have eo : os' = s3.os := I5.os
    subst eo
    have keepC : ∀ b o, b ≠ s3.heap.objs.size → hh.get? b = some o → h'.get? b = some o := fun b o hb e => sb.extBut b o hb e
    have ne3 : ∀ b o, s3.heap.get? b = some o → b ≠ s3.heap.objs.size := fun b o e => Nat.ne_of_lt (Heap.lt_size e)
    have u : Un (frs X.stack) fp (upd H2 s2.heap.objs.size (.lst [])) H' s3.heap hh := I5.base
    have un : Un (frs X.stack) fp (upd H2 s2.heap.objs.size (.lst [])) H' s3.heap h' :=
      ⟨fun b o e n hb hx => keepC b o (ne3 b o e) (u.keep b o e n hb hx), fun b o e n hb hx => let ⟨sl, q⟩ := u.slot b o e n hb hx; ⟨sl, keepC b _ (ne3 b o e) q⟩, u.free, fun b o e hx => let ⟨o', q⟩ := u.there b o e hx; ⟨o', keepC b o' (ne3 b o e) q⟩, u.tups, u.frzs, u.tbls⟩
    have hfree' : H' s3.heap.objs.size = none := I5.free
    have hok' : HOk X.prog X.w H' h' := fun b u e => by
      refine (I5.hok b u e).stay (fun c v hc q => keepC c v ?_ q) (fun _ q => q) fun _ _ q => q
      rcases hc with z | z
      · rw [z]; intro z2; rw [z2, hfree'] at e; cases e
      · intro z2; rw [z2, hfree'] at z; cases z
    have J := I3.call (h' := h') (g' := gg) (d' := d) (t' := t) (ch := fp) un hok' I5.bare (fun b hb => let ⟨_, h1, _, h2, h3, h4⟩ := f2 b hb; ⟨h2, h1, h3, h4⟩)
    exact ⟨.ref s2.heap.objs.size, H', J, rfl, q⟩
  have loop : ∀ s4 : Shared, (∃ tk, s4 = { s3 with heap := h₁, toks := tk }) →
      codeAny (model X.prog X.w) X.A (.compLoop (.ListComp elt [⟨target, iter, ifs, 0⟩] scope pos) 0 (.ref it) (.ref s2.heap.objs.size) X'.env)
        (compPost (model X.prog X.w) X.A X.xe none (EP X pins σ Q) (.ref s2.heap.objs.size) s3.heap.objs.size) s4 := by
    rintro s4 ⟨tk, rfl⟩
    refine comp_turns (fun n s' => ∃ i ys' pre H', Inv X' [] (pre ++ frOf σ js) H' s' ∧ pre.length = xs.length ∧ tn i s'.heap ∧ (∀ b ∈ fp, H' b = none) ∧ W i n ys' H') ?_ m0 ⟨0, [], List.replicate xs.length none, _, I4 tk, by simp, st4, fr0, w0⟩
    rintro n s5 ⟨i, ys', pre, H5, I5, hpre, st5, fr5, w5⟩
    obtain ⟨hD5, ⟨js5, q⟩ | ⟨jg, step⟩⟩ := turnW i n ys' H5 w5
    · refine wpAny_mono (T.done X' rfl rfl rfl hc i [] s5 _ H5 (fun _ _ => False) I5 (stat fr5) st5 js5) (fun r s6 hr => ?_) fun _ _ z => z.elim
      obtain ⟨rfl, I6⟩ := hr
      obtain ⟨m, hn, _⟩ := I6.loc
      exact ⟨m, hn, fun h' sb => fin I6 sb q⟩
    · refine wpAny_mono (T.item X' rfl rfl rfl hc i [] s5 _ H5 (fun _ _ => False) I5 (stat fr5) st5 jg) (fun r s6 hr => ?_) fun _ _ z => z.elim
      obtain ⟨u, rfl, h6⟩ := hr
      refine wpAny_mono h6 (fun _ s7 h7 => ?_) fun _ _ z => z.elim
      obtain ⟨xv, H7, I7, r7, y7, st7, fr7⟩ := h7
      have I7' := I7.pinned (stat fr7) (T.obj _ _ st7)
      refine wpAny_mono (hg cl s3.heap.objs.size s3 (upd H2 s2.heap.objs.size (.lst [])) fp _ s7 _ H7 xv u _ I7' r7 (step xv H7 y7 pre hpre)) (fun _ s8 h8 => ?_) fun _ _ z => z.elim
      obtain ⟨σ8, H8, I8, ⟨pre', hpre', e8⟩, q8⟩ := h8
      subst e8
      refine wpAny_mono (ht cl s3.heap.objs.size s3 (upd H2 s2.heap.objs.size (.lst [])) fp _ s8 _ H8 _ I8 q8) (fun ok s9 h9 => ?_) fun _ _ z => z.elim
      obtain ⟨H9, I9, q9⟩ := h9
      have stay : ∀ {H' : Hp} {s' : Shared}, Inv X' ([] ++ pinsAt fp s7.heap) (pre' ++ frOf σ js) H' s' → tn (i + 1) s'.heap ∧ ∀ b ∈ fp, H' b = none := fun {H' s'} I' => by
        refine ⟨T.keep _ _ _ st7 fun b hb o e => (I'.pin (b, o) (List.mem_append_right _ (List.mem_append_right _ (mem_pinsAt hb e)))).1, fun b hb => ?_⟩
        obtain ⟨o, e, d⟩ := T.obj _ _ st7 b hb
        exact (I'.pin (b, o) (List.mem_append_right _ (List.mem_append_right _ (mem_pinsAt hb e)))).2.1
      cases ok with
      | false =>
        obtain ⟨m', lt, w9⟩ := (show ∃ m', m' < n ∧ W (i + 1) m' ys' H9 by simpa using q9)
        obtain ⟨k1, k2⟩ := stay I9
        exact ⟨m', lt, i + 1, ys', pre', H9, I9.unpinned, hpre', k1, k2, w9⟩
      | true =>
        have q9' : te (pre' ++ frOf σ js) H9 (fun y H6 => H6 s2.heap.objs.size = some (.lst ys') ∧ ys'.length < sizeLine ∧ ∃ m', m' < n ∧ W (i + 1) m' (ys' ++ [y]) (upd H6 s2.heap.objs.size (.lst (ys' ++ [y])))) := by simpa using q9
        refine wpAny_mono (he cl s3.heap.objs.size s3 (upd H2 s2.heap.objs.size (.lst [])) fp _ s9 _ H9 _ I9 q9') (fun y s10 h10 => ?_) fun _ _ z => z.elim
        obtain ⟨yv, H10, I10, r10, hD10, hl10, m', lt, w10⟩ := h10
        refine wpAny_mono (mt_append (X := X') _ s10 _ H10 (.ref s2.heap.objs.size) [yv] (.ref s2.heap.objs.size) [y] (fun _ H' => H' = upd H10 s2.heap.objs.size (.lst (ys' ++ [yv]))) I10 rfl (.cons r10 .nil) ⟨_, ys', yv, rfl, rfl, hD10, hl10, rfl⟩) (fun _ s11 h11 => ?_) fun _ _ z => z.elim
        obtain ⟨_, H11, I11, _, rfl⟩ := h11
        obtain ⟨k1, k2⟩ := stay I11
        exact ⟨m', lt, i + 1, ys' ++ [yv], pre', _, I11.unpinned, hpre', k1, k2, w10⟩
  have L := loop { s3 with heap := h₁, toks := s2.toks + ([] : List (Str × Value)).length } ⟨_, rfl⟩
  subst hs3
  exact codeAny_compStart_list L (T.self _ 0 _ _ _ st4 L)
end
structure Tells (J : It) (H1 : Hp) (xs : List V) : Prop where
  go : ∀ H2 i, Same H1 H2 → i < xs.length → J.go i H2
  yld : ∀ H2 i x H3, Same H1 H2 → J.yld i H2 x H3 → H3 = H2 ∧ xs[i]? = some x
  stop : ∀ H2, Same H1 H2 → J.stop xs.length H2
theorem tells_tup {K : PySem.W.Frag} {H1 : Hp} {a : Addr} {xs : List V} (h : SqT K H1 a xs) : Tells (Itt K a) H1 xs :=
  ⟨fun H2 i sm hi => ⟨xs, xs[i], sm.tup h, by simp [hi]⟩, fun H2 i x H3 sm y => by obtain ⟨e, y⟩ := y; exact ⟨e, y xs (sm.tup h)⟩, fun H2 sm => ⟨xs, sm.tup h, Nat.le_refl _⟩⟩
theorem tells_list {K : PySem.W.Frag} {H1 : Hp} {a : Addr} {xs : List V} (h : SqL K H1 a xs) : Tells (Itl K a) H1 xs :=
  ⟨fun H2 i sm hi => ⟨xs, xs[i], sm.seq h, by simp [hi]⟩, fun H2 i x H3 sm y => by obtain ⟨e, y⟩ := y; exact ⟨e, y xs (sm.seq h)⟩, fun H2 sm => ⟨xs, sm.seq h, Nat.le_refl _⟩⟩
end L2
namespace HT
open PySem PySem.Spec PyProof.Rows PySem.Builtin
section
variable {prog : Program} {w : World} {A : Around} {E : Value → Shared → Prop} {s : Shared}
theorem applied_back {sl : Addr} {t : Tok} {n : Nat} {Q : Int × Int × Nat → Shared → Prop} (hs : s.heap.IsSliceOf sl .none .none (.int (-1) t)) (h : Q ((n : Int) - 1, -1, n) s) :
    wpAny (model prog w) A (Builtin.Slice.sliceApplied (.ref sl) (pure (n : Int))) Q E s := by
  obtain ⟨os, hos, hcs, hds⟩ := id hs
  unfold Builtin.Slice.sliceApplied Builtin.Slice.sliceFields
  refine wpAny_bind (wpAny_bind (wpAny_field hos hds (x := .none) rfl (wpAny_bind (wpAny_field hos hds (x := .none) rfl (wpAny_bind (wpAny_field hos hds (x := .int (-1) t) rfl (wpAny_pure ?_)))))))
  refine wpAny_bind (slicePart_int ?_)
  show wpAny _ _ (if ((-1 : Int) == 0) = true then _ else _) _ _ s
  rw [if_neg (by decide)]
  refine wpAny_bind (slicePart_none (wpAny_bind (slicePart_none (wpAny_bind (wpAny_pure ?_)))))
  show wpAny _ _ (match Builtin.Slice.sliceAdjust none none (-1) (n : Int) with | (lo, hi) => pure (lo, (-1 : Int), Builtin.Slice.slicePlaces lo hi (-1))) _ _ s
  have e1 : Builtin.Slice.sliceAdjust none none (-1) (n : Int) = ((n : Int) - 1, -1) := rfl
  rw [e1]
  have e2 : Builtin.Slice.slicePlaces ((n : Int) - 1) (-1) (-1) = n := by
    unfold Builtin.Slice.slicePlaces
    have h1 : ¬ ((-1 : Int) > 0) := by decide
    have h2 : (-(-1) : Int) = 1 := by decide
    rw [if_neg h1, h2, Int.ediv_one]
    split <;> omega
  show wpAny _ _ (pure ((n : Int) - 1, (-1 : Int), Builtin.Slice.slicePlaces ((n : Int) - 1) (-1) (-1))) _ _ s
  rw [e2]
  exact wpAny_pure h
theorem pick_back (xs : Array Value) : ((List.range xs.size).filterMap fun (m : Nat) => xs[(((xs.size : Int) - 1) + (m : Int) * (-1)).toNat]?).toArray = xs.toList.reverse.toArray := by
  congr 1
  have e : ∀ m ∈ List.range xs.size, xs[(((xs.size : Int) - 1) + (m : Int) * (-1)).toNat]? = xs.toList.reverse[m]? := fun m hm => by
    have hm' := List.mem_range.mp hm
    have e1 : (((xs.size : Int) - 1) + (m : Int) * (-1)).toNat = xs.size - 1 - m := by omega
    rw [e1, List.getElem?_reverse (by simpa using hm')]
    simp
  have key : ∀ (l : List Value), (List.range l.length).filterMap (fun m => l[m]?) = l := fun l => by
    induction l with
    | nil => rfl
    | cons a r ih =>
      rw [List.length_cons, List.range_succ_eq_map, List.filterMap_cons]
      show a :: List.filterMap (fun m => (a :: r)[m]?) (List.map Nat.succ (List.range r.length)) = a :: r
      rw [List.filterMap_map]
      congr 1
  have hl : xs.toList.reverse.length = xs.size := by simp
  have cong : ∀ (l : List Nat) (f g : Nat → Option Value), (∀ m ∈ l, f m = g m) → l.filterMap f = l.filterMap g := fun l f g => by
    induction l with
    | nil => intro _; rfl
    | cons a r ih =>
      intro h
      rw [List.filterMap_cons, List.filterMap_cons, h a (List.mem_cons_self ..), ih fun m hm => h m (List.mem_cons_of_mem _ hm)]
  rw [cong _ _ _ e, ← hl]
  exact key _
theorem getItem_tuple_back {t sl : Addr} {items : Array Value} {k : Tok} {Q : Value → Shared → Prop} (ht : IsTup s.heap t items) (hs : s.heap.IsSliceOf sl .none .none (.int (-1) k))
    (h : Q (.ref s.heap.objs.size) { s with heap := s.heap.push { cls := .type "tuple", data := .seq items.toList.reverse.toArray } })
    (hsz : items.size ≤ sizeLine) : wpAny (model prog w) A (getItem (.ref t) (.ref sl)) Q E s := by
  have hrev : sizeOk (.seq items.toList.reverse.toArray) := by
    show items.toList.reverse.toArray.size ≤ sizeLine
    simpa using hsz
  obtain ⟨os, hos, hcs, hds⟩ := id hs
  have hTs : s.TypeIs (.ref sl) "slice" := ⟨os, hos, hcs⟩
  unfold getItem
  try with_reducible refine wpAny_holding ?_
  first | refine wpAny_bind (wpAny_pure ?_) | skip
  refine wpAny_bind (wpAny_sequenceKey ht.typeIs (by decide) ?_)
  refine wpAny_bind (wpAny_callSpecial?_slot (name := Str.ofString "__getitem__") ht.typeIs PyProof.Rows.slot_tuple_getitem
    (wpAny_call_entry PyProof.Rows.slot_tuple_getitem ht.typeIs entry_tuple_getitem ?_ (args_tuple_getitem _ _)))
  show wpAny _ _ (Builtin.Tuple.tupleItemsOf (.ref t) >>= _) _ _ s
  refine wpAny_bind (tupleItemsOf_ ht ?_)
  refine wpAny_bind (wpAny_typeOf hTs ?_)
  rw [if_pos (by decide)]
  refine wpAny_bind (applied_back hs ?_)
  have hno : ¬ (((((items.size : Int) - 1) == 0) && ((-1 : Int) == 1) && (items.size == items.size)) = true) := by
    have : ((-1 : Int) == 1) = false := by decide
    rw [this]; simp
  show wpAny _ _ (if ((((items.size : Int) - 1) == 0) && ((-1 : Int) == 1) && (items.size == items.size)) = true then _ else _) _ _ s
  rw [if_neg hno, pick_back]
  first
    | exact wpAny_bind (m := Builtin.Tuple.tupleExact _) (wpAny_newObj_type (wpAny_pure ⟨_, rfl, wpAny_pure h⟩) hrev)
    | exact wpAny_bind (m := Builtin.Tuple.tupleExact _) (wpAny_newObj_type (wpAny_bind (wpAny_pure (wpAny_pure ⟨_, rfl, wpAny_pure h⟩))) hrev)
    | exact wpAny_bind (wpAny_bind (m := Builtin.Tuple.tupleExact _) (wpAny_newObj_type (wpAny_pure (wpAny_pure ⟨_, rfl, wpAny_pure h⟩)) hrev))
    | exact wpAny_bind (wpAny_bind (m := Builtin.Tuple.tupleExact _) (wpAny_newObj_type (wpAny_pure ⟨_, rfl, wpAny_pure h⟩) hrev))
end
end HT
namespace L2
open PySem PySem.Spec PyProof.Rows
theorem Vals.rev {xs : List V} {us : List Value} (h : Vals xs us) : Vals xs.reverse us.reverse := by
  induction h with
  | nil => exact .nil
  | cons r t ih =>
    rw [List.reverse_cons, List.reverse_cons]
    exact ih.append (.cons r .nil)
section
variable {X : Cx}
def tRev (K : PySem.W.Frag) (te : TE) : TE := fun σ H Q => te σ H fun x H1 => ∃ a xs, x = .ref a ∧ SqT K H1 a xs ∧ ∀ p, H1 p = none → Q (.ref p) (upd H1 p (.tup xs.reverse))
theorem pe_rev {e : Expr} {te : TE} {j : Nat} {p p' p2 pos : Pos} (he : PE X e te) : PE X (.Subscript e (.Slice none none (some (.UnaryOp .USub (.Constant (.int 1) j p) p')) p2) pos) (tRev X.K te) := by
  intro pins s σ H Q I h
  refine Subscript_ (thn (he pins s σ H _ I h) fun v s1 ⟨x, H1, I1, r1, q1⟩ => ?_)
  obtain ⟨a, xs, rfl, hx, q⟩ := q1
  cases r1
  refine wpAny_Slice ?_
  rw [evalPart_none]
  refine wpAny_pure ?_
  refine wpAny_pure ?_
  have hm : PO X (some (.UnaryOp .USub (.Constant (.int 1) j p) p')) (tPart (tUn (fun x H Q => ∃ i, x = .int i ∧ Q (.int (-i)) H) (tC (.int 1)))) := po_some (pe_un un_neg pe_int)
  refine thn (hm pins s1 σ H1 (fun o H' => o = some (-1) ∧ H' = H1) I1 ?_) fun vs s2 ⟨o, H2, I2, po, eo, eH⟩ => ?_
  · exact ⟨_, rfl, -1, rfl, rfl, rfl⟩
  subst eo eH
  cases po with
  | int i t =>
    have I3 : Inv X pins σ H2 { s2 with heap := s2.heap.push { cls := .type "slice", data := .fields #[.none, .none, .int (-1) t] } } := I2.kept (t' := s2.toks) fun b ob q => Heap.get?_push_of_some _ q
    obtain ⟨its, r, ht, hz⟩ := I3.tuple hx
    have hlen : its.toArray.size = xs.length := by rw [List.size_toArray]; exact r.length.symm
    refine tail_any (ops := [.ref a, .ref s2.heap.objs.size]) (T := "tuple") ht.typeIs PyProof.Rows.slot_tuple_getitem.lookup ?_ (by with_unfolding_all rfl)
    refine HT.getItem_tuple_back ht (Heap.IsSliceOf.new ..) ?_ (by rw [hlen]; exact hz)
    refine ⟨.ref _, _, I3.laid (t' := s2.toks) (o := .tup xs.reverse) (fun b ob q => Heap.get?_push_of_some _ q) (Nat.le_refl _) ?_, rfl, q _ (I3.hok.fresh (Nat.le_refl _))⟩
    exact ⟨by simpa using hz, _, r.rev, IsTupN.new _ _⟩
end
theorem sIx_nat (n d : Nat) (k : Nat) : HT.sIx n d (some (k : Int)) = min k n := by
  show (if ((k : Int)) < 0 then (((k : Int)) + (n : Int)).toNat else min ((k : Int)).toNat n) = _
  rw [if_neg (by omega)]
  simp
theorem cut_to (xs : List V) (k : Nat) : cutV xs none (some (k : Int)) = xs.take k := by
  unfold cutV
  rw [sIx_nat]
  show (xs.drop 0).take (min k xs.length - 0) = _
  rw [List.drop_zero, Nat.sub_zero]
  by_cases h : k ≤ xs.length
  · rw [Nat.min_eq_left h]
  · rw [Nat.min_eq_right (by omega), List.take_length, List.take_of_length_le (by omega)]
theorem cut_from (xs : List V) (k : Nat) : cutV xs (some (k : Int)) none = xs.drop k := by
  unfold cutV
  rw [sIx_nat]
  show (xs.drop (min k xs.length)).take (xs.length - min k xs.length) = _
  rw [List.take_of_length_le (by rw [List.length_drop]; exact Nat.le_refl _)]
  by_cases h : k ≤ xs.length
  · rw [Nat.min_eq_left h]
  · rw [Nat.min_eq_right (by omega), List.drop_length, List.drop_of_length_le (by omega)]
end L2
namespace L2
open PySem PySem.Spec PyProof.Rows
section
variable {X : Cx}
theorem op_eqNil (hu : X.A.units < cLine) : OpR X (compareOp .Eq) (fun x y H Q => ∃ a b xs, x = .ref a ∧ y = .ref b ∧ SqL X.K H a xs ∧ SqL X.K H b [] ∧ Q (.bl xs.isEmpty) H) := by
  intro pins s σ H x y v u Q I rx ry h
  obtain ⟨a, b, xs, rfl, rfl, ha, hb, q⟩ := h
  cases rx
  cases ry
  obtain ⟨its, r1, p1, _⟩ := I.list ha
  obtain ⟨its2, r2, p2, _⟩ := I.list hb
  have e2 : its2 = [] := r2.nil_iff.mpr rfl
  subst e2
  cases xs with
  | nil =>
    have e1 : its = [] := r1.nil_iff.mpr rfl
    subst e1
    exact SeqAt.eq_listAt (e := fun _ => true) p1.isList p2.isList rfl hu (fun j h1 _ => absurd h1 (by simp)) ⟨.bl true, H, I, rfl, q⟩
  | cons z zs =>
    have hl := r1.length
    refine SeqAt.eq_list_lengthsAt p1.isList p2.isList ?_ hu ⟨.bl false, H, I, rfl, q⟩
    rw [List.size_toArray, List.size_toArray, ← hl]
    simp
variable {e : Expr} {es : List Expr} {te : TE} {t : TA} {tg : Expr}
end
end L2
namespace L2
open PySem PySem.Spec PyProof.Rows
section
variable {X : Cx}
theorem ps_compF {ix : Nat} {yn : Str} {py spos : Pos} {elt iter target : Expr} {ifs : List Expr} {xs ys : List Str} {js : List Nat} {pos : Pos} {scope : Scope} {wi : TI} {g : TG} {tt : TT} {te : TE} (hc : X.calm = true)
    (hfree : ∀ nk ∈ scope.names, nk.2 = .free → nk.1 ∈ ys) (hcell : ∀ nk ∈ scope.names, nk.2 ≠ .cell) (hkind : scope.kind = .function)
    (hnames : ∀ nk ∈ scope.names, nk.2 = .local → scope.names.lookup nk.1 = some .local) (hfo : FreeOk X scope ys js)
    (hi : PI X target iter wi) (hg : ∀ cl C s H fp, PG (cxCF X scope cl (xs ++ ys) C s H fp) target g) (ht : ∀ cl C s H fp, PTs (cxCF X scope cl (xs ++ ys) C s H fp) ifs tt)
    (he : ∀ cl C s H fp, PE (cxCF X scope cl (xs ++ ys) C s H fp) elt te)
    (hN : X.N.Nodup) (hix : X.N[ix]? = some yn) (hyn : Loc X.env.scope yn)
    (hs : ∀ v, foldedSetIterable iter X.env v = pure v := by intro _; rfl) (hsw : swapsWith (.ListComp elt [⟨target, iter, ifs, 0⟩] scope pos) (some (.Name yn py)) spos.line X.env = pure true := by rfl)
    (hf : X.fn yn = true ∨ X.env.scope.names.lookup yn = some .local := by first | exact .inl rfl | exact .inr rfl | assumption) :
    PS X (.Assign [.Name yn py] (.ListComp elt [⟨target, iter, ifs, 0⟩] scope pos) spos) (tAsg (tCompF wi g xs.length js tt te) (gName ix)) := by
  intro pins s σ H D0 I h
  obtain ⟨Q, hQ⟩ : ∃ Q : VK, Q = fun x H1 => gName ix x σ H1 D0.nx := ⟨_, rfl⟩
  have h : tCompF wi g xs.length js tt te σ H Q := by rw [hQ]; exact h
  obtain ⟨ylen, yat⟩ := hfo.at
  have hkd : ∀ nk ∈ scope.names, nk.2 = .free → X.env.kindOf nk.1 = some .cell ∨ X.env.kindOf nk.1 = some .free := fun nk hnk hf => by
    obtain ⟨k, hk, e⟩ := List.mem_iff_getElem.mp (hfree nk hnk hf)
    obtain ⟨_, _, _, hk2, _⟩ := yat k nk.1 (by rw [List.getElem?_eq_getElem hk, e])
    exact hk2
  obtain ⟨cl, hclos, hsub, hhas⟩ := closure_of (scope := scope) (env := X.env) fun nk hnk hf => I.ok.has _ (hkd nk hnk hf)
  rw [exec_Assign_Name_used _ _ _ _ hsw]
  refine wpAny_bind (wpAny_standAt (wpAny_bind ?_))
  show wpAny _ X.A (do let _ ← comprehension (.ListComp elt [⟨target, iter, ifs, 0⟩] scope pos) scope X.env _ (newList []) false (eval iter X.env) (some (assign (.Name yn py) X.env))) _ _ s
  refine wpAny_bind (wpAny_mono (wpAny_comprehension_free (use := some (assign (.Name yn py) X.env)) (Q := fun _ s' => SP X pins D0 .next s') rfl hs hclos hkind hnames (thn (hi pins s σ H _ I h) fun v s1 h1 => thn h1 fun itv s2 h2 => ?_)) (fun _ s' hq => wpAny_pure (wpAny_pure hq)) fun _ _ e => e)
  obtain ⟨it, fp, tn, J, H2, e, I2, T, st2, f2, hR⟩ := h2
  subst e
  have hD0 : H2 s2.heap.objs.size = none := I2.fresh
  obtain ⟨W, ⟨m0, w0⟩, turnW⟩ := hR _ hD0
  have I3 : Inv X pins σ (upd H2 s2.heap.objs.size (.lst [])) { s2 with heap := s2.heap.push { cls := .type "list", data := .seq ([] : List Value).toArray } } := I2.lnew (t' := s2.toks) .nil (Nat.zero_le _)
  refine wpAny_newObj_type (wpAny_newFunctionEnv hcell (fun nk hnk => by simp at hnk) (fun h₁ hns₁ hsb₁ => ?_) hkind)
  dsimp only at hns₁ hsb₁ ⊢
  generalize hs3 : ({ s2 with heap := s2.heap.push { cls := .type "list", data := .seq ([] : List Value).toArray } } : Shared) = s3 at I3
  have eh3 : s3.heap = s2.heap.push { cls := .type "list", data := .seq ([] : List Value).toArray } := by rw [← hs3]
  have hC : s3.heap.objs.size = s2.heap.objs.size + 1 := by rw [eh3, Heap.size_push]
  have old : ∀ b o, s3.heap.get? b = some o → h₁.get? b = some o := fun b o e => by
    have hb : b ≠ s3.heap.objs.size := Nat.ne_of_lt (Heap.lt_size e)
    rw [eh3] at e hb
    exact hsb₁.extBut b o hb (Heap.get?_push_of_some _ e)
  have fpl : ∀ b ∈ fp, b < s2.heap.objs.size := fun b hb => let ⟨o, e, _⟩ := T.obj _ _ st2 b hb; Heap.lt_size e
  have fps : ∀ b ∈ fp, b ∉ frs X.stack := fun b hb z => (List.mem_cons.mp (I2.stkSub b z)).elim (f2 b hb).2.1 (f2 b hb).2.2.1
  have fpc : ∀ b ∈ fp, ∀ y c, cl.lookup y = some c → c ≠ b := fun b hb y c e => (f2 b hb).2.2.2.2.1 y c (hsub y c e)
  have cne : ∀ y c, cl.lookup y = some c → c ≠ s3.heap.objs.size := fun y c e z => by
    obtain ⟨v, q⟩ := I3.cell y c (hsub y c e)
    exact absurd q.lt (by rw [z]; exact Nat.lt_irrefl _)
  let X' : Cx := cxCF X scope cl (xs ++ ys) s3.heap.objs.size s3 (upd H2 s2.heap.objs.size (.lst [])) fp
  have okX : X'.Ok := by
    refine ⟨I2.ok.mod, hkind, I2.ok.glob, I2.ok.blt, Nat.le_refl _, fun y z c e1 e2 => I2.ok.inj y z c (hsub _ _ e1) (hsub _ _ e2), fun y hy => hhas y (relab_inv hcell hy), fun y c z _ => absurd z (by simp [X', cxCF]), I2.ok.hd, I2.ok.frames, .inl rfl, fun b hb => ⟨?_, fun y c e => fpc b hb y c e⟩,
      I3.bs, Nat.le_trans I3.ok.bsz I3.sz, fun b o e hb => ?_, fps, I3.stack, I3.stkFree⟩
    · exact Nat.ne_of_lt (Nat.lt_of_lt_of_le (fpl b hb) (by show s2.heap.objs.size ≤ s3.heap.objs.size; rw [hC]; exact Nat.le_succ _))
    · rcases (f2 b hb).2.2.2.1 with z | z
      · exact I2.ok.noex b o e z
      · exact absurd (Nat.lt_of_lt_of_le (Heap.lt_size (I2.ok.bs b o e).1) z) (Nat.lt_irrefl _)
  have stat : ∀ {H' : Hp}, (∀ b ∈ fp, H' b = none) → ∀ b ∈ fp, FpOk X' [] H' b := fun hn b hb => by
    refine ⟨hn b hb, ?_, fps b hb, .inl hb, fun y c e => fpc b hb y c e, fun p hp => absurd (show p ∈ ([] : List (Addr × Obj)) from hp) (by simp)⟩
    exact Nat.ne_of_lt (Nat.lt_of_lt_of_le (fpl b hb) (by show s2.heap.objs.size ≤ s3.heap.objs.size; rw [hC]; exact Nat.le_succ _))
  have I4 : ∀ tk : Nat, Inv X' [] (List.replicate xs.length none ++ frOf σ js) (upd H2 s2.heap.objs.size (.lst [])) { s3 with heap := h₁, toks := tk } := fun tk => by
    refine ⟨okX, rfl, I3.bare, Un.kept old, ⟨_, by rw [← eh3] at hns₁; exact hns₁, fun i y v e1 e2 _ => ?_⟩, fun y c e => let ⟨v, q⟩ := I3.cell y c (hsub y c e); let ⟨o, q1, q2⟩ := q; ⟨v, o, old c o q1, q2⟩, I3.hok.fresh (Nat.le_refl _), fun y c e => I3.freeC y c (hsub y c e), fun p hp => absurd (show p ∈ ([] : List (Addr × Obj)) from hp) (by simp), I3.hok.kept old, by simp [X', cxCF, frOf, ylen]⟩
    by_cases hlt : i < xs.length
    · rw [List.getElem?_append_left (by simpa using hlt), List.getElem?_replicate, if_pos hlt] at e2
      cases e2
    · have hge : xs.length ≤ i := Nat.le_of_not_lt hlt
      have e1' : (xs ++ ys)[i]? = some y := e1
      rw [List.getElem?_append_right hge] at e1'
      rw [List.getElem?_append_right (by simpa using hge), List.length_replicate] at e2
      obtain ⟨j, hj, hN, hk, hfr⟩ := yat _ y e1'
      have e3 : (σ[j]?).join = some v := by
        unfold frOf at e2
        rw [List.getElem?_map, hj] at e2
        exact Option.some.inj e2
      have e4 : σ[j]? = some (some v) := by
        cases q : σ[j]? with
        | none => rw [q] at e3; cases e3
        | some w => rw [q] at e3; have : w = some v := e3; rw [this]
      obtain ⟨m3, _, hl3⟩ := I3.loc
      obtain ⟨u, ru, lk⟩ := hl3 j y v hN e4 (by rcases hk with z | z; exact .inr (.inl z); exact .inr (.inr z))
      refine ⟨u, ru, .inr ⟨relab_free hfr, ?_⟩⟩
      rcases lk with ⟨z, _⟩ | ⟨_, c, hc1, hc2⟩
      · rcases hk with z2 | z2 <;> rw [z] at z2 <;> cases z2
      · obtain ⟨c', hc'⟩ := hhas y hfr
        have : c' = c := by have := hsub y c' hc'; rw [hc1] at this; exact (Option.some.inj this).symm
        subst this
        obtain ⟨o, q1, q2⟩ := hc2
        exact ⟨c', hc', o, old c' o q1, q2⟩
  have fr0 : ∀ b ∈ fp, (upd H2 s2.heap.objs.size (.lst []) : Hp) b = none := fun b hb => by rw [upd_ne (Nat.ne_of_lt (fpl b hb))]; exact (f2 b hb).1
  have st4 : tn 0 h₁ := T.keep 0 _ _ st2 fun b hb o e => old b o (by rw [eh3]; exact Heap.get?_push_of_some _ e)
  have fin : ∀ {σ5 : St} {H' : Hp} {s5 : Shared} {h' : Heap}, Inv X' [] σ5 H' s5 → Heap.SameBut s3.heap.objs.size s5.heap h' → Inv X pins σ H' { s5 with heap := h' } := by
    intro σ5 H' s5 h' I5 sb
    obtain ⟨hh, gg, d, t, os'⟩ := s5
    have eo : os' = s3.os := I5.os
    subst eo
    have keepC : ∀ b o, b ≠ s3.heap.objs.size → hh.get? b = some o → h'.get? b = some o := fun b o hb e => sb.extBut b o hb e
    have ne3 : ∀ b o, s3.heap.get? b = some o → b ≠ s3.heap.objs.size := fun b o e => Nat.ne_of_lt (Heap.lt_size e)
    have u : Un (frs X.stack) fp (upd H2 s2.heap.objs.size (.lst [])) H' s3.heap hh := I5.base
    have un : Un (frs X.stack) fp (upd H2 s2.heap.objs.size (.lst [])) H' s3.heap h' :=
      ⟨fun b o e n hb hx => keepC b o (ne3 b o e) (u.keep b o e n hb hx), fun b o e n hb hx => let ⟨sl, q⟩ := u.slot b o e n hb hx; ⟨sl, keepC b _ (ne3 b o e) q⟩, u.free, fun b o e hx => let ⟨o', q⟩ := u.there b o e hx; ⟨o', keepC b o' (ne3 b o e) q⟩, u.tups, u.frzs, u.tbls⟩
    have hfree' : H' s3.heap.objs.size = none := I5.free
    have hok' : HOk X.prog X.w H' h' := fun b u e => by
      refine (I5.hok b u e).stay (fun c v hc q => keepC c v ?_ q) (fun _ q => q) fun _ _ q => q
      rcases hc with z | z
      · rw [z]; intro z2; rw [z2, hfree'] at e; cases e
      · intro z2; rw [z2, hfree'] at z; cases z
    have J := I3.call (h' := h') (g' := gg) (d' := d) (t' := t) (ch := fp) un hok' I5.bare (fun b hb => let ⟨_, h1, _, h2, h3, h4⟩ := f2 b hb; ⟨h2, h1, h3, h4⟩)
    exact J
  have loop : ∀ s4 : Shared, (∃ tk, s4 = { s3 with heap := h₁, toks := tk }) →
      codeAny (model X.prog X.w) X.A (.compLoop (.ListComp elt [⟨target, iter, ifs, 0⟩] scope pos) 0 (.ref it) (.ref s2.heap.objs.size) X'.env)
        (compPost (model X.prog X.w) X.A X.xe (some (assign (.Name yn py) X.env)) (fun _ s' => SP X pins D0 .next s') (.ref s2.heap.objs.size) s3.heap.objs.size) s4 := by
    rintro s4 ⟨tk, rfl⟩
    refine comp_turns (fun n s' => ∃ i ys' pre H', Inv X' [] (pre ++ frOf σ js) H' s' ∧ pre.length = xs.length ∧ tn i s'.heap ∧ (∀ b ∈ fp, H' b = none) ∧ W i n ys' H') ?_ m0 ⟨0, [], List.replicate xs.length none, _, I4 tk, by simp, st4, fr0, w0⟩
    rintro n s5 ⟨i, ys', pre, H5, I5, hpre, st5, fr5, w5⟩
    obtain ⟨hD5, ⟨js5, q⟩ | ⟨jg, step⟩⟩ := turnW i n ys' H5 w5
    · refine wpAny_mono (T.done X' rfl rfl rfl hc i [] s5 _ H5 (fun _ _ => False) I5 (stat fr5) st5 js5) (fun r s6 hr => ?_) fun _ _ z => z.elim
      obtain ⟨rfl, I6⟩ := hr
      obtain ⟨m, hn, _⟩ := I6.loc
      have J6 : Inv X pins σ H5 s6 := fin I6 (Heap.SameBut.refl _ _)
      have fpC : FpOk X pins H5 s3.heap.objs.size := I3.fpOk (Nat.le_refl _) I6.free
      obtain ⟨oC, esC, epC, goC, gdC, restC⟩ := id hn
      have J7 := J6.pinned (fp := [s3.heap.objs.size]) (fun b hb => by rw [List.mem_singleton.mp hb]; exact fpC) (fun b hb => by rw [List.mem_singleton.mp hb]; exact ⟨oC, goC, fun v z => by rw [gdC] at z; cases z⟩)
      show wpAny _ X.A (assign (.Name yn py) X.env (.ref s2.heap.objs.size)) _ _ s6
      refine wpAny_mono (pg_name (X := X) (pos := py) (i := ix) hN hix hyn hf _ s6 σ H5 (.ref s2.heap.objs.size) (.ref s2.heap.objs.size) (fun σ' H'' => σ' = σ.set ix (some (.ref s2.heap.objs.size)) ∧ H'' = H5) J7 rfl ⟨rfl, rfl⟩) (fun _ s7 h7 => ?_) fun _ _ z => z
      obtain ⟨σ7, H7, I7, rfl, rfl⟩ := h7
      have g7 : s7.heap.get? s3.heap.objs.size = some oC := (I7.pin (s3.heap.objs.size, oC) (List.mem_append_right _ (List.mem_append_right _ (mem_pinsAt (List.mem_singleton.mpr rfl) goC)))).1
      refine ⟨m, ⟨oC, esC, epC, g7, gdC, restC⟩, fun h'' sb => ⟨_, _, I7.unpinned.turned (t' := s7.toks) (fun b o hb e => sb.extBut b o hb e) fpC.1 fpC.2.1 fpC.2.2.2.1 fpC.2.2.2.2.1 fpC.2.2.2.2.2, ?_⟩⟩
      rw [hQ] at q
      exact q
    · refine wpAny_mono (T.item X' rfl rfl rfl hc i [] s5 _ H5 (fun _ _ => False) I5 (stat fr5) st5 jg) (fun r s6 hr => ?_) fun _ _ z => z.elim
      obtain ⟨u, rfl, h6⟩ := hr
      refine wpAny_mono h6 (fun _ s7 h7 => ?_) fun _ _ z => z.elim
      obtain ⟨xv, H7, I7, r7, y7, st7, fr7⟩ := h7
      have I7' := I7.pinned (stat fr7) (T.obj _ _ st7)
      refine wpAny_mono (hg cl s3.heap.objs.size s3 (upd H2 s2.heap.objs.size (.lst [])) fp _ s7 _ H7 xv u _ I7' r7 (step xv H7 y7 pre hpre)) (fun _ s8 h8 => ?_) fun _ _ z => z.elim
      obtain ⟨σ8, H8, I8, ⟨pre', hpre', e8⟩, q8⟩ := h8
      subst e8
      refine wpAny_mono (ht cl s3.heap.objs.size s3 (upd H2 s2.heap.objs.size (.lst [])) fp _ s8 _ H8 _ I8 q8) (fun ok s9 h9 => ?_) fun _ _ z => z.elim
      obtain ⟨H9, I9, q9⟩ := h9
      have stay : ∀ {H' : Hp} {s' : Shared}, Inv X' ([] ++ pinsAt fp s7.heap) (pre' ++ frOf σ js) H' s' → tn (i + 1) s'.heap ∧ ∀ b ∈ fp, H' b = none := fun {H' s'} I' => by
        refine ⟨T.keep _ _ _ st7 fun b hb o e => (I'.pin (b, o) (List.mem_append_right _ (List.mem_append_right _ (mem_pinsAt hb e)))).1, fun b hb => ?_⟩
        obtain ⟨o, e, d⟩ := T.obj _ _ st7 b hb
        exact (I'.pin (b, o) (List.mem_append_right _ (List.mem_append_right _ (mem_pinsAt hb e)))).2.1
      cases ok with
      | false =>
        obtain ⟨m', lt, w9⟩ := (show ∃ m', m' < n ∧ W (i + 1) m' ys' H9 by simpa using q9)
        obtain ⟨k1, k2⟩ := stay I9
        exact ⟨m', lt, i + 1, ys', pre', H9, I9.unpinned, hpre', k1, k2, w9⟩
      | true =>
        have q9' : te (pre' ++ frOf σ js) H9 (fun y H6 => H6 s2.heap.objs.size = some (.lst ys') ∧ ys'.length < sizeLine ∧ ∃ m', m' < n ∧ W (i + 1) m' (ys' ++ [y]) (upd H6 s2.heap.objs.size (.lst (ys' ++ [y])))) := by simpa using q9
        refine wpAny_mono (he cl s3.heap.objs.size s3 (upd H2 s2.heap.objs.size (.lst [])) fp _ s9 _ H9 _ I9 q9') (fun y s10 h10 => ?_) fun _ _ z => z.elim
        obtain ⟨yv, H10, I10, r10, hD10, hl10, m', lt, w10⟩ := h10
        refine wpAny_mono (mt_append (X := X') _ s10 _ H10 (.ref s2.heap.objs.size) [yv] (.ref s2.heap.objs.size) [y] (fun _ H' => H' = upd H10 s2.heap.objs.size (.lst (ys' ++ [yv]))) I10 rfl (.cons r10 .nil) ⟨_, ys', yv, rfl, rfl, hD10, hl10, rfl⟩) (fun _ s11 h11 => ?_) fun _ _ z => z.elim
        obtain ⟨_, H11, I11, _, rfl⟩ := h11
        obtain ⟨k1, k2⟩ := stay I11
        exact ⟨m', lt, i + 1, ys' ++ [yv], pre', _, I11.unpinned, hpre', k1, k2, w10⟩
  have L := loop { s3 with heap := h₁, toks := s2.toks + ([] : List (Str × Value)).length } ⟨_, rfl⟩
  subst hs3
  exact codeAny_compStart_list L (T.self _ 0 _ _ _ st4 L)
end
end L2
namespace L2
open PySem PySem.Spec PyProof.Rows
inductive Dat where
  | non
  | int (i : Int)
  | str (x : Str)
  | tup (ds : List Dat)
mutual
def Dat.beq : Dat → Dat → Bool
  | .non, .non => true
  | .int i, .int j => i == j
  | .str x, .str y => x == y
  | .tup ds, .tup es => Dat.beqs ds es
  | _, _ => false
def Dat.beqs : List Dat → List Dat → Bool
  | [], [] => true
  | d :: ds, e :: es => Dat.beq d e && Dat.beqs ds es
  | _, _ => false
end
mutual
def Dat.deep : Dat → Nat
  | .tup ds => Dat.deeps ds + 1
  | _ => 0
def Dat.deeps : List Dat → Nat
  | [] => 0
  | d :: ds => max (Dat.deep d) (Dat.deeps ds)
end
mutual
def IsDat (K : PySem.W.Frag) (H : Hp) : Dat → V → Prop
  | .non, x => x = .non
  | .int i, x => x = .int i
  | .str z, x => x = .str z
  | .tup ds, x => ∃ a xs, x = .ref a ∧ SqT K H a xs ∧ AreDat K H ds xs
def AreDat (K : PySem.W.Frag) (H : Hp) : List Dat → List V → Prop
  | [], xs => xs = []
  | d :: ds, xs => ∃ y ys, xs = y :: ys ∧ IsDat K H d y ∧ AreDat K H ds ys
end
mutual
theorem IsDat.same {K : PySem.W.Frag} {H H' : Hp} (s : Same H H') : ∀ {d : Dat} {x : V}, IsDat K H d x → IsDat K H' d x
  | .non, _, h => h
  | .int _, _, h => h
  | .str _, _, h => h
  | .tup _, _, ⟨a, xs, e, hq, hs⟩ => ⟨a, xs, e, s.tup hq, AreDat.same s hs⟩
theorem AreDat.same {K : PySem.W.Frag} {H H' : Hp} (s : Same H H') : ∀ {ds : List Dat} {xs : List V}, AreDat K H ds xs → AreDat K H' ds xs
  | [], _, h => h
  | _ :: _, _, ⟨y, ys, e, h1, h2⟩ => ⟨y, ys, e, IsDat.same s h1, AreDat.same s h2⟩
end
theorem AreDat.length {K : PySem.W.Frag} {H : Hp} : ∀ {ds : List Dat} {xs : List V}, AreDat K H ds xs → xs.length = ds.length
  | [], _, h => by rw [show _ = [] from h]; rfl
  | _ :: _, _, ⟨y, ys, e, _, h2⟩ => by rw [e, List.length_cons, List.length_cons, AreDat.length h2]
theorem AreDat.get {K : PySem.W.Frag} {H : Hp} : ∀ {ds : List Dat} {xs : List V} {j : Nat} {d : Dat}, AreDat K H ds xs → ds[j]? = some d → ∃ x, xs[j]? = some x ∧ IsDat K H d x
  | [], _, _, _, _, e => by simp at e
  | d :: ds, _, j, d', ⟨y, ys, e, h1, h2⟩, he => by
    subst e
    cases j with
    | zero => simp at he; subst he; exact ⟨y, rfl, h1⟩
    | succ j => simpa using AreDat.get h2 (by simpa using he)
theorem deep_at : ∀ {ds : List Dat} {d : Dat}, d ∈ ds → Dat.deep d ≤ Dat.deeps ds
  | d' :: ds, d, h => by
    show _ ≤ max _ _
    rcases List.mem_cons.mp h with rfl | h
    · exact Nat.le_max_left _ _
    · exact Nat.le_trans (deep_at h) (Nat.le_max_right _ _)
theorem beqs_all : ∀ (ds es : List Dat), Dat.beqs ds es = ((List.range (min ds.length es.length)).all (fun j => Dat.beq (ds.getD j .non) (es.getD j .non)) && ds.length == es.length)
  | [], [] => by simp [Dat.beqs]
  | [], e :: es => by simp [Dat.beqs]
  | d :: ds, [] => by simp [Dat.beqs]
  | d :: ds, e :: es => by
    have ih := beqs_all ds es
    have hm : min (d :: ds).length (e :: es).length = min ds.length es.length + 1 := by simp only [List.length_cons]; omega
    rw [hm, List.range_succ_eq_map, List.all_cons, List.all_map]
    show (Dat.beq d e && Dat.beqs ds es) = _
    rw [ih]
    simp only [List.length_cons, List.getD_cons_zero, Function.comp_def, List.getD_cons_succ, Nat.add_right_cancel_iff, Bool.and_assoc]
    congr 2
    by_cases h : ds.length = es.length <;> simp [h]
mutual
theorem beq_refl : ∀ d : Dat, Dat.beq d d = true
  | .non => rfl
  | .int _ => by simp [Dat.beq]
  | .str _ => by simp [Dat.beq]
  | .tup ds => beqs_refl ds
theorem beqs_refl : ∀ ds : List Dat, Dat.beqs ds ds = true
  | [] => rfl
  | d :: ds => by show (Dat.beq d d && Dat.beqs ds ds) = true; rw [beq_refl d, beqs_refl ds]; rfl
end
end L2
namespace L2
open PySem PySem.Spec PyProof.Rows
section
variable {X : Cx} {pins : List (Addr × Obj)} {σ : St} {H : Hp} {s : Shared}
mutual
theorem dat_det (I : Inv X pins σ H s) : ∀ {d e : Dat} {x : V}, IsDat X.K H d x → IsDat X.K H e x → Dat.beq d e = true
  | .non, .non, _, _, _ => rfl
  | .int i, .int j, _, h1, h2 => by
    have : V.int i = V.int j := (show _ = V.int i from h1).symm.trans h2
    injection this with this
    simp [Dat.beq, this]
  | .str i, .str j, _, h1, h2 => by
    have : V.str i = V.str j := (show _ = V.str i from h1).symm.trans h2
    injection this with this
    simp [Dat.beq, this]
  | .tup ds, .tup es, _, ⟨a, xs, e1, q1, h1⟩, ⟨b, ys, e2, q2, h2⟩ => by
    have e : V.ref a = V.ref b := e1.symm.trans e2
    injection e with e
    subst e
    have := I.tuple_inj q1 q2
    subst this
    exact dats_det I h1 h2
  | .non, .int j, _, h1, h2 => by have : V.non = V.int j := (show _ = V.non from h1).symm.trans h2; cases this
  | .non, .str j, _, h1, h2 => by have : V.non = V.str j := (show _ = V.non from h1).symm.trans h2; cases this
  | .non, .tup es, _, h1, ⟨b, ys, e2, _⟩ => by have : V.non = V.ref b := (show _ = V.non from h1).symm.trans e2; cases this
  | .int i, .non, _, h1, h2 => by have : V.int i = V.non := (show _ = V.int i from h1).symm.trans h2; cases this
  | .int i, .str j, _, h1, h2 => by have : V.int i = V.str j := (show _ = V.int i from h1).symm.trans h2; cases this
  | .int i, .tup es, _, h1, ⟨b, ys, e2, _⟩ => by have : V.int i = V.ref b := (show _ = V.int i from h1).symm.trans e2; cases this
  | .str i, .non, _, h1, h2 => by have : V.str i = V.non := (show _ = V.str i from h1).symm.trans h2; cases this
  | .str i, .int j, _, h1, h2 => by have : V.str i = V.int j := (show _ = V.str i from h1).symm.trans h2; cases this
  | .str i, .tup es, _, h1, ⟨b, ys, e2, _⟩ => by have : V.str i = V.ref b := (show _ = V.str i from h1).symm.trans e2; cases this
  | .tup ds, .non, _, ⟨a, xs, e1, _⟩, h2 => by have : V.ref a = V.non := e1.symm.trans h2; cases this
  | .tup ds, .int j, _, ⟨a, xs, e1, _⟩, h2 => by have : V.ref a = V.int j := e1.symm.trans h2; cases this
  | .tup ds, .str j, _, ⟨a, xs, e1, _⟩, h2 => by have : V.ref a = V.str j := e1.symm.trans h2; cases this
theorem dats_det (I : Inv X pins σ H s) : ∀ {ds es : List Dat} {xs : List V}, AreDat X.K H ds xs → AreDat X.K H es xs → Dat.beqs ds es = true
  | [], [], _, _, _ => rfl
  | [], e :: es, _, h1, ⟨y, ys, e2, _⟩ => by have : ([] : List V) = y :: ys := (show _ = [] from h1).symm.trans e2; cases this
  | d :: ds, [], _, ⟨y, ys, e1, _⟩, h2 => by have : y :: ys = ([] : List V) := e1.symm.trans h2; cases this
  | d :: ds, e :: es, _, ⟨y, ys, e1, a1, b1⟩, ⟨z, zs, e2, a2, b2⟩ => by
    have e' : y :: ys = z :: zs := e1.symm.trans e2
    injection e' with h1 h2
    subst h1 h2
    show (Dat.beq d e && Dat.beqs ds es) = true
    rw [dat_det I a1 a2, dats_det I b1 b2]
    rfl
end
end
end L2
namespace L2
open PySem PySem.Spec PyProof.Rows
section
variable {X : Cx} {pins : List (Addr × Obj)} {σ : St} {H : Hp} {s : Shared}
theorem dat_at {A : Around} {ds : List Dat} {xs : List V} {its : List Value} {j : Nat} (h : AreDat X.K H ds xs) (r : Vals xs its) (hj : j < its.toArray.size) :
    ∃ x, IsDat X.K H (ds.getD j .non) x ∧ RelV x its.toArray[j] ∧ ds.getD j .non ∈ ds := by
  have hl := h.length
  have hr := r.length
  have hj' : j < its.length := by simpa using hj
  have hd : j < ds.length := by omega
  have e : ds[j]? = some (ds.getD j .non) := by rw [List.getD_eq_getElem?_getD, List.getElem?_eq_getElem hd]; rfl
  obtain ⟨x, hx, hi⟩ := h.get e
  obtain ⟨u, hu, ru⟩ := r.get hx
  refine ⟨x, hi, ?_, List.mem_of_getElem? e⟩
  have : its.toArray[j] = u := by
    rw [List.getElem?_eq_getElem hj'] at hu
    have := Option.some.inj hu
    simpa using this
  rw [this]
  exact ru
theorem dat_eqAt (I : Inv X pins σ H s) : ∀ (n : Nat) (A : Around) {d e : Dat} {x y : V} {u v : Value}, Dat.deep d ≤ n → A.units + n < cLine → IsDat X.K H d x → IsDat X.K H e y → RelV x u → RelV y v → SeqAt.EqAt A s u v (Dat.beq d e) := by
  intro n
  induction n with
  | zero =>
    intro A d e x y u v hn hu hd he rx ry
    cases d with
    | tup ds => exact absurd hn (by simp [Dat.deep])
    | non =>
      cases (show x = .non from hd)
      cases e with
      | non => cases (show y = .non from he); exact eqAt_V rx ry rfl rfl
      | int j => cases (show y = .int j from he); exact eqAt_V rx ry rfl rfl
      | str j => cases (show y = .str j from he); exact eqAt_V rx ry rfl rfl
      | tup es =>
        obtain ⟨b, ys, rfl, q2, _⟩ := he
        obtain ⟨its2, r2, p2, _⟩ := I.tuple q2
        cases rx; cases ry
        exact SeqAt.EqAt.none_tuple p2 (by omega)
    | int i =>
      cases (show x = .int i from hd)
      cases e with
      | non => cases (show y = .non from he); exact eqAt_V rx ry rfl rfl
      | int j => cases (show y = .int j from he); exact eqAt_V rx ry rfl rfl
      | str j => cases (show y = .str j from he); exact eqAt_V rx ry rfl rfl
      | tup es =>
        obtain ⟨b, ys, rfl, q2, _⟩ := he
        obtain ⟨its2, r2, p2, _⟩ := I.tuple q2
        obtain ⟨t, rfl⟩ := rx; cases ry
        exact SeqAt.EqAt.int_tuple i t p2 (by omega)
    | str i =>
      cases (show x = .str i from hd)
      cases e with
      | non => cases (show y = .non from he); exact eqAt_V rx ry rfl rfl
      | int j => cases (show y = .int j from he); exact eqAt_V rx ry rfl rfl
      | str j => cases (show y = .str j from he); exact eqAt_V rx ry rfl rfl
      | tup es =>
        obtain ⟨b, ys, rfl, q2, _⟩ := he
        obtain ⟨its2, r2, p2, _⟩ := I.tuple q2
        obtain ⟨t, rfl⟩ := rx; cases ry
        exact SeqAt.EqAt.str_tuple i t p2 (by omega)
  | succ n ih =>
    intro A d e x y u v hn hu hd he rx ry
    cases d with
    | non => exact ih A (Nat.zero_le _) (by omega) hd he rx ry
    | int i => exact ih A (Nat.zero_le _) (by omega) hd he rx ry
    | str i => exact ih A (Nat.zero_le _) (by omega) hd he rx ry
    | tup ds =>
      obtain ⟨a, xs, rfl, q1, h1⟩ := hd
      obtain ⟨its, r1, p1, _⟩ := I.tuple q1
      cases rx
      cases e with
      | non => cases (show y = .non from he); cases ry; exact SeqAt.EqAt.tuple_none p1 (by omega)
      | int j => cases (show y = .int j from he); obtain ⟨t, rfl⟩ := ry; exact SeqAt.EqAt.tuple_int j t p1 (by omega)
      | str j => cases (show y = .str j from he); obtain ⟨t, rfl⟩ := ry; exact SeqAt.EqAt.tuple_str j t p1 (by omega)
      | tup es =>
        obtain ⟨b, ys, rfl, q2, h2⟩ := he
        obtain ⟨its2, r2, p2, _⟩ := I.tuple q2
        cases ry
        by_cases hab : a = b
        · subst hab
          have := I.tuple_inj q1 q2
          subst this
          have e : Dat.beq (.tup ds) (.tup es) = true := dats_det I h1 h2
          rw [e]
          exact SeqAt.EqAt.same _
        · have l1 := h1.length
          have l2 := h2.length
          have s1 : its.toArray.size = ds.length := by rw [List.size_toArray, ← r1.length, l1]
          have s2 : its2.toArray.size = es.length := by rw [List.size_toArray, ← r2.length, l2]
          have key := SeqAt.RcAt.tuples (e := fun j => Dat.beq (ds.getD j .non) (es.getD j .non)) p1 p2 (by omega : A.units < cLine) fun j j1 j2 => by
            obtain ⟨x', d1, rx', m1⟩ := dat_at (A := A) h1 r1 j1
            obtain ⟨y', d2, ry', _⟩ := dat_at (A := A) h2 r2 j2
            have hdp : Dat.deep (ds.getD j .non) ≤ n := by
              have h3 := deep_at m1
              have h4 : Dat.deeps ds + 1 ≤ n + 1 := hn
              omega
            exact ih A.in1 hdp (by show A.units + 1 + n < cLine; omega) d1 d2 rx' ry'
          rw [s1, s2, ← beqs_all] at key
          exact SeqAt.EqAt.of_refs hab key
end
end L2
namespace HL
open PySem PySem.SeqAt
open AutoSeq1 (wpAny_loadPart')
open MeetsSeq MeetsSeq2 MeetsSeq3
def LtAt (A : Around) (s : Shared) (y x : Value) (b : Bool) : Prop :=
  ∀ (prog : Program) (w : World) (E : Value → Shared → Prop) (Q : Value → Shared → Prop), Q (.bool b) s → wpAny (model prog w) A (richCompare .Lt y x) Q E s
def lexB (e g : Nat → Bool) (fin : Bool) : List Nat → Bool
  | [] => fin
  | j :: r => if e j = true then lexB e g fin r else g j
theorem tuple_ltAt (p q : Addr) (xs ys : Array Value) (n n2 : Nat) (dp dq : Option Addr) (sp sq : Array (Option Value)) (e g : Nat → Bool) :
    Meets (Builtin.«tuple.__lt__» ⟨[.ref p, .ref q], []⟩)
      (fun A R s => s.heap.get? p = some { cls := .type "tuple", dict := dp, data := .seq xs n, slots := sp } ∧ s.heap.get? q = some { cls := .type "tuple", dict := dq, data := .seq ys n2, slots := sq } ∧
        (∀ j (h1 : j < xs.size) (h2 : j < ys.size), EqAt A.in1 s xs[j] ys[j] (e j)) ∧ (∀ j (h1 : j < xs.size) (h2 : j < ys.size), e j = false → LtAt A.in1 s xs[j] ys[j] (g j)) ∧
        R (.ok (.ret (.bool (lexB e g (decide (xs.size < ys.size)) (List.range (min xs.size ys.size)))))) s) :=
  .of_wp fun prog w A R s h => by
    obtain ⟨hp, gs, d, tk, os⟩ := s; obtain ⟨g1, g2, he, hg, h⟩ := h
    have sub := AutoSeq1.sub_tuple_tuple
    have hZ : (xs.toList.zip ys.toList).length = min xs.size ys.size := by simp
    wp_walk using wpAny_loadPart' g1, wpAny_loadPart' g2, wpAny_forIn_list _ (fun rest b s' => b.1 = none ∧ s' = ⟨hp, gs, d, tk, os⟩ ∧ ∃ i, rest = (xs.toList.zip ys.toList).drop i ∧
      R (.ok (.ret (.bool (lexB e g (decide (xs.size < ys.size)) ((List.range (min xs.size ys.size)).drop i))))) ⟨hp, gs, d, tk, os⟩) _
    case turn =>
      rintro ⟨y, x⟩ rest b s' ⟨hb', rfl, i, hz, hR⟩
      have hlt : i < (xs.toList.zip ys.toList).length := Nat.lt_of_not_le fun z => by rw [List.drop_of_length_le z] at hz; cases hz
      have hm : i < min xs.size ys.size := hZ ▸ hlt
      have h1 : i < xs.size := by omega
      have h2 : i < ys.size := by omega
      rw [List.drop_eq_getElem_cons hlt] at hz
      injection hz with hyx hrest
      obtain rfl : y = xs[i] := by simpa using congrArg Prod.fst hyx
      obtain rfl : x = ys[i] := by simpa using congrArg Prod.snd hyx
      have hd : (List.range (min xs.size ys.size)).drop i = i :: (List.range (min xs.size ys.size)).drop (i + 1) := by simp [List.drop_eq_getElem_cons, hm]
      rw [hd] at hR
      have step : lexB e g (decide (xs.size < ys.size)) (i :: (List.range (min xs.size ys.size)).drop (i + 1)) = if e i = true then lexB e g (decide (xs.size < ys.size)) ((List.range (min xs.size ys.size)).drop (i + 1)) else g i := rfl
      rw [step] at hR
      refine wpAny_bind (he i h1 h2 prog w _ _ ?_)
      cases hy : e i with
      | true =>
        rw [hy] at hR
        wp_walk
        exact ⟨rfl, rfl, i + 1, hrest, by simpa using hR⟩
      | false =>
        rw [hy] at hR
        have hg' := hg i h1 h2 hy
        simp only [Bool.not_false, if_true]
        exact wpAny_bind (wpAny_rule (wpAny_bind (hg' prog w _ _ (wpAny_bind (wpAny_pure (wpAny_pure (wpAny_pure ⟨_, rfl, by simpa using hR⟩)))))))
    case fin =>
      rintro ⟨b1, b2⟩ s' ⟨hb', rfl, i, hz, hR⟩
      simp only at hb'
      subst hb'
      have hge : min xs.size ys.size ≤ i := Nat.le_of_not_lt fun z => by
        rw [List.drop_eq_getElem_cons (hZ.symm ▸ z)] at hz; cases hz
      rw [List.drop_of_length_le (by simpa using hge)] at hR
      wp_walk
      exact ⟨_, rfl, by simpa [Builtin.Tuple.tupleCompareSizes, lexB] using hR⟩
    case h =>
      exact ⟨rfl, rfl, 0, rfl, by simpa using h⟩
section
variable {A : Around} {s : Shared}
theorem LtAt.tuples {p q : Addr} {xs ys : Array Value} {e g : Nat → Bool} (hp : s.heap.IsTuple p xs) (hq : s.heap.IsTuple q ys) (hu : A.units < cLine)
    (he : ∀ j (h1 : j < xs.size) (h2 : j < ys.size), EqAt A.in1 s xs[j] ys[j] (e j)) (hg : ∀ j (h1 : j < xs.size) (h2 : j < ys.size), e j = false → LtAt A.in1 s xs[j] ys[j] (g j)) :
    LtAt A s (.ref p) (.ref q) (lexB e g (decide (xs.size < ys.size)) (List.range (min xs.size ys.size))) := fun prog w E Q h => by
  obtain ⟨⟨c1, d1, da1, s1⟩, o1, k1, n1, e1⟩ := id hp
  obtain ⟨⟨c2, d2, da2, s2⟩, o2, k2, n2, e2⟩ := id hq
  simp only at k1 e1 k2 e2
  subst k1 e1 k2 e2
  exact richCompare_meets_room (op := .Lt) ⟨_, o1, rfl⟩ ⟨_, o2, rfl⟩ F.slot_tuple_lt F.entry_tuple_lt (F.args_tuple_lt_2 _ _) (tuple_ltAt p q xs ys n1 n2 d1 d2 s1 s2 e g)
    ⟨o1, o2, he, hg, show Value.bool (lexB e g (decide (xs.size < ys.size)) (List.range (min xs.size ys.size))) ≠ Value.notImplemented ∧ Q _ s from ⟨(fun x => nomatch x), h⟩⟩ hu
theorem LtAt.int (a : Int) (t : Tok) (b : Int) (u : Tok) : LtAt A s (.int a t) (.int b u) (decide (a < b)) := fun _ _ _ _ h => PyProof.Rows.lt_int h
theorem LtAt.str (a : Str) (t : Tok) (b : Str) (u : Tok) : LtAt A s (.str a t) (.str b u) (decide (a.cps.toList < b.cps.toList)) := fun _ _ _ _ h => PyProof.Rows.lt_str h
end
end HL
namespace L2
open PySem PySem.Spec PyProof.Rows HL
mutual
def Dat.lt : Dat → Dat → Bool
  | .int i, .int j => decide (i < j)
  | .str x, .str y => decide (x.cps.toList < y.cps.toList)
  | .tup ds, .tup es => Dat.lts ds es
  | _, _ => false
def Dat.lts : List Dat → List Dat → Bool
  | _, [] => false
  | [], _ :: _ => true
  | d :: ds, e :: es => if Dat.beq d e = true then Dat.lts ds es else Dat.lt d e
end
mutual
def Dat.cmp : Dat → Dat → Bool
  | .int _, .int _ => true
  | .str _, .str _ => true
  | .tup ds, .tup es => Dat.cmps ds es
  | _, _ => false
def Dat.cmps : List Dat → List Dat → Bool
  | _, [] => true
  | [], _ :: _ => true
  | d :: ds, e :: es => Dat.cmp d e && Dat.cmps ds es
end
section
variable {X : Cx} {pins : List (Addr × Obj)} {σ : St} {H : Hp} {s : Shared}
end
end L2
namespace HX
open PySem
def Tb (h : Heap) (e T : Addr) (cls fl : Value) : Prop :=
  ∃ oe vs oT ts, T ≠ e ∧ h.get? e = some oe ∧ oe.cls = cls ∧ oe.data = .fields vs ∧ vs[1]? = some (.ref T) ∧ h.get? T = some oT ∧ oT.data = .fields ts ∧ ts[3]? = some fl
structure Mvd (S ch : List Addr) (h h' : Heap) : Prop where
  size : h.objs.size ≤ h'.objs.size
  keep : ∀ b o, b ∉ S → b ∉ ch → h.get? b = some o → h'.get? b = some o
  slot : ∀ b o, b ∉ ch → h.get? b = some o → ∃ sl, h'.get? b = some { o with slots := sl }
theorem Mvd.trans {S ch ch2 : List Addr} {h h1 h2 : Heap} (x : Mvd S ch h h1) (y : Mvd S ch2 h1 h2) (hs : ∀ b ∈ ch2, b ∈ ch ∨ h.get? b = none) : Mvd S ch h h2 where
  size := Nat.le_trans x.size y.size
  keep := fun b o n1 n2 e => y.keep b o n1 (fun z => (hs b z).elim n2 fun k => by rw [k] at e; cases e) (x.keep b o n1 n2 e)
  slot := fun b o n e => by
    obtain ⟨s1, e1⟩ := x.slot b o n e
    obtain ⟨s2, e2⟩ := y.slot b _ (fun z => (hs b z).elim n fun k => by rw [k] at e; cases e) e1
    exact ⟨s2, e2⟩
section
variable {M : Model} {A : Around} {E : Value → Shared → Prop} {s : Shared} {base : Heap} {env : Env} {outer : List Env} {L e T : Addr} {cls fl : Value}
theorem tb_notFrame (hl : s.heap.FunFrames base (env :: outer)) {oe : Obj} {vs : Array Value} (he : s.heap.get? e = some oe) (hd : oe.data = .fields vs) : e ∉ (env :: outer).filterMap (·.frame) := fun hm => by
  obtain ⟨_, o, ho, hnf⟩ := hl.mem hm
  rw [he] at ho
  cases ho
  exact hnf vs hd
theorem entry {oe : Obj} {vs : Array Value} {head : Value} {hadNext : Bool} {Q : Unit → Shared → Prop} (hfr : A.frames = some (env :: outer)) (hl : s.heap.FunFrames base (env :: outer)) (hf : env.frame = some L)
    (he : s.heap.get? e = some oe) (hd : oe.data = .fields vs) (hsz : 1 < vs.size)
    (h : ∀ h', Mvd ((env :: outer).filterMap (·.frame)) [e] s.heap h' → Tb h' e s.heap.objs.size oe.cls (rawInt L) → Q () { s with heap := h' }) :
    wpAny M A (do let a ← frameOf env; let pl ← entryPlaceOf L hadNext; let b ← EntryCells.newEntry head a .none (rawInt L) .none pl; setField (.ref e) 1 b) Q E s := by
  have ne := tb_notFrame hl he hd
  refine wpAny_bind (wpAny_frameOf_fun hfr hl hf fun g1 m1 => ?_)
  refine wpAny_bind (wpAny_entryPlaceOf fun pp hpp => ?_)
  unfold EntryCells.newEntry
  unfold newFields
  refine wpAny_bind (wpAny_newObj_type ?_ (hpp.sizeOk5 _ _ _ _ _))
  obtain ⟨tb, htb⟩ : ∃ tb : Obj, tb = { cls := .type "traceback", dict := none, data := .fields ([head, .ref L, .none, rawInt L, .none] ++ (if pp.isEmpty then List.replicate 6 Value.none else pp)).toArray } := ⟨_, rfl⟩
  have e1 : g1.get? e = some oe := (m1.2.1 e ne).trans he
  have e2 : (g1.push tb).get? e = some oe := Heap.get?_push_of_some _ e1
  have hT : g1.objs.size = s.heap.objs.size := m1.1
  have hTe : g1.objs.size ≠ e := Nat.ne_of_gt (Heap.lt_size e1)
  rw [← htb]
  refine wpAny_setField e2 hd hsz (h _ ⟨?_, fun b o b1 b2 eb => ?_, fun b o b2 eb => ?_⟩ ?_)
  · rw [Heap.size_after_update]
    show _ ≤ (g1.push tb).objs.size
    rw [PyProof.Rows.size_push', hT]
    exact Nat.le_succ _
  · have hb : b ≠ e := fun z => b2 (by simp [z])
    rw [Heap.get?_update_other _ _ (Ne.symm hb)]
    exact Heap.get?_push_of_some _ ((m1.2.1 b b1).trans eb)
  · have hb : b ≠ e := fun z => b2 (by simp [z])
    obtain ⟨sl, q⟩ := m1.2.2 b o eb
    rw [Heap.get?_update_other _ _ (Ne.symm hb)]
    exact ⟨sl, Heap.get?_push_of_some _ q⟩
  · have d3 := Obj.data_mapFields hd (·.setIfInBounds 1 (Value.ref g1.objs.size))
    have e3 := Heap.get?_update_self (Obj.mapFields (·.setIfInBounds 1 (Value.ref g1.objs.size))) e2 (Obj.isFreed_of_fields d3)
    have t3 : ((g1.push tb).update e (Obj.mapFields (·.setIfInBounds 1 (Value.ref g1.objs.size)))).get? g1.objs.size = some tb := by
      rw [Heap.get?_update_other _ _ (Ne.symm hTe)]
      exact Heap.get?_push_size _ (by rw [htb]; rfl)
    rw [← hT]
    refine ⟨_, _, tb, _, hTe, e3, Obj.cls_mapFields _ _, d3, by simp [hsz], t3, by rw [htb], ?_⟩
    rcases hpp with rfl | ⟨_, _, _, _, _, _, _, rfl⟩ <;> simp
theorem setNone {Q : Unit → Shared → Prop} (t : Tb s.heap e T cls fl) (h : ∀ h', Mvd [] [T] s.heap h' → Tb h' e T cls .none → Q () { s with heap := h' }) : wpAny M A (setFlight (.ref e) none) Q E s := by
  obtain ⟨oe, vs, oT, ts, hTe, he, hc, hd, h1, hT, hdT, h3⟩ := t
  have z3 : 3 < ts.size := (Array.getElem?_eq_some_iff.mp h3).1
  unfold setFlight
  refine wpAny_bind (wpAny_field he hd h1 ?_)
  rw [if_pos (show (Value.ref T != Value.none) = true by simp)]
  refine wpAny_setField hT hdT z3 (h _ ⟨?_, fun b o _ b2 eb => ?_, fun b o b2 eb => ?_⟩ ?_)
  · rw [Heap.size_after_update]; exact Nat.le_refl _
  · rw [Heap.get?_update_other _ _ fun z => b2 (by simp [z])]; exact eb
  · exact ⟨o.slots, by rw [Heap.get?_update_other _ _ fun z => b2 (by simp [z])]; exact eb⟩
  · have d3 := Obj.data_mapFields hdT (·.setIfInBounds 3 ((none : Option Addr).elim Value.none fun f => rawInt f))
    exact ⟨oe, vs, _, _, hTe, by rw [Heap.get?_update_other _ _ hTe]; exact he, hc, hd, h1, Heap.get?_update_self _ hT (Obj.isFreed_of_fields d3), d3, by simp [z3]⟩
theorem note_first {oe : Obj} {vs : Array Value} {Q : Unit → Shared → Prop} (hfr : A.frames = some (env :: outer)) (hl : s.heap.FunFrames base (env :: outer)) (hf : env.frame = some L)
    (he : s.heap.get? e = some oe) (hd : oe.data = .fields vs) (h1 : vs[1]? = some .none)
    (h : ∀ h', Mvd ((env :: outer).filterMap (·.frame)) [e] s.heap h' → Tb h' e s.heap.objs.size oe.cls (rawInt L) → Q () { s with heap := h' }) : wpAny M A (noteFrame (.ref e) env) Q E s := by
  unfold noteFrame
  simp only [hf]
  refine wpAny_bind (wpAny_field he hd h1 ?_)
  rw [if_neg (by decide)]
  exact entry hfr hl hf he hd (Array.getElem?_eq_some_iff.mp h1).1 h
theorem note_next {Q : Unit → Shared → Prop} (hfr : A.frames = some (env :: outer)) (hl : s.heap.FunFrames base (env :: outer)) (hf : env.frame = some L) (t : Tb s.heap e T cls .none)
    (h : ∀ h', Mvd ((env :: outer).filterMap (·.frame)) [e, T] s.heap h' → Tb h' e s.heap.objs.size cls (rawInt L) → Q () { s with heap := h' }) : wpAny M A (noteFrame (.ref e) env) Q E s := by
  obtain ⟨oe, vs, oT, ts, hTe, he, hc, hd, h1, hT, hdT, h3⟩ := t
  subst hc
  unfold noteFrame
  simp only [hf]
  refine wpAny_bind (wpAny_field he hd h1 ?_)
  rw [if_pos (show (Value.ref T != Value.none) = true by simp)]
  refine wpAny_bind (wpAny_field hT hdT h3 ?_)
  rw [if_neg (show ¬ ((Value.none == rawInt L) = true) by simp [rawInt])]
  refine wpAny_bind (wpAny_setField hT hdT (Array.getElem?_eq_some_iff.mp h3).1 ?_)
  have oth : ∀ b, b ≠ T → (s.heap.update T (Obj.mapFields (·.setIfInBounds 3 Value.none))).get? b = s.heap.get? b := fun b hb => Heap.get?_update_other _ _ (Ne.symm hb)
  have hz : (s.heap.update T (Obj.mapFields (·.setIfInBounds 3 Value.none))).objs.size = s.heap.objs.size := Heap.size_after_update ..
  have nT : ∀ b o, s.heap.get? b = some o → (∀ vs, o.data ≠ .fields vs) → b ≠ T := fun b o hb hnf q => by
    rw [q, hT] at hb
    cases hb
    exact hnf ts hdT
  refine entry (s := { s with heap := s.heap.update T (Obj.mapFields (·.setIfInBounds 3 Value.none)) }) hfr (hl.of_keeps fun b o hb hnf => ⟨o, (oth b (nT b o hb hnf)).trans hb, rfl⟩) hf ((oth e (Ne.symm hTe)).trans he) hd (Array.getElem?_eq_some_iff.mp h1).1 fun h' m t' => h h' ?_ ?_
  · exact ⟨by have := m.size; rw [hz] at this; exact this, fun b o b1 b2 eb => m.keep b o b1 (fun z => b2 (by rw [List.mem_singleton.mp z]; simp)) ((oth b fun z => b2 (by simp [z])).trans eb),
      fun b o b2 eb => m.slot b o (fun z => b2 (by rw [List.mem_singleton.mp z]; simp)) ((oth b fun z => b2 (by simp [z])).trans eb)⟩
  · have : Tb h' e (s.heap.update T (Obj.mapFields (·.setIfInBounds 3 Value.none))).objs.size oe.cls (rawInt L) := t'
    rw [hz] at this
    exact this
theorem leave_first {oe : Obj} {vs : Array Value} {Q : Unit → Shared → Prop} (hfr : A.frames = some (env :: outer)) (hl : s.heap.FunFrames base (env :: outer)) (hf : env.frame = some L)
    (he : s.heap.get? e = some oe) (hd : oe.data = .fields vs) (h1 : vs[1]? = some .none)
    (h : ∀ h', Mvd ((env :: outer).filterMap (·.frame)) [e] s.heap h' → Tb h' e s.heap.objs.size oe.cls .none → Q () { s with heap := h' }) : wpAny M A (leaving env (.ref e)) Q E s := by
  unfold leaving
  refine wpAny_bind (note_first hfr hl hf he hd h1 fun h1' m1 t1 => setNone t1 fun h2 m2 t2 => h h2 (m1.trans ⟨m2.size, fun b o _ b2 => m2.keep b o (by simp) b2, m2.slot⟩ fun b hb => .inr (by rw [List.mem_singleton.mp hb]; exact Heap.get?_none_of_le (Nat.le_refl _))) t2)
end
end HX
namespace L2
open PySem PySem.Spec PyProof.Rows
def CXE (P : Program) (w : World) : CXT := fun outer H s E ev s' => ∃ e T cls H', ev = .ref e ∧ HX.Tb s'.heap e T cls .none ∧ s.heap.get? e = none ∧ s.heap.get? T = none ∧ H' e = none ∧ H' T = none ∧
  s'.os = s.os ∧ AllBare s'.gens ∧ Un (frs outer) [] H H' s.heap s'.heap ∧ HOk P w H' s'.heap ∧ E cls none H'
theorem un_moved {fs S ch : List Addr} {H H1 : Hp} {h h1 h2 : Heap} (u : Un fs [] H H1 h h1) (m : HX.Mvd S ch h1 h2) (hS : ∀ b, b < h.objs.size → b ∈ S → b ∈ fs) (hch : ∀ b ∈ ch, h.get? b = none) : Un fs [] H H1 h h2 := by
  have nc : ∀ {b o}, h.get? b = some o → b ∉ ch := fun {b o} e z => by rw [hch b z] at e; cases e
  refine ⟨fun b o e n nf nx => m.keep b o (fun z => nf (hS b (Heap.lt_size e) z)) (nc e) (u.keep b o e n nf nx), fun b o e n nf nx => ?_, u.free, fun b o e nx => ?_, u.tups, u.frzs, u.tbls⟩
  · obtain ⟨sl, q⟩ := u.slot b o e n nf nx
    obtain ⟨sl2, q2⟩ := m.slot b _ (nc e) q
    exact ⟨sl2, q2⟩
  · obtain ⟨o', q⟩ := u.there b o e nx
    obtain ⟨sl2, q2⟩ := m.slot b _ (nc e) q
    exact ⟨_, q2⟩
theorem hok_moved {P : Program} {w : World} {S ch : List Addr} {H : Hp} {h h' : Heap} (ok : HOk P w H h) (m : HX.Mvd S ch h h') (hS : ∀ b ∈ S, H b = none) (hch : ∀ b ∈ ch, H b = none) : HOk P w H h' := fun a o e => by
  refine (ok a o e).stay (fun b u hb q => m.keep b u (fun z => ?_) (fun z => ?_) q) (fun _ q => q) fun _ _ q => q
  · rcases hb with rfl | hb
    · rw [hS _ z] at e; cases e
    · rw [hS _ z] at hb; cases hb
  · rcases hb with rfl | hb
    · rw [hch _ z] at e; cases e
    · rw [hch _ z] at hb; cases hb
theorem ObjOk.ob {P : Program} {w : World} {H : Hp} {h : Heap} {a : Addr} {o : HO} (x : ObjOk P w H h a o) : ∃ q, h.get? a = some q := by
  cases o with
  | lst xs => obtain ⟨_, _, _, _, e⟩ := x; exact ⟨_, e⟩
  | tup xs => obtain ⟨_, _, _, ⟨o, e, _⟩, _⟩ := x; exact ⟨_, e⟩
  | dK kvs => obtain ⟨_, _, _, _, o, _, _, e, _⟩ := x; exact ⟨_, e⟩
  | dT kvs => obtain ⟨_, _, _, _, o, _, _, e, _⟩ := x; exact ⟨_, e⟩
  | set S n => obtain ⟨o, _, _, _, e, _⟩ := x; exact ⟨_, e⟩
  | ins C dx fs => obtain ⟨_, _, _, e, _⟩ := x; exact ⟨_, e⟩
  | own y => obtain ⟨_, e⟩ := x; exact ⟨_, e⟩
  | xd fs => obtain ⟨_, ⟨_, _, _, e, _⟩, _⟩ := x; exact ⟨_, e⟩
  | rng lo hi => obtain ⟨_, _, _, e⟩ := x; exact ⟨_, e⟩
  | frz ob u => obtain ⟨e, _⟩ := x; exact ⟨_, e⟩
  | tbl ps => exact ⟨_, x⟩
  | met f y => exact ⟨_, x⟩
  | ext φ => obtain ⟨_, ⟨_, e⟩, _⟩ := x; exact ⟨_, e⟩
theorem HOk.no {P : Program} {w : World} {H : Hp} {h : Heap} {a : Addr} (x : HOk P w H h) (e : h.get? a = none) : H a = none := by
  cases q : H a with
  | none => rfl
  | some u => obtain ⟨o, z⟩ := (x a u q).ob; rw [e] at z; cases z
theorem Inv.none0 {X : Cx} {pins : List (Addr × Obj)} {σ : St} {H : Hp} {s : Shared} (I : Inv X pins σ H s) (hx : X.ex = []) {b : Addr} (q : s.heap.get? b = none) : X.s₀.heap.get? b = none := by
  cases e : X.s₀.heap.get? b with
  | none => rfl
  | some o => obtain ⟨o', z⟩ := I.base.there b o e (by rw [hx]; simp); rw [q] at z; cases z
def Raises (X : Cx) (E : XK) : Prop := ∀ (pins : List (Addr × Obj)) (σ : St) (H : Hp) (s : Shared) (h' : Heap) (e : Addr) (cls : Value) (args : List Value), Inv X pins σ H s → Heap.MadeExcOf s.heap h' e cls args → E cls none H → X.xe (.ref e) { s with heap := h' }
section
variable {P : Program} {w : World} {K : PySem.W.Frag} {mg : Str → Option Value} {base : Heap} {N : List Str} {qual : Str} {scope : Scope} {f : Addr} {cd : Value} {A : Around} {outer : List Env} {s0 : Shared} {H0 : Hp} {E E' : XK}
theorem raises_cx : Raises (cxOf (CXE P w) P w K mg base N qual scope f cd A outer s0 H0 E) E := by
  intro pins σ H1 s1 h' e cls args I hx hE
  obtain ⟨t, he, htn, ht⟩ := hx.there
  have J := I.kept (t' := s1.toks) hx.keeps
  have sz1 : ∀ b, s1.heap.get? b = none → s0.heap.get? b = none := fun b q => I.none0 rfl q
  have sz2 : s0.heap.objs.size ≤ h'.objs.size := J.sz
  have le : s1.heap.get? e = none := hx.new
  refine HX.leave_first (base := base) (outer := outer) (s := { s1 with heap := h' }) J.ok.frames J.stack rfl he rfl rfl fun h2 m t' => ?_
  refine ⟨e, _, cls, H1, rfl, t', sz1 _ le, Heap.get?_none_of_le sz2, I.hok.no le, J.hok.fresh (Nat.le_refl _), J.os, J.bare, un_moved J.base m (fun b hb z => ?_) (fun b hb => ?_), hok_moved J.hok m (fun b hb => J.stkFree b hb) (fun b hb => ?_), hE⟩
  · rcases List.mem_cons.mp (J.stkSub b z) with q | q
    · have := J.ok.above
      have hb' : b < (cxOf (CXE P w) P w K mg base N qual scope f cd A outer s0 H0 E).s₀.heap.objs.size := hb
      rw [q] at hb'
      exact absurd hb' (Nat.not_lt.mpr this)
    · exact q
  · rw [List.mem_singleton.mp hb]; exact sz1 _ le
  · rw [List.mem_singleton.mp hb]; exact I.hok.no le
end
section
variable {X : Cx} {pins : List (Addr × Obj)} {σ : St} {H : Hp} {s : Shared}
theorem Inv.reX {A' : Around} {c : Bool} {xe : Value → Shared → Prop} (I : Inv X pins σ H s) (hf : A'.frames = X.A.frames) (hd : c = true → A'.handled = none) : Inv { X with A := A', calm := c, xe := xe } pins σ H s :=
  ⟨⟨I.ok.mod, I.ok.kind, I.ok.glob, I.ok.blt, I.ok.above, I.ok.inj, I.ok.has, I.ok.cab, hd, hf.trans I.ok.frames, I.ok.stk, I.ok.exf, I.ok.bs, I.ok.bsz, I.ok.noex, I.ok.exfs, I.ok.funs, I.ok.frf⟩,
    I.os, I.bare, I.base, I.loc, I.cell, I.free, I.freeC, I.pin, I.hok, I.len⟩
theorem Inv.unX {A' : Around} {c : Bool} {xe : Value → Shared → Prop} (I : Inv { X with A := A', calm := c, xe := xe } pins σ H s) (J : X.Ok) : Inv X pins σ H s :=
  ⟨J, I.os, I.bare, I.base, I.loc, I.cell, I.free, I.freeC, I.pin, I.hok, I.len⟩
def PSx (X : Cx) (st : List Stmt) (t : Ends → XK → St → Hp → Prop) : Prop :=
  ∀ (pins : List (Addr × Obj)) (s : Shared) (σ : St) (H : Hp) (D : Ends) (E : XK) (xe : Value → Shared → Prop), Inv X pins σ H s → t D E σ H →
    (∀ ev s1 H1 s', Inv X pins σ H1 s1 → CXE X.prog X.w X.stack H1 s1 E ev s' → xe ev s') → wpAny (model X.prog X.w) X.A (execs st X.env) (SP X pins D) xe s
end
end L2
namespace L2
open PySem PySem.Spec PyProof.Rows
section
variable {X : Cx}
def tRaise (C : Addr) (E : XK) (ta : TA) : TS := fun _ σ H => ta σ H fun vs H1 => vs.length ≤ 10 ∧ E (.ref C) none H1
theorem ps_raise {E : XK} {x : Str} {C : Addr} {bm bmN : List Value} {newId Bn inN B nid initId : String} {e0 : Expr} {rest : List Expr} {ta : TA} {np cpos pos : Pos} (hc : X.calm = true) (R : Raises X E)
    (O : OwnCls x C bm newId X.mg X.base) (Fn : ExcBaseFacts Bn newId inN bmN) (hBn : bm.contains (.type Bn) = true) (FB : ExcBaseFacts B nid initId bm) (hg : Gl X x) (ha : PA X (e0 :: rest) ta)
    (he : starEach (e0 :: rest) X.env = (false, eval e0 X.env) :: starEach rest X.env := by rfl) (hpl : (backTo cpos (starEach (e0 :: rest) X.env)).any (·.1) = false := by rfl) (hd : (x == ("__debug__" : Str)) = false := by decide) :
    PS X (.Raise (some (.Call (.Name x np) (e0 :: rest) [] cpos)) none pos) (tRaise C E ta) := by
  intro pins s σ H D I h
  obtain ⟨tl, N, nm, q, bs, hdct, sn, sub, ab, col, dd, k0, k1, k2, k3, k5, mN, hC, hN, hni, T⟩ := O.obj
  refine wpAny_Raise_call_subU (k5 := k5) (C := C) (nm := nm) (q := q) (N := N) (bs := bs) (bm := tl) (hdct := hdct) (sn := sn) (sub := sub) (ab := ab) (col := col) (dd := dd) (k0 := k0) (k1 := k1) (k2 := k2) (k3 := k3)
    Fn hBn FB (mN := mN) (T.hasType FB.hasBase) (I.ok.hd hc) hpl hni (ld_glob I hg O.bound ⟨rfl, ?_⟩ hd)
  have key := ha cpos pins s σ H _ I h
  rw [he] at key ⊢
  refine Calls.evalArgs_plain (thn key fun us s1 ⟨vs, H1, I1, r, hl, q1⟩ => ?_)
  exact ⟨rfl, by show us.length ≤ _; rw [← r.length, sizeLine_eq]; omega, I1.bk _ _ hC, hN.keeps I1.bk, T.keeps I1.bk, fun h' e hm => R pins σ H1 s1 h' e _ _ I1 hm q1⟩
theorem call_x {x : Str} {k : Nat} {f : Addr} {fd : FuncData} {ps : List Str} {sp : Sp} {e : Expr} {es : List Expr} {ta : TA} {p ap : Pos} {pins : List (Addr × Obj)} {s : Shared} {σ : St} {H : Hp} {Q : VK} {E : XK} {xe : Value → Shared → Prop}
    (F : FnOk X.prog X.w X.K X.mg X.base (CXE X.prog X.w) k f fd ps sp) (hr : Room k X.A) (hg : Gl X x) (hm : X.mg x = some (.ref f))
    (hk : PySem.W.keepIn X.K (.ref f) = true) (hb : Binds X.K fd ps []) (ha : ∀ xe, PA { X with xe := xe } (e :: es) ta) (I : Inv X pins σ H s) (h : ta σ H fun vs H1 => sp vs H1 Q E)
    (hx : ∀ ev s1 H1 s', Inv X pins σ H1 s1 → CXE X.prog X.w X.stack H1 s1 E ev s' → xe ev s')
    (hdb : (x == ("__debug__" : Str)) = false := by decide) (he : starEach (e :: es) X.env = (false, eval e X.env) :: starEach es X.env := by rfl) (hpl : (backTo ap (starEach es X.env)).any (·.1) = false := by rfl) :
    wpAny (model X.prog X.w) X.A (eval (.Call (.Name x p) (e :: es) [] ap) X.env) (EP X pins σ Q) xe s := by
  refine wpAny_Call_Name_kw (ld_glob I hg hm ?_ hdb)
  have I' : Inv { X with xe := xe } pins σ H s := I.reX (A' := X.A) (c := X.calm) rfl I.ok.hd
  refine PySem.W.callWith_K (h₀ := X.base) I.ok.mod.kin hk (thn (ha xe ap pins s σ H _ I' h) fun us s1 ⟨vs, H1, I1', r, q⟩ => ⟨I1'.kIn, ?_⟩) he hpl
  have I1 : Inv X pins σ H1 s1 := I1'.unX I.ok
  have hl : us.length = ps.length := by rw [← r.length]; exact F.len _ _ _ _ q
  have hb' := hb s1 us I1.kIn (by simpa using hl)
  rw [List.append_nil] at hb'
  refine wpAny_call (codeAny_mono (F.run X.A X.stack s1 H1 ⟨us, []⟩ us vs _ E hr I1.env0 hb' r q) fun res s' hq => ?_)
  cases res with
  | error ev => exact hx ev s1 H1 s' I1 hq
  | ok fl =>
    cases fl with
    | ret u => exact I1.after hq
    | next => exact False.elim hq
    | brk => exact False.elim hq
    | cont => exact False.elim hq
theorem psx_ret {x : Str} {k : Nat} {f : Addr} {fd : FuncData} {ps : List Str} {sp : Sp} {e : Expr} {es : List Expr} {ta : TA} {p ap pos : Pos} (F : FnOk X.prog X.w X.K X.mg X.base (CXE X.prog X.w) k f fd ps sp) (hr : Room k X.A) (hg : Gl X x) (hm : X.mg x = some (.ref f))
    (hk : PySem.W.keepIn X.K (.ref f) = true) (hb : Binds X.K fd ps []) (ha : ∀ xe, PA { X with xe := xe } (e :: es) ta)
    (hdb : (x == ("__debug__" : Str)) = false := by decide) (he : starEach (e :: es) X.env = (false, eval e X.env) :: starEach es X.env := by rfl) (hpl : (backTo ap (starEach es X.env)).any (·.1) = false := by rfl) :
    PSx X [.Return (some (.Call (.Name x p) (e :: es) [] ap)) pos] (fun D E σ H => ta σ H fun vs H1 => sp vs H1 D.rt E) := by
  intro pins s σ H D E xe I h hx
  refine wpAny_execs_cons ?_
  exact wpAny_Return_some (thn (call_x F hr hg hm hk hb ha I h hx hdb he hpl) fun v s1 ⟨x', H1, I1, r1, q1⟩ => ⟨x', σ, H1, I1, r1, q1⟩)
theorem inv_caught {pins : List (Addr × Obj)} {σ : St} {H : Hp} {s s1 : Shared} {h3 : Heap} {ch : List Addr} (J : Inv X pins σ H s) (hst : X.stack = X.env :: X.outer) (hex : X.ex = []) (m : HX.Mvd (frs X.stack) ch s.heap h3) (hch : ∀ b ∈ ch, X.s₀.heap.get? b = none ∧ H b = none)
    (hl : X.env.locals ∉ ch) (hce : ∀ x c, X.env.cells.lookup x = some c → c ∉ ch) (hp : ∀ p ∈ X.pn ++ pins, p.1 ∉ ch) : Inv X pins σ H { s with heap := h3 } := by
  have ceq : ∀ {c v}, c ∉ ch → s.heap.IsCell c v → h3.IsCell c v := fun {c v} hc ⟨o, q, d⟩ => by
    obtain ⟨sl, z⟩ := m.slot c o hc q
    exact ⟨_, z, d⟩
  refine ⟨J.ok, J.os, J.bare, ?_, ?_, fun x c e => ?_, J.free, J.freeC, fun p hpp => ?_, hok_moved J.hok m (fun b hb => J.stkFree b hb) fun b hb => (hch b hb).2, J.len⟩
  · have u := J.base
    rw [hex] at u ⊢
    refine un_moved u m (fun b hb z => ?_) fun b hb => (hch b hb).1
    rcases List.mem_cons.mp (J.stkSub b z) with q | q
    · rw [q] at hb; exact absurd hb (Nat.not_lt.mpr J.ok.above)
    · exact q
  · obtain ⟨mm, ⟨o, es, ep, ho, hd, r⟩, hv⟩ := J.loc
    obtain ⟨sl, z⟩ := m.slot _ o hl ho
    refine ⟨mm, ⟨_, es, ep, z, hd, r⟩, fun i x v a b c => ?_⟩
    obtain ⟨u, ru, lk⟩ := hv i x v a b c
    refine ⟨u, ru, ?_⟩
    rcases lk with k | ⟨k, c', e, ic⟩
    · exact .inl k
    · exact .inr ⟨k, c', e, ceq (hce _ _ e) ic⟩
  · obtain ⟨v, ic⟩ := J.cell x c e
    exact ⟨v, ceq (hce _ _ e) ic⟩
  · obtain ⟨a, b, c, d, e⟩ := J.pin p hpp
    refine ⟨m.keep _ _ (fun z => ?_) (hp p hpp) a, b, c, d, e⟩
    rcases List.mem_cons.mp (J.stkSub _ z) with q | q
    · exact c q
    · exact d q
theorem ps_try {x : Str} {C : Addr} {bm : List Value} {newId : String} {body suite : List Stmt} {b0 : Stmt} {tb : Ends → XK → St → Hp → Prop} {ts : TS} {np hpos pos : Pos} (O : OwnCls x C bm newId X.mg X.base) (hbase : bm.contains (.type "BaseException") = true) (hg : Gl X x)
    (hst : X.stack = X.env :: X.outer) (hex : X.ex = []) (hb : PSx X body tb) (hs : ∀ (e : Addr) (xe : Value → Shared → Prop), PSs { X with A := X.A.mark (some (.ref e)), calm := false, xe := xe } (b0 :: suite) ts) (hd : (x == ("__debug__" : Str)) = false := by decide) :
    PS X (.Try body [.ExceptHandler (some (.Name x np)) none (b0 :: suite) hpos] [] [] pos) (fun D σ H => tb D (fun c _ H' => c = .ref C ∧ ts D σ H') σ H) := by
  intro pins s σ H D I h
  have hfr : X.env.frame = some X.env.locals := by
    rcases I.ok.stk with z | z
    · rw [hst] at z
      have := congrArg List.length z
      simp at this
    · exact z.2
  refine wpAny_Try_except ?_
  refine wpAny_mono (hb pins s σ H D _ _ I h fun ev s1 H1 s' I1 cx => ?_) (fun f s1 q => ?_) fun _ _ z => z
  rotate_left
  · cases f with
    | next => exact wpAny_execs_nil q
    | brk => exact q
    | cont => exact q
    | ret u => exact q
  obtain ⟨e, T, cls, H', rfl, tb', le, lT, ne, nT, os, bare, un, hok, rfl, hts⟩ := cx
  have J := I1.call' os un hok bare (fun b z => absurd z (by simp))
  have jst : s'.heap.FunFrames X.base (X.env :: X.outer) := hst ▸ J.stack
  have jfr : X.A.frames = some (X.env :: X.outer) := hst ▸ J.ok.frames
  refine HX.note_next (base := X.base) (outer := X.outer) jfr jst hfr tb' fun h2 m2 t2 => ?_
  refine HX.setNone t2 fun h3 m3 t3 => ?_
  have nw : s'.heap.get? s'.heap.objs.size = none := Heap.get?_none_of_le (Nat.le_refl _)
  have m : HX.Mvd (frs X.stack) [e, T] s'.heap h3 := by
    rw [hst]
    exact m2.trans ⟨m3.size, fun b o _ b2 => m3.keep b o (by simp) b2, m3.slot⟩ fun b hb => .inr (by rw [List.mem_singleton.mp hb]; exact nw)
  have two : ∀ {R : Addr → Prop}, R e → R T → ∀ b ∈ [e, T], R b := fun r1 r2 b hb => by
    rcases List.mem_cons.mp hb with rfl | hb
    · exact r1
    · rw [List.mem_singleton.mp hb]; exact r2
  have far : ∀ b ∈ [e, T], s1.heap.get? b = none := two le lT
  obtain ⟨mm, ⟨oL, _, _, hoL, _⟩, _⟩ := I1.loc
  have fl : X.env.locals ∉ [e, T] := fun z => by rw [far _ z] at hoL; cases hoL
  have fc : ∀ x c, X.env.cells.lookup x = some c → c ∉ [e, T] := fun x c q z => by
    obtain ⟨v, o, ho, _⟩ := I1.cell x c q
    rw [far _ z] at ho; cases ho
  have fp : ∀ p ∈ X.pn ++ pins, p.1 ∉ [e, T] := fun p hp z => by
    have := (I1.pin p hp).1
    rw [far _ z] at this; cases this
  have J3 : Inv X pins σ H' { s' with heap := h3 } := inv_caught (s1 := s1) J hst hex m (two ⟨I1.none0 hex le, ne⟩ ⟨I1.none0 hex lT, nT⟩) fl fc fp
  obtain ⟨tl, N, nm, q, bs, hdct, sn, sub, ab, col, dd, k0, k1, k2, k3, k5, mN, hC, hN, hni, TT⟩ := O.obj
  obtain ⟨oe, vs, oT, ts', hTe, he, hcls, hdt, h1, hT, hdT, h3'⟩ := id t3
  have J4 : Inv { X with A := X.A.mark (some (.ref e)), calm := false, xe := notedBy (model X.prog X.w) (X.A.mark (some (.ref e))) X.env (cameBackBy (model X.prog X.w) X.A X.env X.xe) } pins σ H' { s' with heap := h3 } := J3.reX rfl (fun z => by cases z)
  refine wpAny_handleBy_cons (codeAny_handlers_test (ld_glob J4 hg O.bound ?_ hd)) (by intro z; cases z)
  refine wpAny_excMatches_sub_self (J3.bk _ _ hC) he hcls (TT.hasType hbase) ?_
  refine codeAny_handlers_suite (HX.setNone t3 fun h4 m4 t4 => ?_)
  have m' : HX.Mvd (frs X.stack) [e, s'.heap.objs.size] h3 h4 := ⟨m4.size, fun b o _ b2 => m4.keep b o (by simp) (fun z => b2 (by rw [List.mem_singleton.mp z]; simp)), fun b o b2 => m4.slot b o fun z => b2 (by rw [List.mem_singleton.mp z]; simp)⟩
  have two' : ∀ {R : Addr → Prop}, R e → R s'.heap.objs.size → ∀ b ∈ [e, s'.heap.objs.size], R b := fun r1 r2 b hb => by
    rcases List.mem_cons.mp hb with rfl | hb
    · exact r1
    · rw [List.mem_singleton.mp hb]; exact r2
  have n1 : s1.heap.get? s'.heap.objs.size = none := by
    cases z : s1.heap.get? s'.heap.objs.size with
    | none => rfl
    | some o => obtain ⟨o', y⟩ := un.there _ o z (by simp); rw [nw] at y; cases y
  have far' : ∀ b ∈ [e, s'.heap.objs.size], s1.heap.get? b = none := two' le n1
  have J5 : Inv X pins σ H' { s' with heap := h4 } := inv_caught (s := { s' with heap := h3 }) (s1 := s1) J3 hst hex m' (two' ⟨I1.none0 hex le, ne⟩ ⟨I1.none0 hex n1, hok.fresh (Nat.le_refl _)⟩)
    (fun z => by rw [far' _ z] at hoL; cases hoL) (fun x c q z => by obtain ⟨v, o, ho, _⟩ := I1.cell x c q; rw [far' _ z] at ho; cases ho) (fun p hp z => by have := (I1.pin p hp).1; rw [far' _ z] at this; cases this)
  refine wpAny_mono (hs e _ pins { s' with heap := h4 } σ H' D (J5.reX rfl (fun z => by cases z)) hts) (fun f s6 q6 => ?_) fun _ _ z => z
  cases f with
  | next => obtain ⟨σ6, H6, I6, q6⟩ := q6; exact ⟨σ6, H6, I6.unX J5.ok, q6⟩
  | brk => obtain ⟨σ6, H6, I6, q6⟩ := q6; exact ⟨σ6, H6, I6.unX J5.ok, q6⟩
  | cont => obtain ⟨σ6, H6, I6, q6⟩ := q6; exact ⟨σ6, H6, I6.unX J5.ok, q6⟩
  | ret u => obtain ⟨v6, σ6, H6, I6, r6, q6⟩ := q6; exact ⟨v6, σ6, H6, I6.unX J5.ok, r6, q6⟩
end
end L2
namespace HZ
open PySem PySem.Builtin
section
variable {prog : Program} {w : World} {A : Around} {E : Value → Shared → Prop} {s : Shared}
theorem sb {x : Addr} {h h' : Heap} (m : Heap.SameBut x h h') {b : Addr} {o : Obj} (n : b ≠ x) (e : h.get? b = some o) : h'.get? b = some o := m.extBut b o n e
variable {z a b c d p q : Addr} {u v x y : Value} {k : Nat} {xs ys : Array Value}
end
abbrev ti (p : Addr) : Obj := { cls := .type "tuple_iterator", data := .fields #[.ref p, .int 0 0] }
abbrev w1 (h : Heap) (p : Addr) : Heap := h.push (ti p)
abbrev w2 (h : Heap) (p q : Addr) : Heap := (w1 h p).push (ti q)
abbrev w3 (h : Heap) (p q : Addr) : Heap := (w2 h p q).push { cls := .type "tuple", data := .seq #[.ref h.objs.size, .ref (w1 h p).objs.size] }
abbrev w4 (h : Heap) (p q : Addr) : Heap := (w3 h p q).push { cls := .type "tuple", data := .seq #[.none, .none] }
abbrev w5 (h : Heap) (p q : Addr) : Heap := (w4 h p q).push { cls := .type "zip", data := .fields #[.none, .bool false, .bool false, .ref (w2 h p q).objs.size, .ref (w3 h p q).objs.size] }
section
variable {prog : Program} {w : World} {A : Around} {E : Value → Shared → Prop} {s : Shared} {p q : Addr} {xs ys : Array Value}
end
end HZ
namespace L2
open PySem PySem.Spec PyProof.Rows
section
variable {X : Cx} {pins : List (Addr × Obj)} {σ : St} {H : Hp} {s : Shared} {h' : Heap}
end
end L2
namespace HM
open PySem
section
variable {prog : Program} {w : World} {A : Around} {E : Value → Shared → Prop} {s : Shared}
end
end HM
namespace L2
open PySem PySem.Spec PyProof.Rows
section
variable {X : Cx}
end
section
variable {P : Program} {w : World} {K : PySem.W.Frag} {mg : Str → Option Value} {base : Heap}
theorem Fun.okE {x qual : Str} {st : Stmt} {f : Addr} {fd : FuncData} {N ps : List Str} {k : Nat} {sp : Sp} (F : Fun K x qual st f fd) (S : FnScope N ps (defScope st)) (len : ∀ vs H Q E, sp vs H Q E → vs.length = ps.length)
    (hbody : ∀ (cdv : Value) (A : Around) (outer : List Env) (s : Shared) (H : Hp) (vs : List V) (Q : VK) (E : XK), Room k (A.deeper (envOfC qual (defScope st) s.heap.objs.size f cdv)) → sp vs H Q E →
      ∃ t, PSs (cxOf (CXE P w) P w K mg base N qual (defScope st) f cdv A outer s H E) (defBody st) t ∧ t { nx := fun _ H' => Q .non H', rt := Q } (start N vs) H) : FnOk P w K mg base (CXE P w) (k + 1) f fd ps sp := by
  obtain ⟨oc, od, kV, doc, pm, an, cdv, ct, osl, rfl, lk, hcd⟩ := F.ex
  exact fn_of lk hcd S len fun A outer s H vs Q E hr hsp => hbody cdv A outer s H vs Q E hr hsp
theorem own_mk {h : Heap} {x : Str} {C : Addr} {bm : List Value} {newId : String} (X : K.In h) (g : mg x = some (.ref C)) (q : PySem.W.excIn K C bm newId = true) : OwnCls x C bm newId mg h := by
  refine ⟨g, ?_⟩
  unfold PySem.W.excIn at q
  split at q
  · rename_i e0 rec0 sl0 lk0
    split at q
    · rename_i C0 rest0 q0 q1 q2 q3 n0 q5 em es0
      rw [Bool.and_eq_true, Bool.and_eq_true, Bool.and_eq_true, Bool.and_eq_true, Bool.and_eq_true] at q
      obtain ⟨⟨⟨⟨⟨f1, f2⟩, f3⟩, f4⟩, f5⟩, f6⟩ := q
      have g1 : C0 = C := by simpa using f1
      have g2 : n0 = newId := by simpa using f2
      subst g1 g2
      obtain ⟨c1, c2, c3, c4, c5, c6, c7, c8, c9, c10, c11⟩ := rec0
      obtain ⟨l0⟩ := sl0
      have es1 : l0 = _ := es0
      have em1 : c3 = _ := em
      have f31 : c11 = false := by simpa using f3
      subst es1 em1 f31
      exact ⟨rest0, c4, c1, c5, c2, c6, c7, c8, c9, c10, e0, q0, q1, q2, q3, q5, _, X _ _ lk0, .of_isNs (PySem.W.isNs_of_in X f5), PySem.W.nsMap_none_of_in X f5 (by simpa using f6), PySem.W.tail_of_in X f4⟩
    · cases q
  · cases q
end
end L2
namespace L2
open PySem PySem.Spec PyProof.Rows
end L2
namespace HS
open PySem PySem.W PyProof.Rows
def ev (lt : Nat → Nat → Bool) {α : Type} : KasT α → α
  | .ret a => a
  | .ask i j k => ev lt (k (lt i j))
theorem ev_bind (lt : Nat → Nat → Bool) {α β : Type} (f : α → KasT β) : ∀ t : KasT α, ev lt (t.bind f) = ev lt (f (ev lt t))
  | .ret _ => rfl
  | .ask i j k => ev_bind lt f (k (lt i j))
structure Ord (lt : Nat → Nat → Bool) : Prop where
  tot : ∀ a b, lt a b = true → lt b a = false
  tr : ∀ a b c, lt b a = false → lt c b = false → lt c a = false
section
variable {lt : Nat → Nat → Bool} (O : Ord lt)
abbrev P (p : Array Nat) (i : Nat) : Nat := p.getD i 0
theorem P_eq {p p' : Array Nat} {i j : Nat} (h : p[i]? = p'[j]?) : P p i = P p' j := by
  unfold P
  rw [Array.getD_eq_getD_getElem?, Array.getD_eq_getD_getElem?, h]
def S (lt : Nat → Nat → Bool) (p : Array Nat) (k : Nat) : Prop := ∀ i j, i ≤ j → j < k → lt (P p j) (P p i) = false
def D (lt : Nat → Nat → Bool) (p : Array Nat) (k : Nat) : Prop := ∀ i j, i ≤ j → j < k → lt (P p i) (P p j) = false
include O in
theorem rfl_ (a : Nat) : lt a a = false := by
  cases h : lt a a with
  | false => rfl
  | true => rw [O.tot a a h] at h; cases h
include O in
theorem S_step {p : Array Nat} {n : Nat} (h1 : 1 ≤ n) (hs : S lt p n) (h : lt (P p n) (P p (n - 1)) = false) : S lt p (n + 1) := fun i j hij hj => by
  by_cases e : j = n
  · subst e
    by_cases e2 : i = j
    · subst e2; exact rfl_ O _
    · exact O.tr _ _ _ (hs i (j - 1) (by omega) (by omega)) h
  · exact hs i j hij (by omega)
include O in
theorem D_step {p : Array Nat} {n : Nat} (h1 : 1 ≤ n) (hs : D lt p n) (h : lt (P p (n - 1)) (P p n) = false) : D lt p (n + 1) := fun i j hij hj => by
  by_cases e : j = n
  · subst e
    by_cases e2 : i = j
    · subst e2; exact rfl_ O _
    · exact O.tr _ _ _ h (hs i (j - 1) (by omega) (by omega))
  · exact hs i j hij (by omega)
include O in
theorem asc_ok (p : Array Nat) : ∀ (f n : Nat), 1 ≤ n → S lt p n → n ≤ ev lt (kas_asc p f n) ∧ ev lt (kas_asc p f n) ≤ n + f ∧ S lt p (ev lt (kas_asc p f n))
  | 0, n, _, hs => ⟨Nat.le_refl _, Nat.le_refl _, hs⟩
  | f + 1, n, h1, hs => by
    show n ≤ ev lt (if lt (P p n) (P p (n - 1)) = true then .ret n else kas_asc p f (n + 1)) ∧ ev lt (if lt (P p n) (P p (n - 1)) = true then .ret n else kas_asc p f (n + 1)) ≤ n + (f + 1) ∧ S lt p (ev lt (if lt (P p n) (P p (n - 1)) = true then .ret n else kas_asc p f (n + 1)))
    cases h : lt (P p n) (P p (n - 1)) with
    | true => rw [if_pos rfl]; exact ⟨Nat.le_refl _, Nat.le_add_right _ _, hs⟩
    | false =>
      rw [if_neg Bool.false_ne_true]
      have ih := asc_ok p f (n + 1) (by omega) (S_step O h1 hs h)
      exact ⟨by omega, by omega, ih.2.2⟩
theorem rev_size (p : Array Nat) (i j : Nat) : (kas_rev p i j).size = p.size := mirror_size _ _ _ _
theorem rev_perm (p : Array Nat) (i j : Nat) : (kas_rev p i j).Perm p := mirror_perm _ _ _ _
theorem rev_at {p : Array Nat} {i j : Nat} (hj : j ≤ p.size) (k : Nat) : P (kas_rev p i j) k = if i ≤ k ∧ k < j then P p (i + j - 1 - k) else P p k := by
  have := getElem?_mirror_all (xs := p) (i := i) hj k
  split
  · rename_i h
    rw [if_pos h] at this
    exact P_eq this
  · rename_i h
    rw [if_neg h] at this
    exact P_eq this
def Eqv (lt : Nat → Nat → Bool) (a b : Nat) : Prop := lt a b = false ∧ lt b a = false
include O in
theorem rev_eqv {p : Array Nat} {i j : Nat} (hj : j ≤ p.size) (h : ∀ k, i ≤ k → k < j → Eqv lt (P p k) (P p (j - 1))) (k : Nat) : Eqv lt (P (kas_rev p i j) k) (P p k) := by
  rw [rev_at hj]
  split
  · rename_i hk
    have a := h (i + j - 1 - k) (by omega) (by omega)
    have b := h k hk.1 hk.2
    exact ⟨O.tr _ _ _ b.2 a.1, O.tr _ _ _ a.2 b.1⟩
  · exact ⟨rfl_ O _, rfl_ O _⟩
include O in
theorem D_eqv {p p' : Array Nat} {n : Nat} (h : D lt p n) (e : ∀ k, Eqv lt (P p' k) (P p k)) : D lt p' n := fun i j hij hj =>
  O.tr _ _ _ (O.tr _ _ _ (e j).2 (h i j hij hj)) (e i).1
structure Dn (lt : Nat → Nat → Bool) (p0 p : Array Nat) (n q lo hi : Nat) : Prop where
  perm : p.Perm p0
  d : D lt p n
  low : lo ≤ n
  high : n ≤ hi
  qn : q + 1 ≤ n
  eq : ∀ k, n - (q + 1) ≤ k → k < n → Eqv lt (P p k) (P p (n - 1))
include O in
theorem desc_ok : ∀ (f : Nat) (p : Array Nat) (n q : Nat), 1 ≤ n → n + f ≤ p.size → D lt p n → q + 1 ≤ n → (∀ k, n - (q + 1) ≤ k → k < n → Eqv lt (P p k) (P p (n - 1))) →
    Dn lt p (ev lt (kas_desc f p n q)).1 (ev lt (kas_desc f p n q)).2.1 (ev lt (kas_desc f p n q)).2.2 n (n + f)
  | 0, p, n, q, _, _, hd, hq, he => ⟨Array.Perm.refl _, hd, Nat.le_refl _, Nat.le_refl _, hq, he⟩
  | f + 1, p, n, q, h1, hz, hd, hq, he => by
    have one : ∀ (p' : Array Nat) (n' : Nat), ∀ k, n' + 1 - (0 + 1) ≤ k → k < n' + 1 → Eqv lt (P p' k) (P p' (n' + 1 - 1)) := fun p' n' k a b => by
      have : k = n' := by omega
      subst this
      exact ⟨rfl_ O _, rfl_ O _⟩
    have up : ∀ {p0 p' : Array Nat} {m r : Nat}, p0.Perm p → Dn lt p0 p' m r (n + 1) (n + 1 + f) → Dn lt p p' m r n (n + (f + 1)) := fun {p0 p' m r} hp h => ⟨h.perm.trans hp, h.d, by have := h.low; omega, by have := h.high; omega, h.qn, h.eq⟩
    have step : ev lt (kas_desc (f + 1) p n q) = if lt (P p n) (P p (n - 1)) = true then (if q > 0 then ev lt (kas_desc f (kas_rev p (n - (q + 1)) n) (n + 1) 0) else ev lt (kas_desc f p (n + 1) 0))
        else if lt (P p (n - 1)) (P p n) = true then (p, n, q) else ev lt (kas_desc f p (n + 1) (q + 1)) := by
      show ev lt (if lt (P p n) (P p (n - 1)) = true then _ else _) = _
      cases lt (P p n) (P p (n - 1)) with
      | true => rw [if_pos rfl, if_pos rfl]; split <;> rfl
      | false =>
        rw [if_neg Bool.false_ne_true, if_neg Bool.false_ne_true]
        show ev lt (if lt (P p (n - 1)) (P p n) = true then _ else _) = _
        cases lt (P p (n - 1)) (P p n) with
        | true => rw [if_pos rfl, if_pos rfl]; rfl
        | false => rw [if_neg Bool.false_ne_true, if_neg Bool.false_ne_true]
    rw [step]
    cases hc : lt (P p n) (P p (n - 1)) with
    | true =>
      rw [if_pos rfl]
      have hle := O.tot _ _ hc
      split
      · have hev := rev_eqv O (p := p) (i := n - (q + 1)) (j := n) (by omega) he
        have hd' : D lt (kas_rev p (n - (q + 1)) n) (n + 1) := D_step O h1 (D_eqv O hd hev) (O.tr _ _ _ (O.tr _ _ _ (hev n).2 hle) (hev (n - 1)).1)
        exact up (rev_perm _ _ _) (desc_ok f _ (n + 1) 0 (by omega) (by rw [rev_size]; omega) hd' (by omega) (one _ _))
      · exact up (Array.Perm.refl _) (desc_ok f p (n + 1) 0 (by omega) (by omega) (D_step O h1 hd hle) (by omega) (one _ _))
    | false =>
      rw [if_neg Bool.false_ne_true]
      cases hb : lt (P p (n - 1)) (P p n) with
      | true => rw [if_pos rfl]; exact ⟨Array.Perm.refl _, hd, Nat.le_refl _, Nat.le_add_right _ _, hq, he⟩
      | false =>
        rw [if_neg Bool.false_ne_true]
        refine up (Array.Perm.refl _) (desc_ok f p (n + 1) (q + 1) (by omega) (by omega) (D_step O h1 hd hb) (by omega) fun k a b => ?_)
        have e1 : Eqv lt (P p (n - 1)) (P p n) := ⟨hb, hc⟩
        show Eqv lt (P p k) (P p n)
        by_cases e : k = n
        · subst e; exact ⟨rfl_ O _, rfl_ O _⟩
        · have := he k (by omega) (by omega)
          exact ⟨O.tr _ _ _ e1.1 this.1, O.tr _ _ _ this.2 e1.2⟩
structure Up (lt : Nat → Nat → Bool) (p0 : Array Nat) (r : Nat × Array Nat) (hi : Nat) : Prop where
  perm : r.2.Perm p0
  s : S lt r.2 r.1
  lo : 1 ≤ r.1
  hi : r.1 ≤ hi
include O in
theorem tail3_ok (n nrem : Nat) (p : Array Nat) (h1 : 1 ≤ n) (hn : n ≤ nrem) (hz : nrem ≤ p.size) (hd : D lt p n) : Up lt p (ev lt (kas_tail3 n nrem p)) nrem := by
  have e : ev lt (kas_tail3 n nrem p) = (ev lt (kas_asc (kas_rev p 0 n) (nrem - n) n), kas_rev p 0 n) := ev_bind lt _ _
  have hs : S lt (kas_rev p 0 n) n := fun i j hij hj => by
    rw [rev_at (by omega), rev_at (by omega), if_pos ⟨by omega, hj⟩, if_pos ⟨by omega, by omega⟩]
    exact hd _ _ (by omega) (by omega)
  have a := asc_ok O (kas_rev p 0 n) (nrem - n) n h1 hs
  rw [e]
  exact ⟨rev_perm _ _ _, a.2.2, by show 1 ≤ ev lt _; omega, by show ev lt _ ≤ nrem; omega⟩
include O in
theorem descPart_ok (n nrem : Nat) (p : Array Nat) (hn : n + 1 ≤ nrem) (hz : nrem ≤ p.size) (hd : D lt p (n + 1)) : Up lt p (ev lt (kas_descPart n nrem p)) nrem := by
  have h := desc_ok O (nrem - (n + 1)) p (n + 1) 0 (by omega) (by omega) hd (by omega) fun k a b => by
    have : k = n := by omega
    subst this
    exact ⟨rfl_ O _, rfl_ O _⟩
  have e : ev lt (kas_descPart n nrem p) = ev lt (if (ev lt (kas_desc (nrem - (n + 1)) p (n + 1) 0)).2.2 > 0 then kas_tail3 (ev lt (kas_desc (nrem - (n + 1)) p (n + 1) 0)).2.1 nrem (kas_rev (ev lt (kas_desc (nrem - (n + 1)) p (n + 1) 0)).1 ((ev lt (kas_desc (nrem - (n + 1)) p (n + 1) 0)).2.1 - ((ev lt (kas_desc (nrem - (n + 1)) p (n + 1) 0)).2.2 + 1)) (ev lt (kas_desc (nrem - (n + 1)) p (n + 1) 0)).2.1) else kas_tail3 (ev lt (kas_desc (nrem - (n + 1)) p (n + 1) 0)).2.1 nrem (ev lt (kas_desc (nrem - (n + 1)) p (n + 1) 0)).1) := ev_bind lt _ _
  rw [e]
  generalize ev lt (kas_desc (nrem - (n + 1)) p (n + 1) 0) = r at h
  obtain ⟨p', m, q⟩ := r
  have hsz : p'.size = p.size := h.perm.size_eq
  have hlo := h.low
  have hhi := h.high
  dsimp only at *
  split
  · have hev := rev_eqv O (p := p') (i := m - (q + 1)) (j := m) (by omega) h.eq
    have a := tail3_ok O m nrem (kas_rev p' (m - (q + 1)) m) (by omega) (by omega) (by rw [rev_size]; omega) (D_eqv O h.d hev)
    exact ⟨(a.perm.trans (rev_perm _ _ _)).trans h.perm, a.s, a.lo, a.hi⟩
  · have a := tail3_ok O m nrem p' (by omega) (by omega) (by omega) h.d
    exact ⟨a.perm.trans h.perm, a.s, a.lo, a.hi⟩
include O in
theorem count_ok (nrem : Nat) (p : Array Nat) (h1 : 1 ≤ nrem) (hz : nrem ≤ p.size) : Up lt p (ev lt (kas_count nrem p)) nrem := by
  have s1 : S lt p 1 := fun i j hij hj => by
    have : i = j := by omega
    subst this
    exact rfl_ O _
  have a := asc_ok O p (nrem - 1) 1 (Nat.le_refl _) s1
  have e : ev lt (kas_count nrem p) = ev lt (if (ev lt (kas_asc p (nrem - 1) 1) == nrem) = true then .ret (ev lt (kas_asc p (nrem - 1) 1), p) else if ev lt (kas_asc p (nrem - 1) 1) > 1 then .ask (P p 0) (P p (ev lt (kas_asc p (nrem - 1) 1) - 1)) fun c => if c = true then .ret (ev lt (kas_asc p (nrem - 1) 1), p) else kas_descPart (ev lt (kas_asc p (nrem - 1) 1)) nrem (kas_rev p 0 (ev lt (kas_asc p (nrem - 1) 1))) else kas_descPart (ev lt (kas_asc p (nrem - 1) 1)) nrem p) := ev_bind lt _ _
  have stop : ∀ f n, 1 ≤ n → ev lt (kas_asc p f n) < n + f → lt (P p (ev lt (kas_asc p f n))) (P p (ev lt (kas_asc p f n) - 1)) = true := fun f => by
    induction f with
    | zero => intro n _ h; exact absurd h (Nat.lt_irrefl _)
    | succ f ih =>
      intro n hn h
      have st : ev lt (kas_asc p (f + 1) n) = if lt (P p n) (P p (n - 1)) = true then n else ev lt (kas_asc p f (n + 1)) := by
        show ev lt (if lt (P p n) (P p (n - 1)) = true then _ else _) = _
        split <;> rfl
      rw [st] at h ⊢
      cases hc : lt (P p n) (P p (n - 1)) with
      | true => rw [if_pos rfl]; exact hc
      | false =>
        rw [hc, if_neg Bool.false_ne_true] at h
        rw [if_neg Bool.false_ne_true]
        exact ih (n + 1) (by omega) (by omega)
  have hst := stop (nrem - 1) 1 (Nat.le_refl _)
  rw [e]
  generalize ev lt (kas_asc p (nrem - 1) 1) = n at a hst
  obtain ⟨a1, a2, a3⟩ := a
  split
  · exact ⟨Array.Perm.refl _, a3, a1, by show n ≤ nrem; omega⟩
  · rename_i hne
    have hne' : n ≠ nrem := fun z => hne (by simp [z])
    have hlt := hst (by omega)
    split
    · show Up lt p (ev lt (if lt (P p 0) (P p (n - 1)) = true then _ else _)) nrem
      cases hc : lt (P p 0) (P p (n - 1)) with
      | true => rw [if_pos rfl]; exact ⟨Array.Perm.refl _, a3, a1, by show n ≤ nrem; omega⟩
      | false =>
        rw [if_neg Bool.false_ne_true]
        have eq : ∀ k, 0 ≤ k → k < n → Eqv lt (P p k) (P p (n - 1)) := fun k _ hk => ⟨O.tr _ _ _ (O.tr _ _ _ hc (a3 0 k (by omega) hk)) (rfl_ O _) , a3 k (n - 1) (by omega) (by omega)⟩
        have hev := rev_eqv O (p := p) (i := 0) (j := n) (by omega) eq
        have d0 : D lt p n := fun i j hij hj => O.tr _ _ _ (eq j (by omega) hj).2 (eq i (by omega) (by omega)).1
        have d1 : D lt (kas_rev p 0 n) (n + 1) := D_step O a1 (D_eqv O d0 hev) (O.tr _ _ _ (O.tr _ _ _ (hev n).2 (O.tot _ _ hlt)) (hev (n - 1)).1)
        have a := descPart_ok O n nrem (kas_rev p 0 n) (by omega) (by rw [rev_size]; omega) d1
        exact ⟨a.perm.trans (rev_perm _ _ _), a.s, a.lo, a.hi⟩
    · have hn1 : n = 1 := by omega
      subst hn1
      have d0 : D lt p 1 := fun i j hij hj => by
        have : i = j := by omega
        subst this
        exact rfl_ O _
      exact descPart_ok O 1 nrem p (by omega) hz (D_step O (Nat.le_refl _) d0 (O.tot _ _ hlt))
include O in
theorem place_ok (p : Array Nat) (k : Nat) (hS : S lt p k) : ∀ (f l r : Nat), l ≤ r → r ≤ k → r - l ≤ f → (∀ i, i < l → lt (P p k) (P p i) = false) → (∀ i, r ≤ i → i < k → lt (P p i) (P p k) = false) →
    ev lt (kas_place p k f l r) ≤ k ∧ (∀ i, i < ev lt (kas_place p k f l r) → lt (P p k) (P p i) = false) ∧ ∀ i, ev lt (kas_place p k f l r) ≤ i → i < k → lt (P p i) (P p k) = false
  | 0, l, r, h1, h2, h3, hlo, hhi => by
    have : l = r := by omega
    subst this
    exact ⟨h2, hlo, hhi⟩
  | f + 1, l, r, h1, h2, h3, hlo, hhi => by
    have step : ev lt (kas_place p k (f + 1) l r) = if l ≥ r then l else if lt (P p k) (P p ((l + r) / 2)) = true then ev lt (kas_place p k f l ((l + r) / 2)) else ev lt (kas_place p k f ((l + r) / 2 + 1) r) := by
      show ev lt (if l ≥ r then _ else _) = _
      split
      · rfl
      · show ev lt (if lt (P p k) (P p ((l + r) / 2)) = true then _ else _) = _
        split <;> rfl
    rw [step]
    split
    · have : l = r := by omega
      subst this
      exact ⟨h2, hlo, hhi⟩
    · cases hc : lt (P p k) (P p ((l + r) / 2)) with
      | true =>
        rw [if_pos rfl]
        exact place_ok p k hS f l ((l + r) / 2) (by omega) (by omega) (by omega) hlo fun i a b => O.tr _ _ _ (O.tot _ _ hc) (hS _ i a b)
      | false =>
        rw [if_neg Bool.false_ne_true]
        exact place_ok p k hS f ((l + r) / 2 + 1) r (by omega) h2 (by omega) (fun i a => O.tr _ _ _ (hS i ((l + r) / 2) (by omega) (by omega)) hc) hhi
include O in
theorem bin_ok : ∀ (f : Nat) (p : Array Nat) (k : Nat), S lt p k → k + f ≤ p.size → (ev lt (kas_bin f p k)).Perm p ∧ S lt (ev lt (kas_bin f p k)) (k + f)
  | 0, p, k, hs, _ => ⟨Array.Perm.refl _, hs⟩
  | f + 1, p, k, hs, hz => by
    have e : ev lt (kas_bin (f + 1) p k) = ev lt (kas_bin f (bubble p k (k - ev lt (kas_place p k k 0 k))) (k + 1)) := ev_bind lt _ _
    obtain ⟨b1, b2, b3⟩ := place_ok O p k hs k 0 k (Nat.zero_le _) (Nat.le_refl _) (by omega) (fun i h => absurd h (Nat.not_lt_zero _)) (fun i a b => by omega)
    rw [e]
    generalize ev lt (kas_place p k k 0 k) = l at b1 b2 b3
    have at_ : ∀ i, P (bubble p k (k - l)) i = if i = l then P p k else if l < i ∧ i ≤ k then P p (i - 1) else P p i := fun i => by
      have := getElem?_bubble (xs := p) (src := k) (by omega) (k - l) (by omega) i
      have e1 : k - (k - l) = l := by omega
      rw [e1] at this
      repeat' split
      · rename_i h; rw [if_pos h] at this; exact P_eq this
      · rename_i h h2; rw [if_neg h, if_pos h2] at this; exact P_eq this
      · rename_i h h2; rw [if_neg h, if_neg h2] at this; exact P_eq this
    have hs' : S lt (bubble p k (k - l)) (k + 1) := fun i j hij hj => by
      rw [at_, at_]
      by_cases ei : i = l
      · rw [if_pos ei]
        by_cases ej : j = l
        · rw [if_pos ej]; exact rfl_ O _
        · rw [if_neg ej, if_pos ⟨by omega, by omega⟩]; exact b3 (j - 1) (by omega) (by omega)
      · rw [if_neg ei]
        by_cases ej : j = l
        · rw [if_pos ej, if_neg (by omega)]; exact b2 i (by omega)
        · rw [if_neg ej]
          by_cases hi : l < i ∧ i ≤ k
          · rw [if_pos hi, if_pos ⟨by omega, by omega⟩]; exact hs _ _ (by omega) (by omega)
          · rw [if_neg hi]
            by_cases hj' : l < j ∧ j ≤ k
            · rw [if_pos hj']; exact hs _ _ (by omega) (by omega)
            · rw [if_neg hj']; exact hs _ _ hij (by omega)
    have ih := bin_ok f (bubble p k (k - l)) (k + 1) hs' (by rw [bubble_size]; omega)
    refine ⟨ih.1.trans (bubble_perm _ _ _), ?_⟩
    have e2 : k + (f + 1) = k + 1 + f := by omega
    rw [e2]
    exact ih.2
include O in
theorem sort_ok (n : Nat) (h1 : 1 ≤ n) : (ev lt (kas_sort n)).Perm (List.range n).toArray ∧ S lt (ev lt (kas_sort n)) n := by
  have hz : (List.range n).toArray.size = n := by simp
  have c := count_ok O n (List.range n).toArray h1 (by omega)
  have e : ev lt (kas_sort n) = ev lt (if (ev lt (kas_count n (List.range n).toArray)).1 < n then kas_bin (n - max (ev lt (kas_count n (List.range n).toArray)).1 1) (ev lt (kas_count n (List.range n).toArray)).2 (max (ev lt (kas_count n (List.range n).toArray)).1 1) else .ret (ev lt (kas_count n (List.range n).toArray)).2) := ev_bind lt _ _
  rw [e]
  generalize ev lt (kas_count n (List.range n).toArray) = r at c
  obtain ⟨m, p⟩ := r
  have hp : p.size = n := c.perm.size_eq.trans hz
  have hlo := c.lo
  have hhi := c.hi
  dsimp only at *
  have em : max m 1 = m := by omega
  split
  · rw [em]
    have b := bin_ok O (n - m) p m c.s (by omega)
    have e2 : m + (n - m) = n := by omega
    rw [e2] at b
    exact ⟨b.1.trans c.perm, b.2⟩
  · have : m = n := by omega
    subst this
    exact ⟨c.perm, c.s⟩
end
theorem sorted_list {α : Type} (vs : List α) (d : α) (lt : α → α → Bool) (tot : ∀ a b, lt a b = true → lt b a = false) (tr : ∀ a b c, lt b a = false → lt c b = false → lt c a = false) (h1 : 1 ≤ vs.length) :
    ((ev (fun i j => lt (vs.getD i d) (vs.getD j d)) (kas_sort vs.length)).toList.map fun i => vs.getD i d).Perm vs ∧
      ((ev (fun i j => lt (vs.getD i d) (vs.getD j d)) (kas_sort vs.length)).toList.map fun i => vs.getD i d).Pairwise fun a b => lt b a = false := by
  have O : Ord (fun i j => lt (vs.getD i d) (vs.getD j d)) := ⟨fun a b h => tot _ _ h, fun a b c h1 h2 => tr _ _ _ h1 h2⟩
  obtain ⟨hp, hs⟩ := sort_ok O vs.length h1
  generalize ev (fun i j => lt (vs.getD i d) (vs.getD j d)) (kas_sort vs.length) = p at hp hs
  have hpl : p.toList.Perm (List.range vs.length) := by simpa using hp.toList
  have hsz : p.size = vs.length := by simpa using hp.size_eq
  refine ⟨?_, ?_⟩
  · have e : (List.range vs.length).map (fun i => vs.getD i d) = vs := by
      apply List.ext_getElem?
      intro i
      rw [List.getElem?_map]
      by_cases hi : i < vs.length
      · rw [List.getElem?_range hi, List.getElem?_eq_getElem hi]
        simp [List.getD_eq_getElem?_getD, hi]
      · rw [List.getElem?_eq_none (by simpa using hi), List.getElem?_eq_none (by omega)]
        rfl
    have := hpl.map (fun i => vs.getD i d)
    rw [e] at this
    exact this
  · rw [List.pairwise_map, List.pairwise_iff_getElem]
    intro i j hi hj hij
    have a := hs i j (by omega) (by simpa [hsz] using hj)
    have e1 : P p i = p.toList[i] := by
      have hi' : i < p.size := by simpa using hi
      simp [P, Array.getD, hi']
    have e2 : P p j = p.toList[j] := by
      have hj' : j < p.size := by simpa using hj
      simp [P, Array.getD, hj']
    rw [e1, e2] at a
    exact a
end HS
namespace HS
open PySem PySem.W PyProof.Rows
def bel (n : Nat) {α : Type} (R : α → Prop) : KasT α → Prop
  | .ret a => R a
  | .ask i j k => i < n ∧ j < n ∧ ∀ b, bel n R (k b)
theorem bel_bind {n : Nat} {α β : Type} {R : α → Prop} {T : β → Prop} {f : α → KasT β} (hf : ∀ a, R a → bel n T (f a)) : ∀ t : KasT α, bel n R t → bel n T (t.bind f)
  | .ret a, h => hf a h
  | .ask i j k, h => ⟨h.1, h.2.1, fun b => bel_bind hf (k b) (h.2.2 b)⟩
theorem wp_bel {n : Nat} {lt : Nat → Nat → Bool} {α : Type} {R : α → Prop} {cmp : Nat → Nat → (Bool → Shared → Prop) → Shared → Prop} {Q : α → Shared → Prop} {s : Shared} (hc : ∀ i j (C : Bool → Shared → Prop), i < n → j < n → C (lt i j) s → cmp i j C s) : ∀ t : KasT α, bel n R t → Q (ev lt t) s → t.kasWp cmp Q s
  | .ret _, _, h => h
  | .ask i j k, hb, h => hc i j _ hb.1 hb.2.1 (wp_bel hc (k (lt i j)) (hb.2.2 _) h)
structure Ent (n : Nat) (p : Array Nat) : Prop where
  pos : 0 < n
  all : ∀ y ∈ p.toList, y < n
theorem Ent.at {n : Nat} {p : Array Nat} (h : Ent n p) (x : Nat) : P p x < n := by
  by_cases hx : x < p.size
  · have e : P p x = p[x] := by simp [P, Array.getD, hx]
    rw [e]
    exact h.all _ (by simp)
  · have e : P p x = 0 := by simp [P, Array.getD, hx]
    rw [e]
    exact h.pos
theorem Ent.perm {n : Nat} {p q : Array Nat} (h : Ent n p) (hp : q.Perm p) : Ent n q := ⟨h.pos, fun y hy => h.all y ((hp.toList.mem_iff).mp hy)⟩
theorem bel_asc {n : Nat} {p : Array Nat} (h : Ent n p) : ∀ (f m : Nat), bel n (fun _ => True) (kas_asc p f m)
  | 0, _ => trivial
  | f + 1, m => ⟨h.at _, h.at _, fun b => by
    cases b with
    | true => exact trivial
    | false => exact bel_asc h f (m + 1)⟩
theorem bel_desc {n : Nat} : ∀ (f : Nat) (p : Array Nat) (m q : Nat), Ent n p → bel n (fun r : Array Nat × Nat × Nat => Ent n r.1) (kas_desc f p m q)
  | 0, _, _, _, h => h
  | f + 1, p, m, q, h => ⟨h.at _, h.at _, fun b => by
    cases b with
    | true =>
      show bel n _ (if q > 0 then _ else _)
      split
      · exact bel_desc f _ _ _ (h.perm (rev_perm _ _ _))
      · exact bel_desc f _ _ _ h
    | false =>
      refine ⟨h.at _, h.at _, fun c => ?_⟩
      cases c with
      | true => exact h
      | false => exact bel_desc f _ _ _ h⟩
theorem bel_tail3 {n : Nat} {p : Array Nat} (h : Ent n p) (m r : Nat) : bel n (fun r : Nat × Array Nat => Ent n r.2) (kas_tail3 m r p) := by
  refine bel_bind (R := fun _ => True) (fun a _ => ?_) _ (bel_asc (h.perm (rev_perm p 0 m)) _ _)
  exact h.perm (rev_perm p 0 m)
theorem bel_descPart {n : Nat} {p : Array Nat} (h : Ent n p) (m r : Nat) : bel n (fun r : Nat × Array Nat => Ent n r.2) (kas_descPart m r p) := by
  refine bel_bind (fun a ha => ?_) _ (bel_desc _ _ _ _ h)
  split
  · exact bel_tail3 (Ent.perm ha (rev_perm _ _ _)) _ _
  · exact bel_tail3 ha _ _
theorem bel_count {n : Nat} {p : Array Nat} (h : Ent n p) (r : Nat) : bel n (fun r : Nat × Array Nat => Ent n r.2) (kas_count r p) := by
  refine bel_bind (fun a _ => ?_) _ (bel_asc h _ _)
  split
  · exact h
  · split
    · refine ⟨h.at _, h.at _, fun b => ?_⟩
      cases b with
      | true => exact h
      | false => exact bel_descPart (h.perm (rev_perm _ _ _)) _ _
    · exact bel_descPart h _ _
theorem bel_place {n : Nat} {p : Array Nat} (h : Ent n p) (k : Nat) : ∀ f l r : Nat, bel n (fun _ => True) (kas_place p k f l r)
  | 0, _, _ => trivial
  | f + 1, l, r => by
    show bel n _ (if l ≥ r then _ else _)
    split
    · exact trivial
    · refine ⟨h.at _, h.at _, fun b => ?_⟩
      cases b with
      | true => exact bel_place h k f _ _
      | false => exact bel_place h k f _ _
theorem bel_bin {n : Nat} : ∀ (f : Nat) (p : Array Nat) (k : Nat), Ent n p → bel n (fun _ => True) (kas_bin f p k)
  | 0, _, _, _ => trivial
  | f + 1, p, k, h => bel_bind (fun a _ => bel_bin f _ _ (h.perm (bubble_perm _ _ _))) _ (bel_place h _ _ _ _)
theorem bel_sort {n : Nat} (h : 0 < n) : bel n (fun _ => True) (kas_sort n) := by
  refine bel_bind (fun a ha => ?_) _ (bel_count (n := n) ⟨h, fun y hy => by simpa using hy⟩ n)
  split
  · exact bel_bin _ _ _ ha
  · exact trivial
section
variable {prog : Program} {w : World} {A : Around} {E : Value → Shared → Prop} {s : Shared} {κ : Type}
structure Order (lt : κ → κ → Bool) (ks : List κ) (d : κ) (p : List Nat) : Prop where
  perm : p.Perm (List.range ks.length)
  rise : p.Pairwise fun i j => lt (ks.getD j d) (ks.getD i d) = false
theorem order_ok (lt : κ → κ → Bool) (tot : ∀ a b, lt a b = true → lt b a = false) (tr : ∀ a b c, lt b a = false → lt c b = false → lt c a = false) (ks : List κ) (d : κ) (h1 : 1 ≤ ks.length) :
    Order lt ks d (ev (fun i j => lt (ks.getD i d) (ks.getD j d)) (kas_sort ks.length)).toList := by
  have O : Ord (fun i j => lt (ks.getD i d) (ks.getD j d)) := ⟨fun a b h => tot _ _ h, fun a b c h1 h2 => tr _ _ _ h1 h2⟩
  obtain ⟨hp, hs⟩ := sort_ok O ks.length h1
  generalize ev (fun i j => lt (ks.getD i d) (ks.getD j d)) (kas_sort ks.length) = p at hp hs
  have hsz : p.size = ks.length := by simpa using hp.size_eq
  refine ⟨by simpa using hp.toList, ?_⟩
  rw [List.pairwise_iff_getElem]
  intro i j hi hj hij
  have a := hs i j (by omega) (by simpa [hsz] using hj)
  have e1 : P p i = p.toList[i] := by
    have hi' : i < p.size := by simpa using hi
    simp [P, Array.getD, hi']
  have e2 : P p j = p.toList[j] := by
    have hj' : j < p.size := by simpa using hj
    simp [P, Array.getD, hj']
  rw [e1, e2] at a
  exact a
theorem order_small (lt : κ → κ → Bool) (ks : List κ) (d : κ) (h : ks.length < 2) : Order lt ks d (List.range ks.length) := by
  refine ⟨List.Perm.refl _, ?_⟩
  match ks, h with
  | [], _ => exact List.Pairwise.nil
  | [_], _ => exact List.pairwise_singleton ..
  | _ :: _ :: _, h => exact absurd h (by simp only [List.length_cons]; omega)
theorem range_get (vs : List Value) : ((List.range vs.length).map fun i => vs.getD i Value.none) = vs := by
  apply List.ext_getElem?
  intro i
  rw [List.getElem?_map]
  by_cases hi : i < vs.length
  · rw [List.getElem?_range hi, List.getElem?_eq_getElem hi]
    simp [List.getD_eq_getElem?_getD, hi]
  · rw [List.getElem?_eq_none (by simpa using hi), List.getElem?_eq_none (by omega)]
    rfl
def Asks (prog : Program) (w : World) (A : Around) (lt : κ → κ → Bool) (ks : List κ) (d : κ) (vs : List Value) (s : Shared) : Prop :=
  ∃ kd : SortKind, (∀ (Q : SortKind → Shared → Prop) (E : Value → Shared → Prop), Q kd s → wpAny (model prog w) A (keyKind' vs.toArray) Q E s) ∧
    ∀ (i j : Nat) (C : Bool → Shared → Prop), i < vs.length → j < vs.length → C (lt (ks.getD i d) (ks.getD j d)) s → wpAny (model prog w) A (keyLt' kd (vs.getD i Value.none) (vs.getD j Value.none)) C (fun _ _ => False) s
theorem list_sort {lt : κ → κ → Bool} (tot : ∀ a b, lt a b = true → lt b a = false) (tr : ∀ a b c, lt b a = false → lt c b = false → lt c a = false) {ks : List κ} {d : κ} {a : Addr} {vs : List Value} {n : Nat} {R : PySem.Fin → Shared → Prop}
    (hl : ks.length = vs.length) (hob : s.heap.get? a = some (seqObj "list" vs.toArray n)) (h64 : vs.length < 64)
    (hk : 2 ≤ vs.length → ∀ h3, (∀ b o, b ≠ a → s.heap.get? b = some o → h3.get? b = some o) → Asks prog w A lt ks d vs { s with heap := h3 })
    (h : ∀ p e h', Order lt ks d p → (∀ b o, b ≠ a → s.heap.get? b = some o → h'.get? b = some o) → h'.get? a = some (seqObj "list" (p.map fun i => vs.getD i Value.none).toArray e) → R (.done (.ret .none)) { s with heap := h' }) :
    wpAny (model prog w) A (Builtin.«list.sort» ⟨[.ref a], []⟩) R E s := by
  have ha : a < s.heap.objs.size := Heap.lt_size hob
  have sb1 := Heap.SameBut.update s.heap a (Obj.mapSeq fun _ => (#[] : Array Value))
  obtain ⟨ep1, hob1⟩ : ∃ ep1, (s.heap.update a (Obj.mapSeq fun _ => (#[] : Array Value))).get? a = some (seqObj "list" #[] ep1) := ⟨_, get?_update_seq hob fun _ => #[]⟩
  have keep : ∀ b o, b ≠ a → s.heap.get? b = some o → (((s.heap.update a (Obj.mapSeq fun _ => (#[] : Array Value))).push (seqObj "tuple" vs.toArray 0)).push (seqObj "list" #[] 0)).get? b = some o := fun b o hb e =>
    Heap.get?_push_of_some _ (Heap.get?_push_of_some _ ((sb1.2 b hb).trans e))
  have here : (((s.heap.update a (Obj.mapSeq fun _ => (#[] : Array Value))).push (seqObj "tuple" vs.toArray 0)).push (seqObj "list" #[] 0)).get? a = some (seqObj "list" #[] ep1) := Heap.get?_push_of_some _ (Heap.get?_push_of_some _ hob1)
  rw [list_sort_plain]
  refine wpAny_bind (listItems_at hob rfl ?_)
  refine wpAny_bind (listUpdate_at hob rfl ?_ (by rw [List.size_toArray, sizeLine_eq]; omega) (Nat.zero_le _))
  refine wpAny_bind (seqEpoch_at hob1 rfl ?_)
  refine wpAny_bind (wpAny_newTuple ?_ (by show vs.length ≤ _; rw [sizeLine_eq]; omega))
  refine wpAny_bind (wpAny_newList ?_ (Nat.zero_le _))
  refine wpAny_holding ?_
  show wpAny (model prog w) A _ R E { s with heap := ((s.heap.update a (Obj.mapSeq fun _ => (#[] : Array Value))).push (seqObj "tuple" vs.toArray 0)).push (seqObj "list" #[] 0) }
  generalize hh3 : ((s.heap.update a (Obj.mapSeq fun _ => (#[] : Array Value))).push (seqObj "tuple" vs.toArray 0)).push (seqObj "list" #[] 0) = h3 at keep here
  dsimp only
  -- the end, from the places
  have fin : ∀ (p : List Nat) (st' : SortSt), Order lt ks d p → (arrOf st').map (·.2) = (p.map fun i => vs.getD i Value.none).toArray → failedOf st' = none → p.length ≤ 64 →
      wpAny (model prog w) A (do
        let touched := (← seqEpoch a) != ep1
        Builtin.List.listUpdate (.ref a) fun _ => (arrOf st').map (·.2)
        if let some e := failedOf st' then rule "list.sort.comparison-raised"; throw e
        if touched then rule "list.sort.modified"; raiseError "ValueError" "list modified during sort"
        ret .none) R E { s with heap := h3 } := fun p st' hO hout hf hpl => by
    have s2 := Heap.SameBut.update h3 a (Obj.mapSeq fun _ => (arrOf st').map (·.2))
    obtain ⟨c2, hc2⟩ : ∃ c2, (h3.update a (Obj.mapSeq fun _ => (arrOf st').map (·.2))).get? a = some (seqObj "list" ((arrOf st').map (·.2)) c2) := ⟨_, get?_update_seq here fun _ => (arrOf st').map (·.2)⟩
    refine wpAny_bind (seqEpoch_at here rfl ?_)
    refine wpAny_bind (listUpdate_at here rfl ?_ (Nat.zero_le _) (by rw [hout, List.size_toArray, List.length_map, sizeLine_eq]; omega))
    rw [hf]
    simp only [bne_self_eq_false, Bool.false_eq_true, if_false]
    refine wpAny_pure (h p c2 _ hO (fun b o hb e => (s2.2 b hb).trans (keep b o hb e)) ?_)
    rw [hc2, hout]
  by_cases few : vs.toArray.size < 2
  · rw [if_pos few, if_pos few]
    refine wpAny_bind (wpAny_pure ?_)
    rw [StateT.run_pure]
    refine wpAny_bind (wpAny_pure ?_)
    dsimp only
    have hlv : vs.length < 2 := by simpa using few
    refine fin (List.range ks.length) (SortSt.mk' general' (vs.toArray.zip vs.toArray) #[] 7 none) (order_small lt ks d (by omega)) ?_ rfl (by simp; omega)
    show (vs.toArray.zip vs.toArray).map (·.2) = _
    rw [hl, range_get]
    apply Array.toList_inj.mp
    rw [Array.toList_map, Array.toList_zip, List.map_snd_zip (by simp)]
  · have hlv : 2 ≤ vs.length := by
      have : ¬ vs.length < 2 := by simpa using few
      omega
    rw [if_neg few, if_neg few]
    obtain ⟨kd, hkd, hask⟩ := hk hlv h3 keep
    refine wpAny_bind (hkd _ _ ?_)
    have run := kat_run (prog := prog) (w := w) (A := A) (E := E) (s := { s with heap := h3 }) (κ := kd) (ks := vs) (vs := vs)
      (Q := fun st' s' => s' = { s with heap := h3 } ∧ arrOf st' = (ev (fun i j => lt (ks.getD i d) (ks.getD j d)) (kas_sort ks.length)).map (kas_item (vs.toArray.zip vs.toArray)) ∧ failedOf st' = none)
      (G := fun p s' => s' = { s with heap := h3 } ∧ p = ev (fun i j => lt (ks.getD i d) (ks.getD j d)) (kas_sort ks.length)) rfl hlv h64
      (fun p st' s' _ har hf hG => ⟨hG.1, by rw [har, hG.2], hf⟩)
      (wp_bel (n := vs.length) (lt := fun i j => lt (ks.getD i d) (ks.getD j d)) (R := fun _ => True) (fun i j C hi hj hC => hask i j C hi hj hC) _ (bel_sort (by omega)) ⟨rfl, by rw [hl]⟩)
    refine wpAny_bind (wpAny_mono run ?_ fun _ _ e => e)
    rintro ⟨⟨⟩, st'⟩ s' ⟨rfl, har, hf⟩
    dsimp only at har hf ⊢
    have hO := order_ok lt tot tr ks d (by omega)
    refine fin _ st' hO ?_ hf ?_
    · rw [har]
      apply Array.toList_inj.mp
      rw [Array.map_map, Array.toList_map]
      refine List.map_congr_left fun i _ => ?_
      show (kas_item (vs.toArray.zip vs.toArray) i).2 = _
      rw [kat_item rfl]
    · have := hO.perm.length_eq
      rw [List.length_range] at this
      omega
end
end HS
namespace HD
open PySem
theorem entry_loop : entryFor table "dict.update.loop" = some Builtin.«dict.update.loop» := entryFor_of_tree (by kernel_rfl)
theorem plain_loop : plainId "dict.update.loop" = true := by decide +kernel
theorem no_keys : typeLookup (.type "tuple") "keys" = pure none := by rw [typeLookup_type, builtinLookup_eq_fast]; kernel_rfl
section
variable {prog : Program} {w : World} {A : Around} {E : Value → Shared → Prop} {s : Shared}
theorem keys_tuple {a : Addr} {o : Obj} {xs : Array Value} {k : Nat} {Q : Option Value → Shared → Prop} (gx : s.heap.get? a = some o) (hc : o.cls = .type "tuple") (hdat : o.data = .seq xs k) (hd : o.dict = none) (hA : A.handled = none)
    (h : ∀ h' tk, (∀ b o, s.heap.get? b = some o → h'.get? b = some o) → Q none { s with heap := h', toks := tk }) : wpAny (model prog w) A (getAttr? (.ref a) "keys") Q E s := by
  obtain ⟨c, dct, dat, sl⟩ := o
  simp only at hc hdat hd
  subst hc hdat hd
  obtain ⟨hp, gg, dd, tk, oo⟩ := s
  have tyT : ∀ tz, (⟨hp, gg, dd, tz, oo⟩ : Shared).TypeIs (.ref a) "tuple" := fun _ => ⟨_, gx, rfl⟩
  have u1 := sub_AttributeError
  have u3 := F.slot_tuple_getattribute.lookup
  have u4 := F.slot_tuple_getattribute.bind (.ref a)
  have u5 := am_tuple_getattr_none
  unfold getAttr? getAttrBy? getAttrBy
  repeat (any_goals (first | assumption | exact tyT _ | ((with_reducible show wpAny _ _ (call (Value.builtin "tuple.__getattribute__") _ _) _ _ _); refine call_meets F.slot_tuple_getattribute (tyT _) am_entry_tuple_getattribute (F.args_tuple_getattribute_2 _ _) (meets_getattribute_miss_tuple a xs k sl "keys" _ no_keys (by decide) (by size_fits)) ⟨gx, hA, fun h' tz e gx' => ?_⟩) | wp_step))
  obtain ⟨t', u', he⟩ := gx'.there
  show wpAny _ _ (getattributeRaised _ _ _ _ _ _ _) _ _ _
  unfold getattributeRaised
  repeat (any_goals (first | assumption | wp_step))
  exact h h' tz gx'.of.keeps
end
end HD
namespace HD
open PySem
section
variable {prog : Program} {w : World} {A : Around} {E : Value → Shared → Prop} {s : Shared} {K : Type} [DecidableEq K] {knd : KeyKind prog w K}
structure St (knd : KeyKind prog w K) (h0 : Heap) (its : List Value) (kvs : List (K × Value)) (a d it : Addr) (i : Nat) (h : Heap) : Prop where
  tup : h.IsTuple a its.toArray
  iter : h.IsTupleIter it a i
  dict : h.DictOf knd d (merged [] (kvs.take i))
  keep : ∀ b o, b ≠ d → b ≠ it → h0.get? b = some o → h.get? b = some o
theorem tuple_same {h h' : Heap} {a d : Addr} {xs : Array Value} (ht : h.IsTuple a xs) (hs : Heap.SameBut d h h') (hne : a ≠ d) : h'.IsTuple a xs := by
  obtain ⟨o, ho, r⟩ := ht
  exact ⟨o, (hs.2 a hne).trans ho, r⟩
theorem iter_same {h h' : Heap} {a d it : Addr} {i : Nat} (ht : h.IsTupleIter it a i) (hs : Heap.SameBut d h h') (hne : it ≠ d) : h'.IsTupleIter it a i := by
  obtain ⟨o, ho, r⟩ := ht
  exact ⟨o, (hs.2 it hne).trans ho, r⟩
end
end HD
namespace HS
open PySem PySem.W PyProof.Rows
def ltS (a b : Str) : Bool := decide (a.cps.toList < b.cps.toList)
theorem ltS_irr (a : Str) : ltS a a = false := by unfold ltS; exact decide_eq_false (List.lt_irrefl _)
theorem ltS_tot (a b : Str) (h : ltS a b = true) : ltS b a = false := by
  unfold ltS at *
  exact decide_eq_false (List.lt_asymm (of_decide_eq_true h))
theorem ltS_tri {a b : Str} (h1 : ltS a b = false) (h2 : ltS b a = false) : a = b := by
  unfold ltS at *
  have e := List.le_antisymm (List.not_lt.mp (of_decide_eq_false h2)) (List.not_lt.mp (of_decide_eq_false h1))
  exact Str.ext' (Array.toList_inj.mp e)
theorem ltS_tr (a b c : Str) (h1 : ltS b a = false) (h2 : ltS c b = false) : ltS c a = false := by
  unfold ltS at *
  exact decide_eq_false (List.not_lt.mpr (List.le_trans (List.not_lt.mp (of_decide_eq_false h1)) (List.not_lt.mp (of_decide_eq_false h2))))
def ltT : List Str → List Str → Bool
  | _, [] => false
  | [], _ :: _ => true
  | a :: as, b :: bs => if a = b then ltT as bs else ltS a b
theorem ltT_tot : ∀ a b : List Str, ltT a b = true → ltT b a = false
  | _, [], h => by simp [ltT] at h
  | [], _ :: _, _ => rfl
  | a :: as, b :: bs, h => by
    unfold ltT at h ⊢
    by_cases e : a = b
    · subst e; rw [if_pos rfl] at h ⊢; exact ltT_tot as bs h
    · rw [if_neg e] at h; rw [if_neg (Ne.symm e)]; exact ltS_tot _ _ h
theorem ltT_tr : ∀ a b c : List Str, ltT b a = false → ltT c b = false → ltT c a = false
  | [], _, _, _, _ => by cases ‹List Str› <;> simp [ltT]
  | a :: as, [], c, h, _ => by simp [ltT] at h
  | a :: as, b :: bs, [], _, h => by simp [ltT] at h
  | a :: as, b :: bs, c :: cs, h1, h2 => by
    unfold ltT at h1 h2 ⊢
    by_cases e1 : b = a
    · subst e1
      rw [if_pos rfl] at h1
      by_cases e2 : c = b
      · subst e2; rw [if_pos rfl] at h2 ⊢; exact ltT_tr as bs cs h1 h2
      · rw [if_neg e2] at h2 ⊢; exact h2
    · rw [if_neg e1] at h1
      by_cases e2 : c = b
      · subst e2; rw [if_neg e1]; exact h1
      · rw [if_neg e2] at h2
        by_cases e3 : c = a
        · subst e3
          exact absurd (ltS_tri h1 h2).symm e2
        · rw [if_neg e3]; exact ltS_tr _ _ _ h1 h2
theorem ltT_tri : ∀ a b : List Str, ltT a b = false → ltT b a = false → a = b
  | [], [], _, _ => rfl
  | [], _ :: _, h, _ => by simp [ltT] at h
  | _ :: _, [], _, h => by simp [ltT] at h
  | a :: as, b :: bs, h1, h2 => by
    unfold ltT at h1 h2
    by_cases e : a = b
    · subst e; rw [if_pos rfl] at h1 h2; rw [ltT_tri as bs h1 h2]
    · rw [if_neg e] at h1; rw [if_neg (Ne.symm e)] at h2; exact absurd (ltS_tri h1 h2) e
section
variable {prog : Program} {w : World} {A : Around} {E : Value → Shared → Prop} {s : Shared} {κ : Type}
theorem sorted_call {lt : κ → κ → Bool} (tot : ∀ a b, lt a b = true → lt b a = false) (tr : ∀ a b c, lt b a = false → lt c b = false → lt c a = false) {ks : List κ} {d : κ} {v : Value} {Q : Value → Shared → Prop} (T : List Value → Prop) (hl : ∀ vs, T vs → ks.length = vs.length) (h64 : ks.length < 64)
    (hcol : ∀ Q' : List Value → Shared → Prop, (∀ vs h1 tk, T vs → (∀ b o, s.heap.get? b = some o → h1.get? b = some o) → Q' vs { s with heap := h1, toks := tk }) → wpAny (model prog w) A.in1 (collect v) Q' E s)
    (hk : ∀ vs, T vs → 2 ≤ vs.length → ∀ h3 tk, (∀ b o, s.heap.get? b = some o → h3.get? b = some o) → Asks prog w A.in1.in1 lt ks d vs { s with heap := h3, toks := tk })
    (h : ∀ (vs : List Value) (p : List Nat) (e : Nat) (h1 h' : Heap) (tk : Nat), T vs → Order lt ks d p → (∀ b o, s.heap.get? b = some o → h1.get? b = some o) → (∀ b o, h1.get? b = some o → h'.get? b = some o) → h'.get? h1.objs.size = some (seqObj "list" (p.map fun i => vs.getD i Value.none).toArray e) → Q (.ref h1.objs.size) { s with heap := h', toks := tk }) :
    wpAny (model prog w) A (call (.builtin "sorted") [v]) Q E s := by
  refine Calls.call_function_entry kind_sorted plain_sorted entry_sorted (args_sorted1 _) ?_
  unfold Builtin.«sorted»
  refine wpAny_bind (m := checkCount "sorted" 1 1 _) (wpAny_pure ?_)
  refine wpAny_bind (hcol _ fun vs h1 tk hT k1 => ?_)
  have hlv := hl vs hT
  refine wpAny_bind (wpAny_newList ?_ (by rw [sizeLine_eq]; omega))
  have hoL : (h1.push (seqObj "list" vs.toArray 0)).get? h1.objs.size = some (seqObj "list" vs.toArray 0) := Heap.get?_push_size _ rfl
  have keep : ∀ b o, h1.get? b = some o → b ≠ h1.objs.size := fun b o e => Nat.ne_of_lt (Heap.lt_size e)
  show wpAny _ _ _ _ _ { s with heap := h1.push (seqObj "list" vs.toArray 0), toks := tk }
  refine wpAny_bind (wpAny_holding (wpAny_call_entry slot_list_sort ⟨_, hoL, rfl⟩ entry_list_sort (list_sort (s := { s with heap := h1.push (seqObj "list" vs.toArray 0), toks := tk }) tot tr hlv hoL (by omega) (fun h2 h3 k3 => hk vs hT h2 h3 tk fun b o e => k3 b o (keep b o (k1 b o e)) (Heap.get?_push_of_some _ (k1 b o e)))
    fun p e h' hO k3 hD => ⟨_, rfl, ?_⟩) (args_list_sort _)))
  exact wpAny_pure ⟨_, rfl, h vs p e h1 h' tk hT hO k1 (fun b o e' => k3 b o (keep b o e') (Heap.get?_push_of_some _ e')) hD⟩
def TupStr (h : Heap) (v : Value) (ts : List Str) : Prop := ∃ a o vs n, v = Value.ref a ∧ h.get? a = some o ∧ o.cls = .type "tuple" ∧ o.data = .seq vs n ∧ StrsAre vs.toList ts
theorem lex_strs {fin : Bool} {C : Bool → Shared → Prop} : ∀ {vs ws : List Value} {ts us : List Str}, StrsAre vs ts → StrsAre ws us → ∀ (i : Nat), (fin = decide (ts.length < us.length)) → C (ltT ts us) s → KatLex prog w A true fin C (vs.zip ws) i s := by
  intro vs ws ts us h1
  induction h1 generalizing ws us with
  | nil =>
    intro h2 i hf hC
    cases h2 with
    | nil => rw [List.zip_nil_left]; refine kat_nil ?_; rw [hf]; exact hC
    | cons y t h2 => rw [List.zip_nil_left]; refine kat_nil ?_; rw [hf]; simpa [ltT] using hC
  | cons x t h1 ih =>
    intro h2 i hf hC
    cases h2 with
    | nil => rw [List.zip_nil_right]; refine kat_nil ?_; rw [hf]; simpa [ltT] using hC
    | cons y u h2 =>
      rw [List.zip_cons_cons]
      refine kat_cons (wpAny_eqBool_str ?_)
      by_cases e : x = y
      · subst e
        rw [decide_eq_true rfl]
        refine kat_yes (ih h2 (i + 1) (by rw [hf]; simp) ?_)
        unfold ltT at hC
        rw [if_pos rfl] at hC
        exact hC
      · rw [decide_eq_false e]
        have hC' : C (ltS x y) s := by
          unfold ltT at hC
          rw [if_neg e] at hC
          exact hC
        refine kat_no ?_
        cases i with
        | zero => exact oneLt_str hC'
        | succ i => exact kat_one _ _ (lt_str hC')
theorem strs_len {vs : List Value} {ts : List Str} (h : StrsAre vs ts) : vs.length = ts.length := by
  induction h with
  | nil => rfl
  | cons _ _ _ ih => rw [List.length_cons, List.length_cons, ih]
inductive TupsAre (h : Heap) : List Value → List (List Str) → Prop where
  | nil : TupsAre h [] []
  | cons {v : Value} {ts : List Str} {vs : List Value} {tss : List (List Str)} : TupStr h v ts → ts ≠ [] → TupsAre h vs tss → TupsAre h (v :: vs) (ts :: tss)
theorem TupsAre.keep {h h' : Heap} (k : ∀ b o, h.get? b = some o → h'.get? b = some o) {vs : List Value} {tss : List (List Str)} (x : TupsAre h vs tss) : TupsAre h' vs tss := by
  induction x with
  | nil => exact .nil
  | cons t ne _ ih =>
    obtain ⟨a, o, xs, n, e, ho, r⟩ := t
    exact .cons ⟨a, o, xs, n, e, k a o ho, r⟩ ne ih
theorem TupsAre.len {h : Heap} {vs : List Value} {tss : List (List Str)} (x : TupsAre h vs tss) : vs.length = tss.length := by
  induction x with
  | nil => rfl
  | cons _ _ _ ih => rw [List.length_cons, List.length_cons, ih]
theorem TupsAre.at {h : Heap} {vs : List Value} {tss : List (List Str)} (x : TupsAre h vs tss) : ∀ i, i < vs.length → TupStr h (vs.getD i Value.none) (tss.getD i []) := by
  induction x with
  | nil => intro i hi; simp at hi
  | cons t _ _ ih =>
    intro i hi
    cases i with
    | zero => exact t
    | succ i => exact ih i (by simpa using hi)
theorem TupsAre.kat {h : Heap} {vs : List Value} {tss : List (List Str)} (x : TupsAre h vs tss) : ∃ fs : List Value, KatTups h vs fs ∧ fs.length = vs.length ∧ ∀ f ∈ fs, ∃ y t, f = Value.str y t := by
  induction x with
  | nil => exact ⟨[], KatTups.nil, rfl, by simp⟩
  | cons t ne _ ih =>
    obtain ⟨fs, k, hl, hf⟩ := ih
    obtain ⟨a, o, xs, n, rfl, ho, hc, hd, hs⟩ := t
    obtain ⟨xl⟩ := xs
    cases hs with
    | nil => exact absurd rfl ne
    | cons y tk _ =>
      refine ⟨_ :: fs, KatTups.cons ho hc hd rfl k, by rw [List.length_cons, List.length_cons, hl], fun f hf' => ?_⟩
      rcases List.mem_cons.mp hf' with rfl | hf'
      · exact ⟨y, tk, rfl⟩
      · exact hf f hf'
theorem asks_tups {tss : List (List Str)} {vs : List Value} (hT : TupsAre s.heap vs tss) (h2 : 2 ≤ vs.length) : Asks prog w A ltT tss [] vs s := by
  refine ⟨tuples' true, fun Q E hq => ?_, fun i j C hi hj hC => ?_⟩
  · obtain ⟨fs, k, hl, hf⟩ := hT.kat
    refine kat_kind (T := Value.type "str") k (by omega) (fun f hm => ?_) rfl ?_
    · obtain ⟨y, t, rfl⟩ := hf f hm
      exact Looks.now
    · have e : (Value.type "str" != Value.type "tuple") = true := by decide
      rw [e]
      exact hq
  · obtain ⟨a, o, xs, n, e1, ho, hc, hd, hs⟩ := hT.at i hi
    obtain ⟨b, o', ys, n', e2, ho', hc', hd', hs'⟩ := hT.at j hj
    rw [e1, e2]
    refine kat_lt ho hd ho' hd' (lex_strs hs hs' 0 ?_ hC)
    have l1 := strs_len hs
    have l2 := strs_len hs'
    rw [Array.length_toList] at l1 l2
    rw [l1, l2]
end
end HS
namespace L2
open PySem PySem.Spec PyProof.Rows
theorem perm_get {α : Type} (l : List α) (d : α) {p : List Nat} (hp : p.Perm (List.range l.length)) : (p.map fun i => l.getD i d).Perm l := by
  have e : (List.range l.length).map (fun i => l.getD i d) = l := by
    apply List.ext_getElem?
    intro i
    rw [List.getElem?_map]
    by_cases hi : i < l.length
    · rw [List.getElem?_range hi, List.getElem?_eq_getElem hi]
      simp [hi]
    · rw [List.getElem?_eq_none (by simpa using hi), List.getElem?_eq_none (by omega)]
      rfl
  have := hp.map (fun i => l.getD i d)
  rw [e] at this
  exact this
theorem Vals.pick {xs : List V} {us : List Value} (r : Vals xs us) : ∀ {p : List Nat}, (∀ i ∈ p, i < xs.length) → Vals (p.map fun i => xs.getD i .non) (p.map fun i => us.getD i Value.none)
  | [], _ => .nil
  | i :: p, h => by
    refine .cons ?_ (r.pick fun j hj => h j (List.mem_cons_of_mem _ hj))
    have hi := h i (List.mem_cons_self ..)
    obtain ⟨u, e, ru⟩ := r.get (List.getElem?_eq_getElem hi)
    have e1 : xs.getD i .non = xs[i] := by simp [hi]
    have e2 : us.getD i Value.none = u := by rw [List.getD_eq_getElem?_getD, e]; rfl
    show RelV (xs.getD i .non) (us.getD i Value.none)
    rw [e1, e2]
    exact ru
section
variable {X : Cx}
theorem collect_seq {pins : List (Addr × Obj)} {σ : St} {H : Hp} {s : Shared} {a : Addr} {xs : List V} {A : Around} {E : Value → Shared → Prop} (I : Inv X pins σ H s) (hq : SqL X.K H a xs ∨ SqT X.K H a xs) :
    ∃ its : List Value, Vals xs its ∧ ∀ Q' : List Value → Shared → Prop, (∀ h1 tk, (∀ b o, s.heap.get? b = some o → h1.get? b = some o) → Q' its { s with heap := h1, toks := tk }) → wpAny (model X.prog X.w) A (collect (.ref a)) Q' E s := by
  rcases hq with hq | hq
  · obtain ⟨its, r, pl, hz⟩ := I.list hq
    have hlen := r.length
    obtain ⟨o, ho, hc, n, hd⟩ := pl.isList
    exact ⟨its, r, fun Q' h => wpAny_collect_seq a (.inl rfl) ho hc hd (fun h' k => by simpa using h h' s.toks k) (by rw [List.size_toArray]; omega)⟩
  · obtain ⟨its, r, pl, hz⟩ := I.tuple hq
    have hlen := r.length
    obtain ⟨o, ho, hc, n, hd⟩ := pl
    exact ⟨its, r, fun Q' h => wpAny_collect_seq a (.inr rfl) ho hc hd (fun h' k => by simpa using h h' s.toks k) (by rw [List.size_toArray]; omega)⟩
theorem sorted_end {pins : List (Addr × Obj)} {σ : St} {H : Hp} {s : Shared} {xs : List V} {its : List Value} {p : List Nat} {e : Nat} {h1 h' : Heap} {tk : Nat} {Q : VK} (I : Inv X pins σ H s) (r : Vals xs its) (hz : xs.length < 64) (hp : p.Perm (List.range xs.length))
    (k1 : ∀ b o, s.heap.get? b = some o → h1.get? b = some o) (k2 : ∀ b o, h1.get? b = some o → h'.get? b = some o) (hD : h'.get? h1.objs.size = some (seqObj "list" (p.map fun i => its.getD i Value.none).toArray e))
    (q : ∀ l, H l = none → Q (.ref l) (upd H l (.lst (p.map fun i => xs.getD i .non)))) : EP X pins σ Q (.ref h1.objs.size) { s with heap := h', toks := tk } := by
  have I1 : Inv X pins σ H { s with heap := h1, toks := tk } := I.kept (h' := h1) (t' := tk) k1
  have hpl : ∀ i ∈ p, i < xs.length := fun i hi => List.mem_range.mp (hp.mem_iff.mp hi)
  have hlen : p.length = xs.length := by rw [hp.length_eq, List.length_range]
  have I2 : Inv X pins σ (upd H h1.objs.size (.lst (p.map fun i => xs.getD i .non))) { s with heap := h', toks := tk } :=
    I1.laid (h' := h') (t' := tk) (o := .lst (p.map fun i => xs.getD i .non)) k2 (Nat.le_refl _) ⟨by rw [List.length_map, hlen, sizeLine_eq]; omega, _, e, r.pick hpl, hD⟩
  exact ⟨.ref h1.objs.size, _, I2, rfl, q _ I1.fresh⟩
theorem tups_of {pins : List (Addr × Obj)} {σ : St} {H : Hp} {s : Shared} (I : Inv X pins σ H s) : ∀ {rs : List (Addr × List Str)} {its : List Value}, Vals (rs.map fun r => V.ref r.1) its → (∀ r ∈ rs, SqT X.K H r.1 (r.2.map V.str) ∧ r.2 ≠ []) → HS.TupsAre s.heap its (rs.map (·.2))
  | [], _, .nil, _ => .nil
  | (b, ts) :: rs, _, .cons e r, h => by
    cases e
    obtain ⟨hq, ne⟩ := h (b, ts) (List.mem_cons_self ..)
    obtain ⟨its2, r2, p2, _⟩ := I.tuple hq
    obtain ⟨o, ho, hc, n, hd⟩ := p2
    exact .cons ⟨b, o, _, n, rfl, ho, hc, hd, by simpa using strsAre_vals r2⟩ ne (tups_of I r fun r hr => h r (List.mem_cons_of_mem _ hr))
theorem call_sortT : CallR X (.builtin "sorted") (fun xs H Q => ∃ a, ∃ rs : List (Addr × List Str), xs = [.ref a] ∧ (SqL X.K H a (rs.map fun r => V.ref r.1) ∨ SqT X.K H a (rs.map fun r => V.ref r.1)) ∧ rs.length < 64 ∧ (∀ r ∈ rs, SqT X.K H r.1 (r.2.map V.str) ∧ r.2 ≠ []) ∧
    ∀ l (rs' : List (Addr × List Str)), H l = none → rs'.Perm rs → rs'.Pairwise (fun a b => HS.ltT b.2 a.2 = false) → Q (.ref l) (upd H l (.lst (rs'.map fun r => V.ref r.1)))) := by
  intro pins s σ H xs us Q I r h
  obtain ⟨a, rs, rfl, hq, hz, hr, q⟩ := h
  obtain ⟨u, rfl, ru⟩ := vals1 r
  cases ru
  obtain ⟨its, ri, hcol⟩ := collect_seq (A := X.A.in1) (E := X.xe) I hq
  have hl := ri.length
  rw [List.length_map] at hl
  have hT := tups_of I ri hr
  refine HS.sorted_call (lt := HS.ltT) HS.ltT_tot HS.ltT_tr (ks := rs.map (·.2)) (d := []) (fun v => v = its) (fun v e => by rw [e, List.length_map]; exact hl) (by rw [List.length_map]; exact hz) (fun Q' h => hcol Q' fun h1 tk k => h its h1 tk rfl k) (fun v e h2 h3 tk k3 => by subst e; exact HS.asks_tups (s := { s with heap := h3, toks := tk }) (hT.keep k3) h2) fun v p e h1 h' tk ev hO k1 k2 hD => ?_
  subst ev
  have hpm : p.Perm (List.range rs.length) := by have := hO.perm; rw [List.length_map] at this; exact this
  refine sorted_end I ri (by rw [List.length_map]; exact hz) (by rw [List.length_map]; exact hpm) k1 k2 hD fun l nl => ?_
  have ep : (p.map fun i => (rs.map fun r => V.ref r.1).getD i .non) = (p.map fun i => rs.getD i (0, [])).map fun r => V.ref r.1 := by
    rw [List.map_map]
    refine List.map_congr_left fun i hi => ?_
    have hi' : i < rs.length := List.mem_range.mp (hpm.mem_iff.mp hi)
    simp [hi']
  rw [ep]
  refine q l _ nl (perm_get rs (0, []) hpm) (List.pairwise_map.mpr (hO.rise.imp_of_mem fun {i j} hi hj z => ?_))
  have hi' : i < rs.length := List.mem_range.mp (hpm.mem_iff.mp hi)
  have hj' : j < rs.length := List.mem_range.mp (hpm.mem_iff.mp hj)
  simpa [hi', hj'] using z
theorem op_catH : OpR X (binaryOp .Add) (fun x y H Q => ∃ a b xs ys, x = .ref a ∧ y = .ref b ∧ H a = some (.tup xs) ∧ H b = some (.tup ys) ∧ xs.length + ys.length ≤ sizeLine ∧ ∀ p H', Same H H' → H' p = some (.tup (xs ++ ys)) → Q (.ref p) H') := by
  intro pins s σ H x y v u Q I rx ry h
  obtain ⟨a, b, xs, ys, rfl, rfl, ha, hb, hz, q⟩ := h
  by_cases hx : xs = []
  · subst hx
    cases rx
    cases ry
    obtain ⟨its, r1, p1, _⟩ := I.tuple (SqT.of ha)
    obtain ⟨its2, r2, p2, _⟩ := I.tuple (SqT.of hb)
    have e1 : its = [] := r1.nil_iff.mpr rfl
    subst e1
    obtain ⟨m, F⟩ := I.fr
    exact add_tuples F (news := []) (fun p hp => absurd hp (by simp)) p1 p2 (fun _ => ⟨.ref b, H, I, rfl, q b H (Same.refl H) hb⟩) (fun z => absurd rfl z) (fun z => absurd rfl z) (by simp at hz ⊢; rw [← r2.length]; exact hz)
  · refine op_catT pins s σ H (.ref a) (.ref b) v u Q I rx ry ⟨a, b, xs, ys, rfl, rfl, SqT.of ha, SqT.of hb, hx, hz, fun e => ?_, fun _ p hp => q p _ (Same.new hp _) upd_same⟩
    subst e
    exact q a H (Same.refl H) (by rw [List.append_nil]; exact ha)
end
end L2
namespace L2
open PySem PySem.Spec PyProof.Rows
def TS' (H H' : Hp) : Prop := ∀ b xs, H b = some (.tup xs) → H' b = some (.tup xs)
theorem _root_.L2.Same.ts {H H' : Hp} (s : Same H H') : TS' H H' := fun b xs h => s b _ h
theorem TS'.trans {H H1 H2 : Hp} (a : TS' H H1) (b : TS' H1 H2) : TS' H H2 := fun c xs h => b c xs (a c xs h)
theorem TS'.lst {H : Hp} {D : Addr} {ys : List V} {o : HO} (h : H D = some (.lst ys)) : TS' H (upd H D o) := fun b xs hb => by
  have : b ≠ D := fun e => by rw [e, h] at hb; cases hb
  rw [upd_ne this]
  exact hb
section
variable {X : Cx} {a : Expr} {ta : TE}
end
end L2
namespace L2
open PySem PySem.Spec PyProof.Rows
theorem KV.at : ∀ {kvs : List (Key × V)} {vs : List (Key × Value)} {i : Nat}, KV kvs vs → i < kvs.length → ∃ k x v, kvs[i]? = some (k, x) ∧ vs[i]? = some (k, v)
  | _ :: _, _ :: _, 0, .cons h r, _ => ⟨_, _, _, rfl, by rw [List.getElem?_cons_zero, h.1]⟩
  | _ :: _, _ :: _, i + 1, .cons h r, hl => by
    obtain ⟨k, x, v, h1, h2⟩ := KV.at (i := i) r (by simpa using hl)
    exact ⟨k, x, v, by simpa using h1, by simpa using h2⟩
section
variable {X : Cx} {tg : Expr}
theorem op_neA (hu : X.A.units + 8 < cLine) : OpR X (compareOp .NotEq) (fun x y H Q => ∃ a b ds xs ys, x = .ref a ∧ y = .ref b ∧ ((SqT X.K H a xs ∧ SqT X.K H b ys) ∨ (SqL X.K H a xs ∧ SqL X.K H b ys)) ∧ AreDat X.K H ds xs ∧ AreDat X.K H ds ys ∧ Dat.deeps ds ≤ 3 ∧ Q (.bl false) H) := by
  intro pins s σ H x y v u Q I rx ry h
  obtain ⟨a, b, ds, xs, ys, rfl, rfl, hq, h1, h2, hdp, q⟩ := h
  cases rx
  cases ry
  have l1 := h1.length
  have l2 := h2.length
  have el : ∀ {its its2 : List Value}, Vals xs its → Vals ys its2 → ∀ j (j1 : j < its.toArray.size) (j2 : j < its2.toArray.size), SeqAt.EqAt X.A.in1 s its.toArray[j] its2.toArray[j] true := fun {its its2} r1 r2 j j1 j2 => by
    obtain ⟨x', d1, rx', m1⟩ := dat_at (A := X.A) h1 r1 j1
    obtain ⟨y', d2, ry', _⟩ := dat_at (A := X.A) h2 r2 j2
    have h3 := deep_at m1
    have := dat_eqAt I 3 X.A.in1 (by omega) (by show X.A.units + 1 + 3 < cLine; omega) d1 d2 rx' ry'
    rw [beq_refl] at this
    exact this
  have allT : ∀ n : Nat, (List.range n).all (fun _ => true) = true := fun n => by simp
  rcases hq with ⟨q1, q2⟩ | ⟨q1, q2⟩
  · obtain ⟨its, r1, p1, _⟩ := I.tuple q1
    obtain ⟨its2, r2, p2, _⟩ := I.tuple q2
    have s1 : its.toArray.size = ds.length := by rw [List.size_toArray, ← r1.length, l1]
    have s2 : its2.toArray.size = ds.length := by rw [List.size_toArray, ← r2.length, l2]
    refine SeqAt.RcNeAt.tuples (e := fun _ => true) p1 p2 (by omega) (el r1 r2) _ _ _ _ ?_
    rw [allT, s1, s2]
    exact ⟨.bl false, H, I, (by simp; rfl), q⟩
  · obtain ⟨its, r1, p1, _⟩ := I.list q1
    obtain ⟨its2, r2, p2, _⟩ := I.list q2
    have s1 : its.toArray.size = ds.length := by rw [List.size_toArray, ← r1.length, l1]
    have s2 : its2.toArray.size = ds.length := by rw [List.size_toArray, ← r2.length, l2]
    refine SeqAt.RcNeAt.lists (e := fun _ => true) p1.isList p2.isList (s1.trans s2.symm) (by omega) (el r1 r2) _ _ _ _ ?_
    rw [allT]
    exact ⟨.bl false, H, I, (by simp; rfl), q⟩
end
end L2
namespace RD
open PySem PySem.Spec PyProof.Rows
section
variable {prog : Program} {w : World} {A : Around} {E : Value → Shared → Prop} {s : Shared}
theorem iter {d : Addr} {o : Obj} {es : Array DictEntry} {ep : Nat} {Q : Value → Shared → Prop} (lo : (d == sysModules) = false) (ho : s.heap.get? d = some o) (hx : o.ExactDict) (hdat : o.data = .dict es ep)
    (hQ : Q (.ref s.heap.objs.size) { s with heap := s.heap.push { cls := .type "dict_keyiterator", data := .fields #[.ref d, .int 0 0, .int es.size 0, .int ep 0] } }) : wpAny (model prog w) A (pyIter (.ref d)) Q E s := by
  have tyD : s.TypeIs (.ref d) "dict" := ⟨o, ho, hx.1⟩
  refine wpAny_pyIter_slot tyD F.slot_dict_iter (wpAny_call_entry F.slot_dict_iter tyD F.entry_dict_iter ?_ (F.args_dict_iter_1 _)); unfold Builtin.«dict.__iter__»; refine wpAny_bind ?_
  unfold Builtin.Dict.dictSlotNone; refine wpAny_bind (wpAny_notOrdered_dict tyD ?_); show wpAny _ _ (pure (Value.ref d)) _ _ s; refine wpAny_pure ?_
  show wpAny _ _ (Builtin.Dict.showsAll d >>= _) _ _ s; unfold Builtin.Dict.showsAll; rw [if_neg (by rw [lo]; exact Bool.false_ne_true)]
  refine wpAny_bind (wpAny_pure (wpAny_bind (wpAny_dictEntries ho hdat (wpAny_bind (wpAny_dictEpoch ho hdat ?_)))))
  refine wpAny_bind (wpAny_newObj_type (wpAny_pure ⟨_, rfl, "dict_keyiterator", _, ⟨_, Heap.get?_push_size _ rfl, rfl⟩, F.slot_dict_keyiterator_next.lookup, ?_⟩)); simpa [rawInt] using hQ
theorem item {it d : Addr} {i ep : Nat} {od : Obj} {es : Array DictEntry} {e : DictEntry} {Q : Option Value → Shared → Prop} (hit : s.heap.IsKeyIter it d i es.size ep) (hod : s.heap.get? d = some od) (hdd : od.data = .dict es ep) (hx : es[i]? = some e)
    (hQ : ∀ h', h'.IsKeyIter it d (i + 1) es.size ep → Heap.SameBut it s.heap h' → Q (some e.key) { s with heap := h' }) : wpAny (model prog w) A (pyNext (.ref it)) Q E s := by
  obtain ⟨o, ho, hc, hd⟩ := id hit
  unfold pyNext; refine wpAny_bind (wpAny_attempt (wpAny_callSpecial?_slot (name := Str.ofString "__next__") hit.typeIs F.slot_dict_keyiterator_next (wpAny_call_entry F.slot_dict_keyiterator_next hit.typeIs F.entry_dict_keyiterator_next ?_ (F.args_dict_keyiterator_next_1 _))))
  refine wpAny_bind (wpAny_pure (wpAny_bind (wpAny_bind ?_))); first | refine wpAny_bind (wpAny_typeNameOfWhole_keyiter hit.typeIs (wpAny_pure ?_)) | refine wpAny_bind (wpAny_typeNameOf_keyiter hit.typeIs (wpAny_pure ?_))
  refine wpAny_bind (wpAny_fieldsOf ho hd ?_); have own0 : Builtin.Dict_items.ownsTuple "dict_keyiterator" = false := by decide
  simp only [own0, Bool.false_eq_true, if_false]; show wpAny _ _ (if (Value.ref d == Value.none) = true then _ else _) _ _ s; rw [if_neg (show ¬ ((Value.ref d == Value.none) = true) from Bool.false_ne_true)]
  refine wpAny_bind (wpAny_pure (wpAny_bind (wpAny_dictEntries hod hdd ?_))); rw [if_neg (by simp)]
  refine wpAny_bind (wpAny_pure (wpAny_bind (wpAny_dictEpoch hod hdd ?_))); rw [if_neg (by simp)]; refine wpAny_pure ?_
  have lt : i < es.size := (Array.getElem?_eq_some_iff.mp hx).1
  have ee : es[i] = e := (Array.getElem?_eq_some_iff.mp hx).2
  simp only [show ¬ ((i : Int) < 0) from by omega, if_false, Int.toNat_natCast, hx]
  refine wpAny_bind ?_; first | refine wpAny_bind (wpAny_typeNameOfWhole_keyiter hit.typeIs (wpAny_pure ?_)) | refine wpAny_bind (wpAny_typeNameOf_keyiter hit.typeIs (wpAny_pure ?_))
  refine wpAny_bind (wpAny_isOneOf_keyiter hit.typeIs ?_); show wpAny _ _ (setField (.ref it) 1 (rawInt ((i : Int) + 1)) >>= _) _ _ s; refine wpAny_bind (wpAny_setField ho hd (by simp) ?_)
  have next : (s.heap.update it (Obj.mapFields (·.setIfInBounds 1 (rawInt ((i : Int) + 1))))).IsKeyIter it d (i + 1) es.size ep := ⟨_, Heap.get?_update_self _ ho (Obj.isFreed_of_fields (Obj.data_mapFields hd _)), (Obj.cls_mapFields ..).trans hc, by rw [Obj.data_mapFields hd]; simp [rawInt]⟩
  refine wpAny_bind (wpAny_holding (wpAny_bind (wpAny_isOneOf_keyiter (s := { s with heap := s.heap.update it (Obj.mapFields (·.setIfInBounds 1 (rawInt ((i : Int) + 1)))) }) next.typeIs ?_)))
  show wpAny _ _ (pure e.key) _ _ _; exact wpAny_pure (wpAny_pure ⟨_, rfl, wpAny_pure (hQ _ next (Heap.SameBut.update ..))⟩)
theorem done {it d : Addr} {i ep : Nat} {od : Obj} {es : Array DictEntry} {Q : Option Value → Shared → Prop} (hh : A.handled = none) (hit : s.heap.IsKeyIter it d i es.size ep) (hod : s.heap.get? d = some od) (hdd : od.data = .dict es ep) (hx : es.size ≤ i)
    (hQ : ∀ h', Heap.ExtBut it s.heap h' → Q none { s with heap := h' }) : wpAny (model prog w) A (pyNext (.ref it)) Q E s := by
  obtain ⟨o, ho, hc, hd⟩ := id hit
  unfold pyNext; refine wpAny_bind (wpAny_attempt (wpAny_callSpecial?_slot (name := Str.ofString "__next__") hit.typeIs F.slot_dict_keyiterator_next (wpAny_call_entry F.slot_dict_keyiterator_next hit.typeIs F.entry_dict_keyiterator_next ?_ (F.args_dict_keyiterator_next_1 _))))
  refine wpAny_bind (wpAny_pure (wpAny_bind (wpAny_bind ?_))); first | refine wpAny_bind (wpAny_typeNameOfWhole_keyiter hit.typeIs (wpAny_pure ?_)) | refine wpAny_bind (wpAny_typeNameOf_keyiter hit.typeIs (wpAny_pure ?_))
  refine wpAny_bind (wpAny_fieldsOf ho hd ?_); have own0 : Builtin.Dict_items.ownsTuple "dict_keyiterator" = false := by decide
  simp only [own0, Bool.false_eq_true, if_false]; show wpAny _ _ (if (Value.ref d == Value.none) = true then _ else _) _ _ s; rw [if_neg (show ¬ ((Value.ref d == Value.none) = true) from Bool.false_ne_true)]
  refine wpAny_bind (wpAny_pure (wpAny_bind (wpAny_dictEntries hod hdd ?_))); rw [if_neg (by simp)]
  refine wpAny_bind (wpAny_pure (wpAny_bind (wpAny_dictEpoch hod hdd ?_))); rw [if_neg (by simp)]; refine wpAny_pure ?_
  simp only [show ¬ ((i : Int) < 0) from by omega, if_false, Int.toNat_natCast, Array.getElem?_eq_none hx]
  refine wpAny_bind ?_; first | refine wpAny_bind (wpAny_typeNameOfWhole_keyiter hit.typeIs (wpAny_pure ?_)) | refine wpAny_bind (wpAny_typeNameOf_keyiter hit.typeIs (wpAny_pure ?_))
  show wpAny _ _ (setField (.ref it) 0 .none >>= _) _ _ s; refine wpAny_bind (wpAny_setField ho hd (by simp) ?_)
  show wpAny _ _ (newExc (.type "StopIteration") [] >>= _) _ _ _; refine wpAny_bind ?_; simp only [newExc, newTuple]; refine wpAny_bind (wpAny_newObj_type ?_ (by size_fits))
  refine wpAny_bind (m := firstArgMember _ _) (wpAny_of_eq (a := Value.none) (by first | rfl | (simp only [firstArgMember]; rfl)) (wpAny_newObj_type ?_ (by size_fits))); simp only [raiseNew]
  refine wpAny_bind (wpAny_handled ?_); rw [show A.in1.handled = none from hh]; refine wpAny_bind (wpAny_pure (wpAny_throw ?_))
  refine wpAny_bind (wpAny_isInstance (T := "StopIteration") (b := true) ⟨_, Heap.get?_push_size _ rfl, rfl⟩ isSubtype_stop ?_); exact wpAny_pure (hQ _ (((Heap.SameBut.update ..).extBut.push _).push _))
theorem walks {d : Addr} {od : Obj} {es : Array DictEntry} {ep : Nat} (hh : A.handled = none) (I : Addr) (hne : d ≠ I) (hdd : od.data = .dict es ep) :
    Walks prog w A I [I, d] [I] es.size (fun i v => ∃ e, es[i]? = some e ∧ v = e.key) (fun i h => h.IsKeyIter I d i es.size ep ∧ h.get? d = some od) where
  sub := fun b hb => by simp at hb; simp [hb]
  frame := fun _ _ _ st hk => ⟨st.1.at fun o e => hk I (by simp) o e, hk d (by simp) _ st.2⟩
  item := fun i s Q E hi st hQ => item st.1 st.2 hdd (Array.getElem?_eq_getElem hi) fun h' hit' hs' =>
    hQ _ h' s.toks ⟨_, Array.getElem?_eq_getElem hi, rfl⟩ ⟨hit', hs'.extBut d od hne st.2⟩ fun b o hb e => hs'.extBut b o (fun h => hb (by simp [h])) e
  done := fun s Q E st hQ => done hh st.1 st.2 hdd (Nat.le_refl _) fun h' he' => hQ h' s.toks fun b o hb e => he' b o (fun h => hb (by simp [h])) e
  self := fun _ _ _ _ st hQ => wpAny_pyIter_keyiter st.1 hQ
theorem src {d : Addr} {od : Obj} {es : Array DictEntry} {ep : Nat} (lo : (d == sysModules) = false) (hx : od.ExactDict) (hdd : od.data = .dict es ep) :
    PySem.W.KdlSrc prog w "dict" d d es.size (fun i v => ∃ e, es[i]? = some e ∧ v = e.key) (fun h => h.get? d = some od) where
  type := fun _ hm => ⟨od, hm, hx.1⟩
  there := fun _ hm => ⟨Heap.lt_size hm, Heap.lt_size hm⟩
  keep := fun _ _ hm hk => hk d (.inl rfl) _ hm
  notList := by decide
  notTuple := by decide
  hint := fun _ _ _ _ hm hq => PySem.W.kdl_hint_dict ⟨od, hm, hx.1⟩ hq
  iter := fun _ _ hh hm => ⟨_, _, (fun _ _ hq => iter lo hm hx hdd hq), walks hh _ (Nat.ne_of_lt (Heap.lt_size hm)) hdd, ⟨⟨_, Heap.get?_push_size _ rfl, rfl, rfl⟩, Heap.get?_push_of_some _ hm⟩⟩
end
end RD
namespace L2
open PySem PySem.Spec PyProof.Rows
section
variable {X : Cx}
def strK : Key → Str
  | .inr t => t
  | .inl _ => ""
end
end L2
namespace L2
open PySem PySem.Spec PyProof.Rows
section
variable {X : Cx}
end
end L2
namespace HT
open PySem PySem.Spec PyProof.Rows
section
variable {prog : Program} {w : World} {A : Around} {E : Value → Shared → Prop} {s : Shared}
theorem getItem_whole {t sl : Addr} {items : Array Value} {vl vu : Value} {lo hi : Option Int} {Q : Value → Shared → Prop} (ht : IsTup s.heap t items) (hs : s.heap.IsSliceOf sl vl vu .none) (pl : IsPart vl lo) (pu : IsPart vu hi)
    (hw : sIx items.size 0 lo = 0 ∧ sIx items.size items.size hi = items.size) (h : Q (.ref t) s) : wpAny (model prog w) A (getItem (.ref t) (.ref sl)) Q E s := by
  obtain ⟨os, hos, hcs, hds⟩ := id hs
  have tyS : s.TypeIs (.ref sl) "slice" := ⟨os, hos, hcs⟩
  unfold getItem; try with_reducible refine wpAny_holding ?_
  first | refine wpAny_bind (wpAny_pure ?_) | skip
  refine wpAny_bind (wpAny_sequenceKey ht.typeIs (by decide) (wpAny_bind (wpAny_callSpecial?_slot (name := Str.ofString "__getitem__") ht.typeIs PyProof.Rows.slot_tuple_getitem (wpAny_call_entry PyProof.Rows.slot_tuple_getitem ht.typeIs entry_tuple_getitem ?_ (args_tuple_getitem _ _)))))
  show wpAny _ _ (Builtin.Tuple.tupleItemsOf (.ref t) >>= _) _ _ s; refine wpAny_bind (tupleItemsOf_ ht (wpAny_bind (wpAny_typeOf tyS ?_))); rw [if_pos (by decide)]
  refine wpAny_bind (sliceApplied_gen hs pl pu ?_)
  have yes : (((sIx items.size 0 lo : Nat) : Int) == 0 && (1 : Int) == 1 && (sIx items.size items.size hi - sIx items.size 0 lo) == items.size) = true := by rw [hw.1, hw.2]; simp
  show wpAny _ _ (if (((sIx items.size 0 lo : Nat) : Int) == 0 && (1 : Int) == 1 && (sIx items.size items.size hi - sIx items.size 0 lo) == items.size) = true then _ else _) _ _ s
  rw [if_pos yes]
  unfold Builtin.Tuple.tupleIsExact
  refine wpAny_bind (wpAny_bind (wpAny_typeOf ht.typeIs (wpAny_pure ?_)))
  have yes2 : ((Value.type "tuple" == Value.type "tuple") = true) := by decide
  first
    | (rw [if_pos yes2]; exact wpAny_bind (wpAny_rule (wpAny_pure ⟨_, rfl, wpAny_pure h⟩)))
    | (rw [if_pos yes2]; exact wpAny_bind (wpAny_rule (wpAny_bind (wpAny_pure (wpAny_pure ⟨_, rfl, wpAny_pure h⟩)))))
    | (simp only [yes2, if_true]; exact wpAny_rule (wpAny_pure ⟨_, rfl, wpAny_pure h⟩))
end
end HT
namespace L2
open PySem PySem.Spec PyProof.Rows
theorem cut_whole {xs : List V} {lo hi : Option Int} (h : HT.sIx xs.length 0 lo = 0 ∧ HT.sIx xs.length xs.length hi = xs.length) : cutV xs lo hi = xs := by
  unfold cutV
  rw [h.1, h.2]
  simp
theorem at_last {α : Type} (xs : List α) (x : α) : atI (xs ++ [x]) (-1) = some x := by
  have e : ixN (xs ++ [x]).length (-1) = some xs.length := by
    unfold ixN
    rw [List.length_append, List.length_singleton]
    simp
    omega
  unfold atI
  rw [e]
  simp
section
variable {X : Cx}
theorem sl_tupH : SlR X (fun x lo hi H Q => ∃ a xs, x = .ref a ∧ H a = some (.tup xs) ∧ ∀ p H', Same H H' → H' p = some (.tup (cutV xs lo hi)) → Q (.ref p) H') := by
  intro pins s σ H x v vl vu lo hi sl Q I rx hs pl pu h
  obtain ⟨a, xs, rfl, hx, q⟩ := h
  by_cases hw : HT.sIx xs.length 0 lo = 0 ∧ HT.sIx xs.length xs.length hi = xs.length
  · cases rx
    obtain ⟨its, r, ht, hz⟩ := I.tuple (SqT.of hx)
    have hlen : its.toArray.size = xs.length := by rw [List.size_toArray]; exact r.length.symm
    refine ⟨"tuple", _, PyProof.Rows.slot_tuple_getitem.lookup, ht.typeIs, ?_⟩
    refine HT.getItem_whole ht hs pl pu (by rw [hlen]; exact hw) ?_
    exact ⟨.ref a, H, I, rfl, q a H (Same.refl H) (by rw [cut_whole hw]; exact hx)⟩
  · exact sl_tup pins s σ H (.ref a) v vl vu lo hi sl Q I rx hs pl pu ⟨a, xs, rfl, SqT.of hx, hw, fun p np => q p _ (Same.new np _) upd_same⟩
end
end L2
namespace L2
open PySem PySem.Spec PyProof.Rows
section
variable {X : Cx}
end
end L2
namespace HD
open PySem
section
variable {prog : Program} {w : World} {A : Around} {E : Value → Shared → Prop} {s : Shared}
end
end HD
namespace HD
open PySem
section
variable {prog : Program} {w : World} {A : Around} {E : Value → Shared → Prop} {s : Shared} {K : Type} [DecidableEq K] {knd : KeyKind prog w K}
end
end HD
namespace L2
open PySem PySem.Spec PyProof.Rows
section
variable {X : Cx}
end
end L2
namespace HZ
open PySem PySem.Builtin
end HZ
namespace HZ
open PySem PySem.Builtin
section
variable {prog : Program} {w : World} {A : Around} {E : Value → Shared → Prop} {s : Shared}
end
end HZ
namespace L2
open PySem PySem.Spec PyProof.Rows
section
variable {X : Cx}
end
end L2
namespace Mi
open PySem L2
abbrev Rw := Str × Str
def val (G : List Rw) (n : Str) : Option Str := (G.find? fun p => decide (p.1 = n)).map (·.2)
theorem val_cons (p : Rw) (G : List Rw) (n : Str) : val (p :: G) n = if p.1 = n then some p.2 else val G n := by
  unfold val
  rw [List.find?_cons]
  by_cases h : p.1 = n
  · rw [if_pos h]; simp [h]
  · rw [if_neg h]; simp [h]
theorem val_mem {G : List Rw} {n m : Str} (h : val G n = some m) : (n, m) ∈ G := by
  induction G with
  | nil => cases h
  | cons p G ih =>
    rw [val_cons] at h
    by_cases e : p.1 = n
    · rw [if_pos e] at h
      cases h
      subst e
      exact List.mem_cons_self ..
    · rw [if_neg e] at h
      exact List.mem_cons_of_mem _ (ih h)
def stopF (G : List Rw) : Nat → List Str → Str → Str
  | 0, _, n => n
  | f + 1, P, n => match val G n with
    | none => n
    | some m => if n ∈ P then n else stopF G f (P ++ [n]) m
def stop (G : List Rw) (n : Str) : Str := stopF G (G.length + 1) [] n
theorem stop_none {G : List Rw} {n : Str} (h : val G n = none) : stop G n = n := by
  unfold stop stopF
  rw [h]
theorem stopF_succ {G : List Rw} {f : Nat} {P : List Str} {n m : Str} (h : val G n = some m) (hn : n ∉ P) : stopF G (f + 1) P n = stopF G f (P ++ [n]) m := by
  show (match val G n with | none => n | some m => if n ∈ P then n else stopF G f (P ++ [n]) m) = _
  rw [h]
  exact if_neg hn
theorem stopF_none {G : List Rw} {f : Nat} {P : List Str} {n : Str} (h : val G n = none) : stopF G f P n = n := by
  cases f with
  | zero => rfl
  | succ f =>
    show (match val G n with | none => n | some m => if n ∈ P then n else stopF G f (P ++ [n]) m) = _
    rw [h]
theorem stop_one {G : List Rw} {n m : Str} (h : val G n = some m) (h2 : val G m = none) : stop G n = m := by
  unfold stop
  rw [stopF_succ h (by simp), stopF_none h2]
structure Flat (R : List Rw) : Prop where
  nd : (R.map (·.1)).Nodup
  no : ∀ r ∈ R, val R r.2 = none
theorem Flat.stop {R : List Rw} (f : Flat R) (n : Str) : stop R n = (val R n).getD n ∧ val R (Mi.stop R n) = none := by
  cases h : val R n with
  | none => rw [stop_none h]; exact ⟨rfl, h⟩
  | some m =>
    have hm := f.no _ (val_mem h)
    rw [stop_one h hm]
    exact ⟨rfl, hm⟩
def more (R : List Rw) (one en : Str) : List Rw := ((R.filter fun r => decide (r.1 ≠ one)).map fun r => (r.1, if r.2 = one then en else r.2)) ++ [(one, en)]
def Rise (R : List Rw) : Prop := R.Pairwise fun a b => HS.ltS a.1 b.1 = true
theorem Rise.nd {R : List Rw} (h : Rise R) : (R.map (·.1)).Nodup := by
  rw [List.Nodup, List.pairwise_map]
  exact h.imp fun {a b} z e => by rw [e, HS.ltS_irr] at z; cases z
end Mi
namespace Co
open PySem L2 Mi
def Has (P : Program) (w : World) (K : PySem.W.Frag) (mg : Str → Option Value) (base : Heap) (x : Str) (k : Nat) (ps : List Str) (sp : Sp) : Prop :=
  ∃ (f : Addr) (fd : FuncData), FnOk P w K mg base CX0 k f fd ps sp ∧ Binds K fd ps [] ∧ PySem.W.keepIn K (.ref f) = true ∧ mg x = some (.ref f)
def HasE (P : Program) (w : World) (K : PySem.W.Frag) (mg : Str → Option Value) (base : Heap) (x : Str) (k : Nat) (ps : List Str) (sp : Sp) : Prop :=
  ∃ (f : Addr) (fd : FuncData), FnOk P w K mg base (CXE P w) k f fd ps sp ∧ Binds K fd ps [] ∧ PySem.W.keepIn K (.ref f) = true ∧ mg x = some (.ref f)
theorem pe_callH {X : Cx} {x : Str} {k : Nat} {ps : List Str} {sp : Sp} {e : Expr} {es : List Expr} {t : TA} {p pos : Pos} (h : Has X.prog X.w X.K X.mg X.base x k ps sp) (hr : Room k X.A) (hg : Gl X x) (ha : PA X (e :: es) t)
    (hdb : (x == ("__debug__" : Str)) = false := by decide) (he : starEach (e :: es) X.env = (false, eval e X.env) :: starEach es X.env := by rfl) (hpl : (backTo pos (starEach es X.env)).any (·.1) = false := by rfl) :
    PE X (.Call (.Name x p) (e :: es) [] pos) (tCall sp [] E0 t) := by
  obtain ⟨f, fd, F, b, kp, m⟩ := h
  exact pe_call F hr hg m kp b .nil pass0 ha hdb he hpl
theorem Has.mono {P : Program} {w : World} {K : PySem.W.Frag} {mg : Str → Option Value} {base : Heap} {x : Str} {j k : Nat} {ps : List Str} {sp : Sp} (h : Has P w K mg base x j ps sp) (hk : j ≤ k) : Has P w K mg base x k ps sp := by
  obtain ⟨f, fd, F, b, kp, m⟩ := h
  exact ⟨f, fd, F.mono hk, b, kp, m⟩
theorem HasE.mono {P : Program} {w : World} {K : PySem.W.Frag} {mg : Str → Option Value} {base : Heap} {x : Str} {j k : Nat} {ps : List Str} {sp : Sp} (h : HasE P w K mg base x j ps sp) (hk : j ≤ k) : HasE P w K mg base x k ps sp := by
  obtain ⟨f, fd, F, b, kp, m⟩ := h
  exact ⟨f, fd, F.mono hk, b, kp, m⟩
theorem boot_all : bootBuiltins (Str.ofString "all") = some (Value.builtin "all") := by decide +kernel
theorem boot_sorted : bootBuiltins (Str.ofString "sorted") = some (Value.builtin "sorted") := by decide +kernel
theorem boot_str : bootBuiltins (Str.ofString "str") = some (Value.type "str") := by decide +kernel
theorem boot_tuple : bootBuiltins (Str.ofString "tuple") = some (Value.type "tuple") := by decide +kernel
theorem boot_list : bootBuiltins (Str.ofString "list") = some (Value.type "list") := by decide +kernel
theorem boot_dict : bootBuiltins (Str.ofString "dict") = some (Value.type "dict") := by decide +kernel
theorem big (n : Nat) (h : n ≤ 100000) : n ≤ sizeLine := by rw [sizeLine_eq]; omega
theorem bigl (n : Nat) (h : n ≤ 100000) : n < sizeLine := by rw [sizeLine_eq]; omega
theorem iteN {c A B : Prop} [Decidable c] (hc : ¬ c) (h : B) : if decide c = true then A else B := by
  rw [decide_eq_false hc]
  exact iteF h
theorem iteY {c A B : Prop} [Decidable c] (hc : c) (h : A) : if decide c = true then A else B := by
  rw [decide_eq_true hc]
  exact iteT h
structure Blt (mg : Str → Option Value) : Prop where
  len : mg "len" = none
  all : mg "all" = none
  isi : mg "isinstance" = none
  str : mg "str" = none
  int : mg "int" = none
  bool : mg "bool" = none
  tuple : mg "tuple" = none
  list : mg "list" = none
  range : mg "range" = none
  zip : mg "zip" = none
  any : mg "any" = none
  sorted : mg "sorted" = none
  dict : mg "dict" = none
  enumerate : mg "enumerate" = none
abbrev IsInt (mg : Str → Option Value) (x : Str) (n : Int) : Prop := ∃ t, mg x = some (.int n t)
def Scr (K : PySem.W.Frag) (H : Hp) (a : Addr) (ns : List Int) : Prop :=
  (∃ o, H a = some (.frz o (.lst (ns.map V.int)))) ∨
    ∃ (o : Obj) (its : Array Value) (n : Nat), K.lookup a = some o ∧ o.cls = .type "list" ∧ o.dict = none ∧ o.data = .seq its n ∧ its.size ≤ sizeLine ∧ Vals (ns.map V.int) its.toList
theorem Scr.sq {K : PySem.W.Frag} {H : Hp} {a : Addr} {ns : List Int} (h : Scr K H a ns) : SqL K H a (ns.map V.int) := by
  rcases h with ⟨o, h⟩ | h
  · exact .inl (.inr ⟨o, h⟩)
  · exact .inr h
def Stp (t : Addr) (H H' : Hp) : Prop := ∀ b o, b ≠ t → H b = some o → H' b = some o
theorem Stp.refl (t : Addr) (H : Hp) : Stp t H H := fun _ _ _ h => h
theorem Stp.trans {t : Addr} {H H1 H2 : Hp} (a : Stp t H H1) (b : Stp t H1 H2) : Stp t H H2 := fun c o hc h => b c o hc (a c o hc h)
theorem _root_.L2.Same.stp {t : Addr} {H H' : Hp} (s : Same H H') : Stp t H H' := fun b o _ h => s b o h
theorem Stp.upd {t : Addr} {H : Hp} (o : HO) : Stp t H (upd H t o) := fun b u hb h => by rw [upd_ne hb]; exact h
theorem Scr.stp {K : PySem.W.Frag} {H H' : Hp} {a t : Addr} {ns : List Int} {zs : List V} (h : Scr K H a ns) (ht : H t = some (.lst zs)) (s : Stp t H H') : Scr K H' a ns := by
  rcases h with ⟨o, h⟩ | h
  · refine .inl ⟨o, s a _ (fun e => ?_) h⟩
    rw [e, ht] at h
    cases h
  · exact .inr h
theorem Scr.same {K : PySem.W.Frag} {H H' : Hp} {a : Addr} {ns : List Int} (h : Scr K H a ns) (s : Same H H') : Scr K H' a ns := by
  rcases h with ⟨o, h⟩ | h
  · exact .inl ⟨o, s a _ h⟩
  · exact .inr h
theorem tup_stp {K : PySem.W.Frag} {H H' : Hp} {p t : Addr} {xs zs : List V} (h : SqT K H p xs) (ht : H t = some (.lst zs)) (s : Stp t H H') : SqT K H' p xs := by
  rcases h with (h | ⟨o, h⟩) | h
  · exact .inl (.inl (s p _ (fun e => by rw [e, ht] at h; cases h) h))
  · exact .inl (.inr ⟨o, s p _ (fun e => by rw [e, ht] at h; cases h) h⟩)
  · exact .inr h
def spDraw (K : PySem.W.Frag) : Sp := fun vs H Q _ => ∃ (a t : Addr) (ns : List Int) (zs : List V) (m : Int), vs = [.ref a, .ref t, .int m] ∧ Scr K H a ns ∧ ns.length ≤ 63 ∧ H t = some (.lst zs) ∧ zs.length < 100000 ∧ 0 < m ∧
  ∀ (r : Int) (H' : Hp), 0 ≤ r → r < m → H' t = some (.lst (zs ++ [.int 0])) → Stp t H H' → Q (.int r) H'
def spPick (K : PySem.W.Frag) : Sp := fun vs H Q _ => ∃ (a t : Addr) (ns : List Int) (zs : List V), Scr K H a ns ∧ ns.length ≤ 63 ∧ H t = some (.lst zs) ∧ zs.length < 100000 ∧
  ((∃ (l : Addr) (xs : List V), vs = [.ref a, .ref t, .ref l] ∧ H l = some (.lst xs) ∧ l ≠ t ∧ 0 < xs.length ∧ ∀ (x : V) (H' : Hp), x ∈ xs → H' t = some (.lst (zs ++ [.int 0])) → Stp t H H' → Q x H') ∨
   (∃ z : Str, vs = [.ref a, .ref t, .str z] ∧ 0 < z.length ∧ z.length ≤ 1000 ∧ ∀ (c : Nat) (H' : Hp), c ∈ z.cps.toList → H' t = some (.lst (zs ++ [.int 0])) → Stp t H H' → Q (.str ⟨#[c]⟩) H'))
theorem at_mod {ns : List Int} (h : ns ≠ []) (k : Int) : ∃ v : Int, atI (ns.map V.int) (k % ((ns.map V.int).length : Int)) = some (.int v) := by
  have hl : 0 < ns.length := List.length_pos_iff.mpr h
  have e : ((ns.map V.int).length : Int) = (ns.length : Int) := by rw [List.length_map]
  rw [e]
  have h0 := Int.emod_nonneg k (b := (ns.length : Int)) (by omega)
  have h1 := Int.emod_lt_of_pos k (b := (ns.length : Int)) (by omega)
  generalize k % (ns.length : Int) = i at h0 h1 ⊢
  obtain ⟨j, rfl⟩ : ∃ j : Nat, i = (j : Int) := ⟨i.toNat, by omega⟩
  have hj : j < ns.length := by omega
  exact ⟨ns[j], atI_nat (by rw [List.getElem?_map, List.getElem?_eq_getElem hj]; rfl)⟩
theorem at_place {α : Type} {xs : List α} {r : Int} (h0 : 0 ≤ r) (h1 : r < (xs.length : Int)) : ∃ v, atI xs r = some v ∧ v ∈ xs := by
  obtain ⟨j, rfl⟩ : ∃ j : Nat, r = (j : Int) := ⟨r.toNat, by omega⟩
  have hj : j < xs.length := by omega
  exact ⟨xs[j], atI_nat (List.getElem?_eq_getElem hj), List.getElem_mem hj⟩
def spLaw (K : PySem.W.Frag) : Sp := fun vs H Q _ => ∃ (a : Addr) (ns : List Int), vs = [.ref a] ∧ Scr K H a ns ∧ ns.length ≤ 63 ∧ ∀ H', Q (.bl true) H'
theorem scr_of {K : PySem.W.Frag} {H : Hp} {a : Addr} {ns : List Int} (hO : Only H) (hS : SqL K H a (ns.map V.int)) : Scr K H a ns := by
  rcases hS with (h | ⟨o, h⟩) | h
  · rcases hO a with z | ⟨o, xs, z⟩
    · rw [z] at h; cases h
    · rw [z] at h; cases h
  · exact .inl ⟨o, h⟩
  · exact .inr h
def Alike0 (x y : V) : Prop := (x = .non ∧ y = .non) ∨ (∃ b, x = .bl b ∧ y = .bl b) ∨ (∃ i, x = .int i ∧ y = .int i) ∨ ∃ z, x = .str z ∧ y = .str z
def Alike (K : PySem.W.Frag) (H : Hp) : Nat → V → V → Prop
  | 0, x, y => Alike0 x y
  | n + 1, x, y => Alike0 x y ∨ ∃ a b xs ys, x = .ref a ∧ y = .ref b ∧ SqT K H a xs ∧ SqT K H b ys ∧ xs.length = ys.length ∧ xs.length ≤ 1000 ∧ ∀ (i : Nat) u v, xs[i]? = some u → ys[i]? = some v → Alike K H n u v
theorem Alike.same {K : PySem.W.Frag} {H H' : Hp} (s : Same H H') : ∀ {n : Nat} {x y : V}, Alike K H n x y → Alike K H' n x y
  | 0, _, _, h => h
  | n + 1, _, _, h => by
    rcases h with h | ⟨a, b, xs, ys, e1, e2, h1, h2, hl, hm, h3⟩
    · exact .inl h
    · exact .inr ⟨a, b, xs, ys, e1, e2, s.tup h1, s.tup h2, hl, hm, fun i u v hu hv => (h3 i u v hu hv).same s⟩
theorem Alike.up {K : PySem.W.Frag} {H : Hp} : ∀ {n : Nat} {x y : V}, Alike K H n x y → Alike K H (n + 1) x y
  | 0, _, _, h => .inl h
  | n + 1, _, _, h => by
    rcases h with h | ⟨a, b, xs, ys, e1, e2, h1, h2, hl, hm, h3⟩
    · exact .inl h
    · exact .inr ⟨a, b, xs, ys, e1, e2, h1, h2, hl, hm, fun i u v hu hv => (h3 i u v hu hv).up⟩
theorem Alike.mono {K : PySem.W.Frag} {H : Hp} {m n : Nat} {x y : V} (h : Alike K H m x y) (hm : m ≤ n) : Alike K H n x y := by
  induction hm with
  | refl => exact h
  | step _ ih => exact ih.up
def Thg0 (K : PySem.W.Frag) (H : Hp) (v : V) : Prop := (∃ x : Str, v = .str x ∧ x.length ≤ 100) ∨ v = .non ∨ (∃ i, v = .int i) ∨ (∃ b, v = .bl b) ∨ (∃ a xs, v = .ref a ∧ SqT K H a xs) ∨ ∃ a xs, v = .ref a ∧ H a = some (.lst xs)
theorem Thg0.same {K : PySem.W.Frag} {H H' : Hp} {v : V} (h : Thg0 K H v) (s : Same H H') : Thg0 K H' v := by
  rcases h with h | h | h | h | ⟨a, xs, e, h⟩ | ⟨a, xs, e, h⟩
  · exact .inl h
  · exact .inr (.inl h)
  · exact .inr (.inr (.inl h))
  · exact .inr (.inr (.inr (.inl h)))
  · exact .inr (.inr (.inr (.inr (.inl ⟨a, xs, e, s.tup h⟩))))
  · exact .inr (.inr (.inr (.inr (.inr ⟨a, xs, e, s _ _ h⟩))))
def NoT (H : Hp) (v : V) : Prop := (∃ x : Str, v = .str x ∧ x.length ≤ 100) ∨ v = .non ∨ (∃ i, v = .int i) ∨ (∃ b, v = .bl b) ∨ ∃ a xs, v = .ref a ∧ H a = some (.lst xs)
theorem NoT.thg {K : PySem.W.Frag} {H : Hp} {v : V} (h : NoT H v) : Thg0 K H v := by
  rcases h with h | h | h | h | h
  · exact .inl h
  · exact .inr (.inl h)
  · exact .inr (.inr (.inl h))
  · exact .inr (.inr (.inr (.inl h)))
  · exact .inr (.inr (.inr (.inr (.inr h))))
end Co
namespace Co
open PySem L2 Mi
def Thg (K : PySem.W.Frag) (H : Hp) (v : V) : Prop := NoT H v ∨ ∃ a xs, v = .ref a ∧ SqT K H a xs ∧ xs.length ≤ 1000 ∧ ∀ x ∈ xs, Thg0 K H x
theorem Thg.t0 {K : PySem.W.Frag} {H : Hp} {v : V} (h : Thg K H v) : Thg0 K H v := by
  rcases h with h | ⟨a, xs, e, h, _⟩
  · exact h.thg
  · exact .inr (.inr (.inr (.inr (.inl ⟨a, xs, e, h⟩))))
theorem NoT.same {H H' : Hp} {v : V} (h : NoT H v) (s : Same H H') : NoT H' v := by
  rcases h with h | h | h | h | ⟨a, xs, e, h⟩
  · exact .inl h
  · exact .inr (.inl h)
  · exact .inr (.inr (.inl h))
  · exact .inr (.inr (.inr (.inl h)))
  · exact .inr (.inr (.inr (.inr ⟨a, xs, e, s _ _ h⟩)))
theorem Thg.same {K : PySem.W.Frag} {H H' : Hp} {v : V} (h : Thg K H v) (s : Same H H') : Thg K H' v := by
  rcases h with h | ⟨a, xs, e, h, hl, hx⟩
  · exact .inl (h.same s)
  · exact .inr ⟨a, xs, e, s.tup h, hl, fun x hm => (hx x hm).same s⟩
theorem NoT.stp {H H' : Hp} {t : Addr} {zs zs' : List V} {v : V} (h : NoT H v) (s : Stp t H H') (h2 : H' t = some (.lst zs')) : NoT H' v := by
  rcases h with h | h | h | h | ⟨a, xs, e, h⟩
  · exact .inl h
  · exact .inr (.inl h)
  · exact .inr (.inr (.inl h))
  · exact .inr (.inr (.inr (.inl h)))
  · by_cases ha : a = t
    · exact .inr (.inr (.inr (.inr ⟨a, zs', e, ha ▸ h2⟩)))
    · exact .inr (.inr (.inr (.inr ⟨a, xs, e, s a _ ha h⟩)))
theorem Thg0.stp {K : PySem.W.Frag} {H H' : Hp} {t : Addr} {zs zs' : List V} {v : V} (h : Thg0 K H v) (ht : H t = some (.lst zs)) (s : Stp t H H') (h2 : H' t = some (.lst zs')) : Thg0 K H' v := by
  rcases h with h | h | h | h | ⟨a, xs, e, h⟩ | ⟨a, xs, e, h⟩
  · exact .inl h
  · exact .inr (.inl h)
  · exact .inr (.inr (.inl h))
  · exact .inr (.inr (.inr (.inl h)))
  · exact .inr (.inr (.inr (.inr (.inl ⟨a, xs, e, tup_stp h ht s⟩))))
  · by_cases ha : a = t
    · exact .inr (.inr (.inr (.inr (.inr ⟨a, zs', e, ha ▸ h2⟩))))
    · exact .inr (.inr (.inr (.inr (.inr ⟨a, xs, e, s a _ ha h⟩))))
theorem Thg.stp {K : PySem.W.Frag} {H H' : Hp} {t : Addr} {zs zs' : List V} {v : V} (h : Thg K H v) (ht : H t = some (.lst zs)) (s : Stp t H H') (h2 : H' t = some (.lst zs')) : Thg K H' v := by
  rcases h with h | ⟨a, xs, e, h, hl, hx⟩
  · exact .inl (h.stp (zs := zs) s h2)
  · exact .inr ⟨a, xs, e, tup_stp h ht s, hl, fun x hm => (hx x hm).stp ht s h2⟩
section
variable {X : Cx}
end
end Co
namespace Co
open PySem L2 Mi
abbrev VE : List Value := [.type "ValueError", .type "Exception", .type "BaseException", .type "object"]
def RowsIn (H : Hp) (rs : List (Addr × Rw)) : Prop := ∀ r ∈ rs, H r.1 = some (.tup [V.str r.2.1, V.str r.2.2])
abbrev refs (rs : List (Addr × Rw)) : List V := rs.map fun r => V.ref r.1
def RowsAt (H : Hp) (a : Addr) (R : List Rw) : Prop := ∃ rs : List (Addr × Rw), H a = some (.tup (refs rs)) ∧ RowsIn H rs ∧ rs.map (·.2) = R
theorem RowsIn.ts {H H' : Hp} {rs : List (Addr × Rw)} (h : RowsIn H rs) (s : TS' H H') : RowsIn H' rs := fun r hr => s _ _ (h r hr)
theorem RowsAt.ts {H H' : Hp} {a : Addr} {R : List Rw} (h : RowsAt H a R) (s : TS' H H') : RowsAt H' a R := by
  obtain ⟨rs, h1, h2, h3⟩ := h
  exact ⟨rs, s _ _ h1, h2.ts s, h3⟩
theorem RowsAt.same {H H' : Hp} {a : Addr} {R : List Rw} (h : RowsAt H a R) (s : Same H H') : RowsAt H' a R := h.ts s.ts
theorem Stp.ts {t : Addr} {H H' : Hp} {zs : List V} (s : Stp t H H') (h : H t = some (.lst zs)) : TS' H H' := fun b xs hb => s b _ (fun e => by rw [e, h] at hb; cases hb) hb
theorem nodup_len {α : Type} [DecidableEq α] : ∀ {P L : List α}, P.Nodup → (∀ x ∈ P, x ∈ L) → P.length ≤ L.length
  | [], _, _, _ => Nat.zero_le _
  | a :: P, L, nd, h => by
    rw [List.nodup_cons] at nd
    have ha := h a (List.mem_cons_self ..)
    have ih := nodup_len (P := P) (L := L.erase a) nd.2 fun x hx => (List.mem_erase_of_ne (fun (e : x = a) => nd.1 (e ▸ hx))).mpr (h x (List.mem_cons_of_mem _ hx))
    have hl : (L.erase a).length = L.length - 1 := List.length_erase_of_mem ha
    have hp : 0 < L.length := List.length_pos_of_mem ha
    rw [List.length_cons]
    omega
theorem RowsIn.filter {H : Hp} {rs : List (Addr × Rw)} (h : RowsIn H rs) (p : Addr × Rw → Bool) : RowsIn H (rs.filter p) := fun r hr => h r (List.mem_filter.mp hr).1
end Co
namespace Mi
open PySem L2
end Mi
namespace Co
open PySem L2 Mi
end Co
namespace Co
open PySem L2 Mi
end Co
namespace Co
open PySem L2 Mi
end Co
namespace Co
open PySem L2 Mi
end Co
namespace Mi
open PySem L2
def Ch (R : List Rw) : List Str → Str → Prop
  | [], _ => True
  | x :: P, n => val R x = some (P.headD n) ∧ Ch R P n
theorem Ch.snoc {R : List Rw} : ∀ {P : List Str} {n m : Str}, Ch R P n → val R n = some m → Ch R (P ++ [n]) m
  | [], n, m, _, h => ⟨h, trivial⟩
  | x :: P, n, m, h, hv => by
    obtain ⟨h1, h2⟩ := h
    refine ⟨?_, h2.snoc hv⟩
    cases P with
    | nil => exact h1
    | cons y P => exact h1
theorem Ch.drop {R : List Rw} : ∀ {A B : List Str} {n : Str}, Ch R (A ++ B) n → Ch R B n
  | [], _, _, h => h
  | _ :: A, B, n, h => Ch.drop (A := A) h.2
theorem tups_eq : ∀ {A B : List (List Str)}, A.Pairwise (fun a b => HS.ltT a b = true) → B.Pairwise (fun a b => HS.ltT a b = true) → (∀ r, r ∈ A ↔ r ∈ B) → A = B
  | [], [], _, _, _ => rfl
  | [], b :: B, _, _, h => by have := (h b).mpr (List.mem_cons_self ..); cases this
  | a :: A, [], _, _, h => by have := (h a).mp (List.mem_cons_self ..); cases this
  | a :: A, b :: B, ha, hb, h => by
    have ha' := List.pairwise_cons.mp ha
    have hb' := List.pairwise_cons.mp hb
    have irr : ∀ x : List Str, HS.ltT x x = true → False := fun x hx => by
      have := HS.ltT_tot _ _ hx
      rw [this] at hx
      cases hx
    have e : a = b := by
      rcases List.mem_cons.mp ((h a).mp (List.mem_cons_self ..)) with e | e
      · exact e
      · rcases List.mem_cons.mp ((h b).mpr (List.mem_cons_self ..)) with e2 | e2
        · exact e2.symm
        · have h1 := hb'.1 a e
          have h2 := ha'.1 b e2
          rw [HS.ltT_tot _ _ h1] at h2
          cases h2
    subst e
    rw [tups_eq (A := A) (B := B) ha'.2 hb'.2 fun r => ?_]
    constructor
    · intro hr
      rcases List.mem_cons.mp ((h r).mp (List.mem_cons_of_mem _ hr)) with e | e
      · subst e; exact (irr _ (ha'.1 r hr)).elim
      · exact e
    · intro hr
      rcases List.mem_cons.mp ((h r).mpr (List.mem_cons_of_mem _ hr)) with e | e
      · subst e; exact (irr _ (hb'.1 r hr)).elim
      · exact e
end Mi
namespace Co
open PySem L2 Mi
def grp (Rs : List Rw) (g : Str) : List Str := (Rs.filter fun r => decide (r.2 = g)).map (·.1)
def GrpAt (H : Hp) (d : Addr) (Rs : List Rw) (gs : List Str) : Prop := ∃ kvs : List (Key × V), H d = some (.dK kvs) ∧ kvs.map (·.1) = gs.map Sum.inr ∧ gs.Nodup ∧ (∀ g, g ∈ gs ↔ ∃ r ∈ Rs, r.2 = g) ∧ gs.length ≤ Rs.length ∧
  ∀ g, (g ∈ gs → ∃ b, valV kvs (Sum.inr g) = some (.ref b) ∧ H b = some (.tup ((grp Rs g).map V.str))) ∧ (g ∉ gs → valV kvs (Sum.inr g) = none)
theorem GrpAt.ts {H H' : Hp} {d : Addr} {Rs : List Rw} {gs : List Str} (h : GrpAt H d Rs gs) (s : TS' H H') (hd : ∀ kvs, H d = some (.dK kvs) → H' d = some (.dK kvs)) : GrpAt H' d Rs gs := by
  obtain ⟨kvs, h1, h2, h3, h4, h5, h6⟩ := h
  refine ⟨kvs, hd _ h1, h2, h3, h4, h5, fun g => ⟨fun hg => ?_, (h6 g).2⟩⟩
  obtain ⟨b, e1, e2⟩ := (h6 g).1 hg
  exact ⟨b, e1, s _ _ e2⟩
theorem GrpAt.same {H H' : Hp} {d : Addr} {Rs : List Rw} {gs : List Str} (h : GrpAt H d Rs gs) (s : Same H H') : GrpAt H' d Rs gs := h.ts s.ts fun kvs e => s _ _ e
theorem GrpAt.at {H : Hp} {d : Addr} {Rs : List Rw} {gs : List Str} (h : GrpAt H d Rs gs) {g : Str} (hg : g ∈ gs) : ∃ b, DGet H d (.str g) (some (.ref b)) ∧ H b = some (.tup ((grp Rs g).map V.str)) := by
  obtain ⟨kvs, h1, h2, h3, h4, h5, h6⟩ := h
  obtain ⟨b, e1, e2⟩ := (h6 g).1 hg
  have := DGet.k (k := Sum.inr g) h1
  rw [e1] at this
  exact ⟨b, this, e2⟩
def TurnAt (H : Hp) (p : Addr) (U : List (Str × List Str)) : Prop := ∃ qs : List (Addr × Str × Addr × List Str), H p = some (.tup (qs.map fun q => V.ref q.1)) ∧ (∀ q ∈ qs, H q.1 = some (.tup [.str q.2.1, .ref q.2.2.1]) ∧ H q.2.2.1 = some (.tup (q.2.2.2.map V.str))) ∧ qs.map (fun q => (q.2.1, q.2.2.2)) = U
theorem TurnAt.ts {H H' : Hp} {p : Addr} {U : List (Str × List Str)} (h : TurnAt H p U) (s : TS' H H') : TurnAt H' p U := by
  obtain ⟨qs, h1, h2, h3⟩ := h
  exact ⟨qs, s _ _ h1, fun q hq => ⟨s _ _ (h2 q hq).1, s _ _ (h2 q hq).2⟩, h3⟩
end Co
namespace Co
open PySem L2 Mi
end Co
namespace Mi
open PySem L2
end Mi
namespace Co
open PySem L2 Mi
def St1 (K : PySem.W.Frag) (a t : Addr) (ns : List Int) (n : Nat) (H : Hp) : Prop := (∃ zs, H t = some (.lst zs) ∧ zs.length ≤ n) ∧ Scr K H a ns
theorem St1.same {K : PySem.W.Frag} {a t : Addr} {ns : List Int} {n : Nat} {H H' : Hp} (h : St1 K a t ns n H) (s : Same H H') : St1 K a t ns n H' := by
  obtain ⟨⟨zs, h1, h2⟩, h3⟩ := h
  exact ⟨⟨zs, s _ _ h1, h2⟩, h3.same s⟩
theorem St1.up {K : PySem.W.Frag} {a t : Addr} {ns : List Int} {n m : Nat} {H : Hp} (h : St1 K a t ns n H) (hm : n ≤ m) : St1 K a t ns m H := by
  obtain ⟨⟨zs, h1, h2⟩, h3⟩ := h
  exact ⟨⟨zs, h1, by omega⟩, h3⟩
theorem St1.drawn {K : PySem.W.Frag} {a t : Addr} {ns : List Int} {n m : Nat} {H H' : Hp} {zs zs' : List V} (h : St1 K a t ns n H) (h0 : H t = some (.lst zs)) (h1 : H' t = some (.lst zs')) (hl : zs'.length ≤ m) (s : Stp t H H') : St1 K a t ns m H' ∧ TS' H H' :=
  ⟨⟨⟨_, h1, hl⟩, h.2.stp h0 s⟩, s.ts h0⟩
theorem St1.frz {K : PySem.W.Frag} {a t g : Addr} {ns : List Int} {n : Nat} {H : Hp} {o : Obj} {kvs : List (Key × V)} (h : St1 K a t ns n H) (hg : H g = some (.dK kvs)) : St1 K a t ns n (upd H g (.frz o (.dK kvs))) ∧ TS' H (upd H g (.frz o (.dK kvs))) := by
  obtain ⟨⟨zs, h1, h2⟩, h3⟩ := h
  refine ⟨⟨⟨zs, by rw [upd_ne (fun e => by rw [e, hg] at h1; cases h1)]; exact h1, h2⟩, ?_⟩, fun b xs hb => ?_⟩
  · rcases h3 with ⟨o', h3⟩ | h3
    · exact .inl ⟨o', by rw [upd_ne (fun e => by rw [e, hg] at h3; cases h3)]; exact h3⟩
    · exact .inr h3
  · rw [upd_ne (fun e => by rw [e, hg] at hb; cases hb)]; exact hb
end Co
namespace Mi
open PySem L2
def nx (R : List Rw) (n : Str) : Str := (val R n).getD n
def it (R : List Rw) : Nat → Str → Str
  | 0, n => n
  | k + 1, n => it R k (nx R n)
theorem it_add (R : List Rw) : ∀ (j k : Nat) (n : Str), it R (j + k) n = it R k (it R j n)
  | 0, k, n => by rw [Nat.zero_add]; rfl
  | j + 1, k, n => by
    rw [Nat.succ_add]
    exact it_add R j k (nx R n)
theorem it_succ' (R : List Rw) (k : Nat) (n : Str) : it R (k + 1) n = nx R (it R k n) := it_add R k 1 n
theorem nx_none {R : List Rw} {n : Str} (h : val R n = none) : nx R n = n := by unfold nx; rw [h]; rfl
theorem nx_some {R : List Rw} {n m : Str} (h : val R n = some m) : nx R n = m := by unfold nx; rw [h]; rfl
theorem it_fix {R : List Rw} {e : Str} (h : val R e = none) : ∀ k, it R k e = e
  | 0 => rfl
  | k + 1 => by show it R k (nx R e) = e; rw [nx_none h]; exact it_fix h k
structure Cyc (R : List Rw) (h : Str) (l : Nat) : Prop where
  pos : 0 < l
  back : it R l h = h
  first : ∀ i, 0 < i → i < l → it R i h ≠ h
  go : ∀ i, val R (it R i h) ≠ none
def orb (R : List Rw) (h : Str) (l : Nat) : List Str := (List.range l).map fun i => it R i h
theorem orb_len (R : List Rw) (h : Str) (l : Nat) : (orb R h l).length = l := by unfold orb; rw [List.length_map, List.length_range]
theorem orb_get {R : List Rw} {h : Str} {l i : Nat} (hi : i < l) : (orb R h l)[i]? = some (it R i h) := by
  unfold orb
  rw [List.getElem?_map, List.getElem?_range hi]; rfl
theorem orb_mem {R : List Rw} {h x : Str} {l : Nat} : x ∈ orb R h l ↔ ∃ i, i < l ∧ it R i h = x := by
  unfold orb
  simp [List.mem_map, List.mem_range]
theorem Cyc.mul {R : List Rw} {h : Str} {l : Nat} (c : Cyc R h l) : ∀ q, it R (q * l) h = h
  | 0 => by rw [Nat.zero_mul]; rfl
  | q + 1 => by rw [Nat.succ_mul, it_add, c.mul q, c.back]
theorem Cyc.mem {R : List Rw} {h : Str} {l : Nat} (c : Cyc R h l) (k : Nat) : it R k h ∈ orb R h l := by
  refine orb_mem.mpr ⟨k % l, Nat.mod_lt _ c.pos, ?_⟩
  conv => rhs; rw [← Nat.div_add_mod k l, Nat.mul_comm, it_add, c.mul]
theorem Cyc.turn {R : List Rw} {h : Str} {l i : Nat} (c : Cyc R h l) (hi : i < l) : Cyc R (it R i h) l ∧ (orb R h l).drop i ++ (orb R h l).take i = orb R (it R i h) l := by
  refine ⟨⟨c.pos, ?_, fun j h0 hj e => ?_, fun j => ?_⟩, ?_⟩
  · rw [← it_add, Nat.add_comm, it_add, c.back]
  · have e2 : it R (l - i) (it R i h) = h := by rw [← it_add, show i + (l - i) = l by omega, c.back]
    have e3 : it R j h = h := by
      conv => lhs; rw [← e2]
      rw [← it_add, Nat.add_comm, it_add, e, e2]
    exact c.first j h0 hj e3
  · rw [← it_add]; exact c.go _
  · refine List.ext_getElem? fun j => ?_
    by_cases hj : j < l
    · rw [orb_get hj]
      by_cases hd : j < l - i
      · rw [List.getElem?_append_left (by rw [List.length_drop, orb_len]; exact hd), List.getElem?_drop, orb_get (by omega), it_add]
      · rw [List.getElem?_append_right (by rw [List.length_drop, orb_len]; omega), List.length_drop, orb_len, List.getElem?_take, if_pos (by omega), orb_get (by omega)]
        rw [← it_add, show i + j = l + (j - (l - i)) by omega, it_add, c.back]
    · rw [List.getElem?_eq_none (by rw [List.length_append, List.length_drop, List.length_take, orb_len]; omega), List.getElem?_eq_none (by rw [orb_len]; omega)]
structure Rg (R : List Rw) (u : List Str) (h : Str) (l : Nat) : Prop where
  is : u = orb R h l
  cyc : Cyc R h l
  min : ∀ x ∈ u, HS.ltS x h = false
theorem Rg.len {R : List Rw} {u : List Str} {h : Str} {l : Nat} (r : Rg R u h l) : u.length = l := by rw [r.is, orb_len]
theorem Rg.get {R : List Rw} {u : List Str} {h : Str} {l i : Nat} (r : Rg R u h l) (hi : i < l) : u[i]? = some (it R i h) := by rw [r.is]; exact orb_get hi
theorem Rg.next {R : List Rw} {u : List Str} {h x : Str} {l i : Nat} (r : Rg R u h l) (hx : u[i]? = some x) : ∃ y, val R x = some y ∧ (if i + 1 < l then u[i + 1]? = some y else y = h) := by
  have hi : i < l := by rw [← r.len]; exact (List.getElem?_eq_some_iff.mp hx).1
  rw [r.get hi] at hx
  injection hx with hx
  have hg := r.cyc.go i
  cases hv : val R (it R i h) with
  | none => exact absurd hv hg
  | some y =>
    have e : it R (i + 1) h = y := by rw [it_succ', nx_some hv]
    refine ⟨y, by rw [← hx]; exact hv, ?_⟩
    by_cases c : i + 1 < l
    · rw [if_pos c, r.get c, e]
    · rw [if_neg c, ← e, show i + 1 = l by omega, r.cyc.back]
theorem Rg.nd {R : List Rw} {u : List Str} {h : Str} {l i j : Nat} (r : Rg R u h l) (hi : i < j) (hj : j < l) : it R i h ≠ it R j h := fun e => by
  have e2 : it R (l - j + i) h = h := by
    rw [Nat.add_comm, it_add, e, ← it_add, show j + (l - j) = l by omega, r.cyc.back]
  exact r.cyc.first (l - j + i) (by omega) (by omega) e2
theorem Rg.same {R : List Rw} {u u' : List Str} {h h' x : Str} {l l' : Nat} (r : Rg R u h l) (r' : Rg R u' h' l') (h1 : x ∈ u) (h2 : x ∈ u') : u = u' := by
  have key : ∀ {u u' : List Str} {h h' : Str} {l l' : Nat}, Rg R u h l → Rg R u' h' l' → x ∈ u → x ∈ u' → h ∈ u' := fun {u u' h h' l l'} r r' h1 h2 => by
    rw [r.is] at h1
    rw [r'.is] at h2 ⊢
    obtain ⟨i, hi, e⟩ := orb_mem.mp h1
    obtain ⟨j, hj, e'⟩ := orb_mem.mp h2
    have e3 : it R (j + (l - i)) h' = h := by rw [it_add, e', ← e, ← it_add, show i + (l - i) = l by omega, r.cyc.back]
    rw [← e3]
    exact r'.cyc.mem _
  have hh : h = h' := HS.ltS_tri (r'.min h (key r r' h1 h2)) (r.min h' (key r' r h2 h1))
  subst hh
  have hl : l = l' := by
    rcases Nat.lt_trichotomy l l' with c | c | c
    · exact absurd r.cyc.back (r'.cyc.first l r.cyc.pos c)
    · exact c
    · exact absurd r'.cyc.back (r.cyc.first l' r'.cyc.pos c)
  rw [r.is, r'.is, hl]
end Mi
namespace Co
open PySem L2 Mi
theorem dat_strs {K : PySem.W.Frag} {H : Hp} : ∀ ts : List Str, AreDat K H (ts.map Dat.str) (ts.map V.str)
  | [] => rfl
  | t :: ts => ⟨_, _, rfl, rfl, dat_strs ts⟩
theorem hu8 {A : Around} {k : Nat} (hr : Room k A) : A.units + 8 < cLine := Nat.lt_of_le_of_lt (Nat.add_le_add_left (by decide : 8 ≤ 64) _) hr.units
abbrev tupD (u : List Str) : Dat := .tup (u.map Dat.str)
theorem deeps0 : ∀ u : List Str, Dat.deeps (u.map Dat.str) = 0
  | [] => rfl
  | t :: u => by show max 0 (Dat.deeps (u.map Dat.str)) = 0; rw [deeps0 u]; rfl
theorem dat_tups {K : PySem.W.Frag} {H : Hp} : ∀ {rs : List (Addr × List Str)}, (∀ r ∈ rs, H r.1 = some (.tup (r.2.map V.str))) → AreDat K H ((rs.map (·.2)).map tupD) (rs.map fun r => V.ref r.1)
  | [], _ => rfl
  | r :: rs, h => ⟨_, _, rfl, ⟨r.1, _, rfl, SqT.of (h r (List.mem_cons_self ..)), dat_strs _⟩, dat_tups fun q hq => h q (List.mem_cons_of_mem _ hq)⟩
theorem deep_tups : ∀ T : List (List Str), Dat.deeps (T.map tupD) ≤ 3
  | [] => by decide
  | u :: T => by
    have ih := deep_tups T
    have e : Dat.deeps ((u :: T).map tupD) = max (Dat.deeps (u.map Dat.str) + 1) (Dat.deeps (T.map tupD)) := rfl
    rw [e, deeps0]
    omega
end Co
namespace L2
open PySem PySem.Spec PyProof.Rows
section
variable {X : Cx} {pos : Pos}
end
end L2
namespace HD
open PySem
section
variable {prog : Program} {w : World} {A : Around} {E : Value → Shared → Prop} {s : Shared} {K : Type} [DecidableEq K] {knd : KeyKind prog w K}
def mergedH (xs ms : List (List K × Addr × Value)) : List (List K × Addr × Value) := ms.foldl (fun acc m => storedH acc m.1 m.2.1 m.2.2) xs
theorem mergedH_take (xs ms : List (List K × Addr × Value)) (i : Nat) (m : List K × Addr × Value) (h : ms[i]? = some m) : mergedH xs (ms.take (i + 1)) = storedH (mergedH xs (ms.take i)) m.1 m.2.1 m.2.2 := by
  unfold mergedH
  rw [List.take_add_one, h, List.foldl_append]
  rfl
theorem mem_storedH {xs : List (List K × Addr × Value)} {k : List K} {a : Addr} {v : Value} {x : List K × Addr × Value} (h : x ∈ storedH xs k a v) : (∃ y ∈ xs, x.1 = y.1 ∧ x.2.1 = y.2.1) ∨ (x.1 = k ∧ x.2.1 = a) := by
  unfold storedH at h
  split at h
  · obtain ⟨y, hy, rfl⟩ := List.mem_map.mp h
    refine .inl ⟨y, hy, ?_⟩
    unfold putAt
    split <;> exact ⟨rfl, rfl⟩
  · rcases List.mem_append.mp h with h | h
    · exact .inl ⟨x, h, rfl, rfl⟩
    · rw [List.mem_singleton.mp h]; exact .inr ⟨rfl, rfl⟩
theorem storedH_len (xs : List (List K × Addr × Value)) (k : List K) (a : Addr) (v : Value) : (storedH xs k a v).length ≤ xs.length + 1 := by
  unfold storedH
  split
  · rw [List.length_map]; omega
  · rw [List.length_append, List.length_singleton]; omega
theorem mergedH_len : ∀ (ms xs : List (List K × Addr × Value)), (mergedH xs ms).length ≤ xs.length + ms.length
  | [], xs => Nat.le_refl _
  | m :: ms, xs => by
    have h1 := mergedH_len ms (storedH xs m.1 m.2.1 m.2.2)
    have h2 := storedH_len xs m.1 m.2.1 m.2.2
    show (mergedH (storedH xs m.1 m.2.1 m.2.2) ms).length ≤ xs.length + (ms.length + 1)
    omega
theorem mem_mergedH : ∀ {ms xs : List (List K × Addr × Value)} {x : List K × Addr × Value}, x ∈ mergedH xs ms → (∃ y ∈ xs, x.1 = y.1 ∧ x.2.1 = y.2.1) ∨ ∃ y ∈ ms, x.1 = y.1 ∧ x.2.1 = y.2.1
  | [], xs, x, h => .inl ⟨x, h, rfl, rfl⟩
  | m :: ms, xs, x, h => by
    rcases mem_mergedH (ms := ms) (xs := storedH xs m.1 m.2.1 m.2.2) h with ⟨y, hy, e1, e2⟩ | ⟨y, hy, e⟩
    · rcases mem_storedH hy with ⟨z, hz, f1, f2⟩ | ⟨f1, f2⟩
      · exact .inl ⟨z, hz, e1.trans f1, e2.trans f2⟩
      · exact .inr ⟨m, List.mem_cons_self .., e1.trans f1, e2.trans f2⟩
    · exact .inr ⟨y, List.mem_cons_of_mem _ hy, e⟩
theorem dictH_move {h h' : Heap} {d : Addr} {xs : List (List K × Addr × Value)} (hm : h.DictOfH (tupleKind knd) d xs) (hd : ∀ o, h.get? d = some o → h'.get? d = some o) (hk : ∀ x ∈ xs, (tupleKind knd).is h' x.1 x.2.1) : h'.DictOfH (tupleKind knd) d xs := by
  obtain ⟨o, es, ep, ho, hc, hdd, he, _, hn⟩ := hm
  exact ⟨o, es, ep, hd o ho, hc, hdd, he, hk, hn⟩
theorem is_kept {h0 h : Heap} {d it b : Addr} {k : List K} (hi : (tupleKind knd).is h0 k b) (hd0 : h0.get? d = none) (hi0 : h0.get? it = none) (kp : ∀ b o, b ≠ d → b ≠ it → h0.get? b = some o → h.get? b = some o) : (tupleKind knd).is h k b := by
  obtain ⟨o, its, n, ho, r⟩ := hi
  exact ⟨o, its, n, kp b o (fun z => by rw [z, hd0] at ho; cases ho) (fun z => by rw [z, hi0] at ho; cases ho) ho, r⟩
theorem keys_kept {h0 h : Heap} {d it : Addr} {ms : List (List K × Addr × Value)} (hi : ∀ m ∈ ms, (tupleKind knd).is h0 m.1 m.2.1) (hd0 : h0.get? d = none) (hi0 : h0.get? it = none) (kp : ∀ b o, b ≠ d → b ≠ it → h0.get? b = some o → h.get? b = some o) : ∀ x ∈ mergedH [] ms, (tupleKind knd).is h x.1 x.2.1 := fun x hx => by
  rcases mem_mergedH hx with ⟨y, hy, _⟩ | ⟨y, hy, e1, e2⟩
  · cases hy
  · rw [e1, e2]; exact is_kept (hi y hy) hd0 hi0 kp
def PairsAtH (knd : KeyKind prog w K) (h : Heap) (its : List Value) (ms : List (List K × Addr × Value)) : Prop :=
  its.length = ms.length ∧ (∀ (j : Nat) (v : Value) (m : List K × Addr × Value), its[j]? = some v → ms[j]? = some m → ∃ b ob n, v = Value.ref b ∧ h.get? b = some ob ∧ ob.cls = .type "tuple" ∧ ob.data = .seq #[.ref m.2.1, m.2.2] n) ∧ ∀ m ∈ ms, (tupleKind knd).is h m.1 m.2.1
end
end HD
namespace L2
open PySem PySem.Spec PyProof.Rows
section
variable {X : Cx}
def mergeT (kvs more : List (List Key × V)) : List (List Key × V) := more.foldl (fun acc kv => putK acc kv.1 kv.2) kvs
def PairsT (K : PySem.W.Frag) (H : Hp) (ys : List V) (kvs : List (List Key × V)) : Prop := Paired (fun (v : V) (kx : List Key × V) => ∃ b c, v = .ref b ∧ SqT K H b [.ref c, kx.2] ∧ H c = some (.tup (kx.1.map kV))) ys kvs
theorem pairs_atH {pins : List (Addr × Obj)} {σ : St} {H : Hp} {s : Shared} (I : Inv X pins σ H s) : ∀ {ys : List V} {kvs : List (List Key × V)} {its : List Value}, PairsT X.K H ys kvs → Vals ys its → ∃ ms : List (List Key × Addr × Value), KT H kvs ms ∧ HD.PairsAtH (mixKind X.prog X.w) s.heap its ms
  | _, _, _, .nil, .nil => ⟨[], .nil, rfl, (fun j v kx e => by simp at e), fun m hm => by cases hm⟩
  | _ :: _, kx :: _, _ :: _, .cons hp r, .cons rv rr => by
    obtain ⟨b, c, rfl, hq, hc⟩ := hp
    cases rv
    obtain ⟨ms, kt, hl, hat, his⟩ := pairs_atH I r rr
    obtain ⟨its2, r2, p2, _⟩ := I.tuple hq
    obtain ⟨o, ho, hcl, n, hd⟩ := p2
    cases r2 with
    | cons rk rx =>
      cases rx with
      | cons rx rn =>
        cases rn
        cases rk
        rename_i val
        refine ⟨(kx.1, c, val) :: ms, .cons ⟨rfl, hc, rx⟩ kt, by rw [List.length_cons, List.length_cons, hl], fun j v m e1 e2 => ?_, fun m hm => ?_⟩
        · cases j with
          | zero =>
            cases e1; cases e2
            exact ⟨b, o, n, rfl, ho, hcl, hd⟩
          | succ j => exact hat j v m (by simpa using e1) (by simpa using e2)
        · rcases List.mem_cons.mp hm with rfl | hm
          · exact key_of I.hok hc
          · exact his m hm
theorem KT.merge {H : Hp} : ∀ {more acc : List (List Key × V)} {ms xs : List (List Key × Addr × Value)}, KT H more ms → KT H acc xs → KT H (mergeT acc more) (HD.mergedH xs ms) := by
  intro more acc ms xs r
  unfold KT at r
  induction r generalizing acc xs with
  | nil => intro q; exact q
  | @cons p q ps qs hq t ih =>
    intro hx
    have := KT.put hx p.1 (b := q.2.1) hq.2.1 hq.2.2
    rw [hq.1] at this
    refine ih (acc := putK acc p.1 p.2) (xs := storedH xs q.1 q.2.1 q.2.2) ?_
    rw [hq.1]
    exact this
theorem length_mergeT : ∀ (more kvs : List (List Key × V)), (mergeT kvs more).length ≤ kvs.length + more.length
  | [], kvs => Nat.le_refl _
  | m :: more, kvs => by
    have h1 := length_mergeT more (putK kvs m.1 m.2)
    have h2 := length_putK kvs m.1 m.2
    show (mergeT (putK kvs m.1 m.2) more).length ≤ kvs.length + (more.length + 1)
    omega
end
end L2
namespace Mi
open PySem L2
structure Cl where
  ad : List Str
  ck : Int
  hd : Str
  nm : Int
deriving DecidableEq
def ltC (c d : Cl) : Bool := if c.ck = d.ck then (if c.hd = d.hd then decide (c.nm < d.nm) else HS.ltS c.hd d.hd) else decide (c.ck < d.ck)
theorem ltC_tri {c d : Cl} (h : c.ad = d.ad) (h1 : ltC c d = false) (h2 : ltC d c = false) : c = d := by
  obtain ⟨a, k, x, n⟩ := c
  obtain ⟨a', k', x', n'⟩ := d
  unfold ltC at h1 h2
  simp only at h h1 h2
  by_cases e1 : k = k'
  · subst e1
    rw [if_pos rfl] at h1 h2
    by_cases e2 : x = x'
    · subst e2
      rw [if_pos rfl] at h1 h2
      have h1' := of_decide_eq_false h1
      have h2' := of_decide_eq_false h2
      have : n = n' := by omega
      rw [h, this]
    · rw [if_neg e2] at h1
      rw [if_neg (Ne.symm e2)] at h2
      exact absurd (HS.ltS_tri h1 h2) e2
  · rw [if_neg e1] at h1
    rw [if_neg (Ne.symm e1)] at h2
    have h1' := of_decide_eq_false h1
    have h2' := of_decide_eq_false h2
    omega
def MaxIn (L : List Cl) (c : Cl) : Prop := c ∈ L ∧ ∀ d ∈ L, d.ad = c.ad → ltC c d = false
theorem MaxIn.uniq {L : List Cl} {c d : Cl} (hc : MaxIn L c) (hd : MaxIn L d) (h : c.ad = d.ad) : c = d := ltC_tri h (hc.2 d hd.1 h.symm) (hd.2 c hc.1 h)
structure Tog (L A : List Cl) : Prop where
  rise : A.Pairwise fun a b => HS.ltT a.ad b.ad = true
  mem : ∀ c, c ∈ A ↔ MaxIn L c
theorem cl_eq : ∀ {A B : List Cl}, A.Pairwise (fun a b => HS.ltT a.ad b.ad = true) → B.Pairwise (fun a b => HS.ltT a.ad b.ad = true) → (∀ c, c ∈ A ↔ c ∈ B) → A = B
  | [], [], _, _, _ => rfl
  | [], b :: B, _, _, h => by have := (h b).mpr (List.mem_cons_self ..); cases this
  | a :: A, [], _, _, h => by have := (h a).mp (List.mem_cons_self ..); cases this
  | a :: A, b :: B, ha, hb, h => by
    have ha' := List.pairwise_cons.mp ha
    have hb' := List.pairwise_cons.mp hb
    have irr : ∀ x : List Str, HS.ltT x x = true → False := fun x hx => by
      have := HS.ltT_tot _ _ hx
      rw [this] at hx
      cases hx
    have e : a = b := by
      rcases List.mem_cons.mp ((h a).mp (List.mem_cons_self ..)) with e | e
      · exact e
      · rcases List.mem_cons.mp ((h b).mpr (List.mem_cons_self ..)) with e2 | e2
        · exact e2.symm
        · have h1 := hb'.1 a e
          have h2 := ha'.1 b e2
          rw [HS.ltT_tot _ _ h1] at h2
          cases h2
    subst e
    rw [cl_eq (A := A) (B := B) ha'.2 hb'.2 fun r => ?_]
    constructor
    · intro hr
      rcases List.mem_cons.mp ((h r).mp (List.mem_cons_of_mem _ hr)) with e | e
      · subst e; exact (irr _ (ha'.1 r hr)).elim
      · exact e
    · intro hr
      rcases List.mem_cons.mp ((h r).mpr (List.mem_cons_of_mem _ hr)) with e | e
      · subst e; exact (irr _ (hb'.1 r hr)).elim
      · exact e
theorem Tog.eq {L M A B : List Cl} (ha : Tog L A) (hb : Tog M B) (h : ∀ c, MaxIn L c ↔ MaxIn M c) : A = B := cl_eq ha.rise hb.rise fun c => by rw [ha.mem, hb.mem, h]
end Mi
namespace Co
open PySem L2 Mi
def ClH (H : Hp) (b a : Addr) (c : Cl) : Prop := H b = some (.tup [.ref a, .int c.ck, .str c.hd, .int c.nm]) ∧ H a = some (.tup (c.ad.map V.str))
theorem ClH.ts {H H' : Hp} {b a : Addr} {c : Cl} (h : ClH H b a c) (s : TS' H H') : ClH H' b a c := ⟨s _ _ h.1, s _ _ h.2⟩
abbrev crefs (cs : List (Addr × Addr × Cl)) : List V := cs.map fun x => V.ref x.1
def ClsIn (H : Hp) (cs : List (Addr × Addr × Cl)) : Prop := ∀ x ∈ cs, ClH H x.1 x.2.1 x.2.2
def ClsAt (H : Hp) (p : Addr) (L : List Cl) : Prop := ∃ cs : List (Addr × Addr × Cl), H p = some (.tup (crefs cs)) ∧ ClsIn H cs ∧ cs.map (·.2.2) = L
theorem ClsIn.ts {H H' : Hp} {cs : List (Addr × Addr × Cl)} (h : ClsIn H cs) (s : TS' H H') : ClsIn H' cs := fun x hx => (h x hx).ts s
theorem ClsAt.ts {H H' : Hp} {p : Addr} {L : List Cl} (h : ClsAt H p L) (s : TS' H H') : ClsAt H' p L := by
  obtain ⟨cs, h1, h2, h3⟩ := h
  exact ⟨cs, s _ _ h1, h2.ts s, h3⟩
theorem ClsAt.same {H H' : Hp} {p : Addr} {L : List Cl} (h : ClsAt H p L) (s : Same H H') : ClsAt H' p L := h.ts s.ts
theorem dat_strs' {K : PySem.W.Frag} {H : Hp} : ∀ ts : List Str, AreDat K H (ts.map Dat.str) (ts.map V.str)
  | [] => rfl
  | t :: ts => ⟨_, _, rfl, rfl, dat_strs' ts⟩
theorem deeps0' : ∀ u : List Str, Dat.deeps (u.map Dat.str) = 0
  | [] => rfl
  | t :: u => by show max 0 (Dat.deeps (u.map Dat.str)) = 0; rw [deeps0' u]; rfl
theorem inrT_inj {a b : List Str} (h : (a.map Sum.inr : List Key) = b.map Sum.inr) : a = b := by
  have e := congrArg (List.map strK) h
  rw [List.map_map, List.map_map] at e
  have id' : ∀ l : List Str, l.map (strK ∘ (Sum.inr : Str → Key)) = l := fun l => by
    have : ∀ z ∈ l, (strK ∘ (Sum.inr : Str → Key)) z = z := fun z _ => rfl
    rw [List.map_congr_left this, List.map_id']
  rw [id', id'] at e
  exact e
theorem putKT_keys {kvs : List (List Key × V)} {us : List (List Str)} {u : List Str} {v : V} (h : kvs.map (·.1) = us.map fun t => t.map Sum.inr) :
    (putK kvs (u.map Sum.inr) v).map (·.1) = (if u ∈ us then us else us ++ [u]).map fun t => t.map Sum.inr := by
  have hany : (kvs.any fun kv => decide (kv.1 = u.map Sum.inr)) = decide (u ∈ us) := by
    rw [Bool.eq_iff_iff, List.any_eq_true, decide_eq_true_eq]
    constructor
    · rintro ⟨kv, hm, e⟩
      have hk : kv.1 ∈ kvs.map (·.1) := List.mem_map.mpr ⟨kv, hm, rfl⟩
      rw [h] at hk
      obtain ⟨t, ht, e2⟩ := List.mem_map.mp hk
      have e3 : kv.1 = u.map Sum.inr := by simpa using e
      rw [← inrT_inj (e2.trans e3)]
      exact ht
    · intro hu
      have hk : (u.map Sum.inr : List Key) ∈ us.map fun t => t.map Sum.inr := List.mem_map.mpr ⟨u, hu, rfl⟩
      rw [← h] at hk
      obtain ⟨kv, hm, e⟩ := List.mem_map.mp hk
      exact ⟨kv, hm, by simpa using e⟩
  unfold putK
  rw [hany]
  by_cases c : u ∈ us
  · rw [decide_eq_true c, if_pos rfl, if_pos c, List.map_map, ← h]
    refine List.map_congr_left fun kv _ => ?_
    show (if kv.1 = u.map Sum.inr then (kv.1, v) else kv).1 = kv.1
    split <;> rfl
  · rw [decide_eq_false c, if_neg Bool.false_ne_true, if_neg c, List.map_append, List.map_append, h]
    rfl
def LatAt (H : Hp) (d : Addr) (L : List Cl) (us : List (List Str)) : Prop := ∃ kvs : List (List Key × V), H d = some (.dT kvs) ∧ kvs.map (·.1) = (us.map fun t => t.map Sum.inr) ∧ us.Nodup ∧ us.length ≤ L.length ∧ (∀ u, u ∈ us ↔ ∃ c ∈ L, c.ad = u) ∧
  ∀ u, (u ∈ us → ∃ b a c, valV kvs (u.map Sum.inr) = some (.ref b) ∧ ClH H b a c ∧ MaxIn L c ∧ c.ad = u) ∧ (u ∉ us → valV kvs (u.map Sum.inr) = none)
theorem LatAt.nil {H : Hp} {d : Addr} (h : H d = some (.dT [])) : LatAt H d [] [] := ⟨[], h, rfl, List.nodup_nil, Nat.le_refl _, by simp, fun u => ⟨(fun z => by cases z), fun _ => rfl⟩⟩
theorem LatAt.same {H H' : Hp} {d : Addr} {L : List Cl} {us : List (List Str)} (h : LatAt H d L us) (s : Same H H') : LatAt H' d L us := by
  obtain ⟨kvs, h1, h2, h3, h4, h5, h6⟩ := h
  refine ⟨kvs, s _ _ h1, h2, h3, h4, h5, fun u => ⟨fun hu => ?_, (h6 u).2⟩⟩
  obtain ⟨b, a, c, e1, e2, e3⟩ := (h6 u).1 hu
  exact ⟨b, a, c, e1, e2.ts s.ts, e3⟩
theorem max_snoc_keep {L : List Cl} {x m : Cl} (hm : MaxIn L m) (h : m.ad = x.ad → ltC m x = false) : MaxIn (L ++ [x]) m := ⟨List.mem_append_left _ hm.1, fun d hd he => by
  rcases List.mem_append.mp hd with hd | hd
  · exact hm.2 d hd he
  · rw [List.mem_singleton.mp hd] at he ⊢; exact h he.symm⟩
theorem LatAt.skip {H : Hp} {d : Addr} {L : List Cl} {us : List (List Str)} (h : LatAt H d L us) {x m : Cl} (hm : MaxIn L m) (ha : m.ad = x.ad) (hl : ltC m x = false) : LatAt H d (L ++ [x]) us := by
  obtain ⟨kvs, h1, h2, h3, h4, h5, h6⟩ := h
  have hx : x.ad ∈ us := (h5 x.ad).mpr ⟨m, hm.1, ha⟩
  refine ⟨kvs, h1, h2, h3, by rw [List.length_append]; omega, fun u => ?_, fun u => ⟨fun hu => ?_, (h6 u).2⟩⟩
  · rw [h5]
    constructor
    · rintro ⟨c, hc, e⟩; exact ⟨c, List.mem_append_left _ hc, e⟩
    · rintro ⟨c, hc, e⟩
      rcases List.mem_append.mp hc with hc | hc
      · exact ⟨c, hc, e⟩
      · rw [List.mem_singleton.mp hc] at e; exact ⟨m, hm.1, ha.trans e⟩
  · obtain ⟨b, a, c, e1, e2, e3, e4⟩ := (h6 u).1 hu
    refine ⟨b, a, c, e1, e2, max_snoc_keep e3 fun he => ?_, e4⟩
    rw [MaxIn.uniq e3 hm (he.trans ha.symm)]
    exact hl
end Co
namespace Co
open PySem L2 Mi
def TupsH (H : Hp) (p : Addr) (T : List (List Str)) : Prop := ∃ rs : List (Addr × List Str), H p = some (.tup (rs.map fun r => V.ref r.1)) ∧ (∀ r ∈ rs, H r.1 = some (.tup (r.2.map V.str))) ∧ rs.map (·.2) = T
end Co
namespace Co
open PySem L2 Mi
def GotAt (H : Hp) (d : Addr) (us : List (List Str)) (Pc : Cl → Prop := fun c => 0 ≤ c.ck) : Prop := ∃ kvs : List (List Key × V), H d = some (.dT kvs) ∧ kvs.map (·.1) = (us.map fun t => t.map Sum.inr) ∧ us.Nodup ∧
  ∀ u, u ∈ us → ∃ b a c, valV kvs (u.map Sum.inr) = some (.ref b) ∧ ClH H b a c ∧ c.ad = u ∧ Pc c
theorem GotAt.nil {Pc : Cl → Prop} {H : Hp} {d : Addr} (h : H d = some (.dT [])) : GotAt H d [] Pc := ⟨[], h, rfl, List.nodup_nil, fun u z => by cases z⟩
theorem GotAt.ts {Pc : Cl → Prop} {H H' : Hp} {d : Addr} {us : List (List Str)} (h : GotAt H d us Pc) (s : TS' H H') (hd : ∀ kvs, H d = some (.dT kvs) → H' d = some (.dT kvs)) : GotAt H' d us Pc := by
  obtain ⟨kvs, h1, h2, h3, h6⟩ := h
  refine ⟨kvs, hd _ h1, h2, h3, fun u hu => ?_⟩
  obtain ⟨b, a, c, e1, e2, e3⟩ := h6 u hu
  exact ⟨b, a, c, e1, e2.ts s, e3⟩
theorem GotAt.same {Pc : Cl → Prop} {H H' : Hp} {d : Addr} {us : List (List Str)} (h : GotAt H d us Pc) (s : Same H H') : GotAt H' d us Pc := h.ts s.ts fun _ e => s _ _ e
end Co
namespace Co
open PySem L2 Mi
theorem compF_drw {J : It} {n : Nat} {te : TE} {fr : St} {H1 : Hp} {QD : Hp → Prop} (D : Addr) (V0 : Nat → V → Prop) (G : Nat → List V → Hp → Prop) (hn : n < sizeLine)
    (hgo : ∀ i H, i < n → J.go i H) (hyl : ∀ i H x H', i < n → J.yld i H x H' → H' = H ∧ V0 i x) (hst : ∀ H, J.stop n H)
    (g0 : G 0 [] (upd H1 D (.lst [])))
    (gs : ∀ i x ys H (R : VK), i < n → V0 i x → G i ys H → H D = some (.lst ys) → (∀ y H6, H6 D = some (.lst ys) → G (i + 1) (ys ++ [y]) (upd H6 D (.lst (ys ++ [y]))) → R y H6) → te (some x :: fr) H R)
    (hd : ∀ ys H, G n ys H → H D = some (.lst ys) → QD H) :
    ∃ W : Nat → Nat → List V → Hp → Prop, (∃ m, W 0 m [] (upd H1 D (.lst []))) ∧ ∀ i m ys H2, W i m ys H2 → H2 D = some (.lst ys) ∧
      ((J.stop i H2 ∧ QD H2) ∨ (J.go i H2 ∧ ∀ x H3, J.yld i H2 x H3 → ∀ pre : St, pre.length = 1 → gName 0 x (pre ++ fr) H3 fun σ4 H4 => (∃ pre' : St, pre'.length = 1 ∧ σ4 = pre' ++ fr) ∧
        tTrue σ4 H4 fun b H5 => if b = true then te σ4 H5 (fun y H6 => H6 D = some (.lst ys) ∧ ys.length < sizeLine ∧ ∃ m', m' < m ∧ W (i + 1) m' (ys ++ [y]) (upd H6 D (.lst (ys ++ [y])))) else ∃ m', m' < m ∧ W (i + 1) m' ys H5)) := by
  refine ⟨fun i m ys H2 => m = n - i ∧ i ≤ n ∧ ys.length = i ∧ H2 D = some (.lst ys) ∧ G i ys H2, ⟨n, by simp, Nat.zero_le _, rfl, upd_same, g0⟩, ?_⟩
  rintro i m ys H2 ⟨rfl, hi, hl, hD2, g⟩
  refine ⟨hD2, ?_⟩
  by_cases hlt : i < n
  · refine .inr ⟨hgo i H2 hlt, fun x H3 y pre hpre => ?_⟩
    obtain ⟨rfl, hv⟩ := hyl i H2 x H3 hlt y
    obtain ⟨v0, rfl⟩ : ∃ v0, pre = [v0] := by
      cases pre with
      | nil => simp at hpre
      | cons v r => cases r with
        | nil => exact ⟨v, rfl⟩
        | cons _ _ => simp at hpre
    refine ⟨⟨[some x], rfl, rfl⟩, ?_⟩
    unfold tTrue
    dsimp only
    refine iteT (gs i x ys H3 _ hlt hv g hD2 fun y H6 q1 q2 => ?_)
    exact ⟨q1, by omega, n - (i + 1), by omega, rfl, hlt, by rw [List.length_append, hl]; rfl, upd_same, q2⟩
  · have e : i = n := by omega
    subst e
    exact .inl ⟨hst H2, hd ys H2 g hD2⟩
theorem _root_.Mi.Tog.sub {L A : List Cl} (h : Tog L A) {c : Cl} (hc : c ∈ A) : c ∈ L := ((h.mem c).mp hc).1
end Co
namespace Co
open PySem L2 Mi
end Co
namespace Co
open PySem L2 Mi
theorem TupsH.ts {H H' : Hp} {p : Addr} {T : List (List Str)} (h : TupsH H p T) (s : TS' H H') : TupsH H' p T := by
  obtain ⟨rs, h1, h2, h3⟩ := h
  exact ⟨rs, s _ _ h1, fun r hr => s _ _ (h2 r hr), h3⟩
theorem TupsH.same {H H' : Hp} {p : Addr} {T : List (List Str)} (h : TupsH H p T) (s : Same H H') : TupsH H' p T := h.ts s.ts
end Co
namespace HK
open PySem
section
variable {prog : Program} {w : World} {A : Around} {R : Result → Shared → Prop} {I : Addr} {fp wr : List Addr} {n : Nat} {P : Nat → Value → Prop} {St : Nat → Heap → Prop} {Kp : Shared → Prop}
end
section
variable {prog : Program} {w : World} {A : Around} {E : Value → Shared → Prop} {s : Shared}
end
end HK
namespace HL
open PySem PySem.SeqAt
open AutoSeq1 (wpAny_loadPart')
open MeetsSeq MeetsSeq2 MeetsSeq3
def GtAt (A : Around) (s : Shared) (y x : Value) (b : Bool) : Prop :=
  ∀ (prog : Program) (w : World) (E : Value → Shared → Prop) (Q : Value → Shared → Prop), Q (.bool b) s → wpAny (model prog w) A (richCompare .Gt y x) Q E s
theorem tuple_gtAt (p q : Addr) (xs ys : Array Value) (n n2 : Nat) (dp dq : Option Addr) (sp sq : Array (Option Value)) (e g : Nat → Bool) :
    Meets (Builtin.«tuple.__gt__» ⟨[.ref p, .ref q], []⟩)
      (fun A R s => s.heap.get? p = some { cls := .type "tuple", dict := dp, data := .seq xs n, slots := sp } ∧ s.heap.get? q = some { cls := .type "tuple", dict := dq, data := .seq ys n2, slots := sq } ∧
        (∀ j (h1 : j < xs.size) (h2 : j < ys.size), EqAt A.in1 s xs[j] ys[j] (e j)) ∧ (∀ j (h1 : j < xs.size) (h2 : j < ys.size), e j = false → GtAt A.in1 s xs[j] ys[j] (g j)) ∧
        R (.ok (.ret (.bool (lexB e g (decide (ys.size < xs.size)) (List.range (min xs.size ys.size)))))) s) :=
  .of_wp fun prog w A R s h => by
    obtain ⟨hp, gs, d, tk, os⟩ := s; obtain ⟨g1, g2, he, hg, h⟩ := h
    have sub := AutoSeq1.sub_tuple_tuple
    have hZ : (xs.toList.zip ys.toList).length = min xs.size ys.size := by simp
    wp_walk using wpAny_loadPart' g1, wpAny_loadPart' g2, wpAny_forIn_list _ (fun rest b s' => b.1 = none ∧ s' = ⟨hp, gs, d, tk, os⟩ ∧ ∃ i, rest = (xs.toList.zip ys.toList).drop i ∧
      R (.ok (.ret (.bool (lexB e g (decide (ys.size < xs.size)) ((List.range (min xs.size ys.size)).drop i))))) ⟨hp, gs, d, tk, os⟩) _
    case turn =>
      rintro ⟨y, x⟩ rest b s' ⟨hb', rfl, i, hz, hR⟩
      have hlt : i < (xs.toList.zip ys.toList).length := Nat.lt_of_not_le fun z => by rw [List.drop_of_length_le z] at hz; cases hz
      have hm : i < min xs.size ys.size := hZ ▸ hlt
      have h1 : i < xs.size := by omega
      have h2 : i < ys.size := by omega
      rw [List.drop_eq_getElem_cons hlt] at hz
      injection hz with hyx hrest
      obtain rfl : y = xs[i] := by simpa using congrArg Prod.fst hyx
      obtain rfl : x = ys[i] := by simpa using congrArg Prod.snd hyx
      have hd : (List.range (min xs.size ys.size)).drop i = i :: (List.range (min xs.size ys.size)).drop (i + 1) := by simp [List.drop_eq_getElem_cons, hm]
      rw [hd] at hR
      have step : lexB e g (decide (ys.size < xs.size)) (i :: (List.range (min xs.size ys.size)).drop (i + 1)) = if e i = true then lexB e g (decide (ys.size < xs.size)) ((List.range (min xs.size ys.size)).drop (i + 1)) else g i := rfl
      rw [step] at hR
      refine wpAny_bind (he i h1 h2 prog w _ _ ?_)
      cases hy : e i with
      | true =>
        rw [hy] at hR
        wp_walk
        exact ⟨rfl, rfl, i + 1, hrest, by simpa using hR⟩
      | false =>
        rw [hy] at hR
        have hg' := hg i h1 h2 hy
        simp only [Bool.not_false, if_true]
        exact wpAny_bind (wpAny_rule (wpAny_bind (hg' prog w _ _ (wpAny_bind (wpAny_pure (wpAny_pure (wpAny_pure ⟨_, rfl, by simpa using hR⟩)))))))
    case fin =>
      rintro ⟨b1, b2⟩ s' ⟨hb', rfl, i, hz, hR⟩
      simp only at hb'
      subst hb'
      have hge : min xs.size ys.size ≤ i := Nat.le_of_not_lt fun z => by
        rw [List.drop_eq_getElem_cons (hZ.symm ▸ z)] at hz; cases hz
      rw [List.drop_of_length_le (by simpa using hge)] at hR
      wp_walk
      exact ⟨_, rfl, by simpa [Builtin.Tuple.tupleCompareSizes, lexB] using hR⟩
    case h =>
      exact ⟨rfl, rfl, 0, rfl, by simpa using h⟩
section
variable {A : Around} {s : Shared}
theorem GtAt.tuples {p q : Addr} {xs ys : Array Value} {e g : Nat → Bool} (hp : s.heap.IsTuple p xs) (hq : s.heap.IsTuple q ys) (hu : A.units < cLine)
    (he : ∀ j (h1 : j < xs.size) (h2 : j < ys.size), EqAt A.in1 s xs[j] ys[j] (e j)) (hg : ∀ j (h1 : j < xs.size) (h2 : j < ys.size), e j = false → GtAt A.in1 s xs[j] ys[j] (g j)) :
    GtAt A s (.ref p) (.ref q) (lexB e g (decide (ys.size < xs.size)) (List.range (min xs.size ys.size))) := fun prog w E Q h => by
  obtain ⟨⟨c1, d1, da1, s1⟩, o1, k1, n1, e1⟩ := id hp
  obtain ⟨⟨c2, d2, da2, s2⟩, o2, k2, n2, e2⟩ := id hq
  simp only at k1 e1 k2 e2
  subst k1 e1 k2 e2
  exact richCompare_meets_room (op := .Gt) ⟨_, o1, rfl⟩ ⟨_, o2, rfl⟩ F.slot_tuple_gt F.entry_tuple_gt (F.args_tuple_gt_2 _ _) (tuple_gtAt p q xs ys n1 n2 d1 d2 s1 s2 e g)
    ⟨o1, o2, he, hg, show Value.bool (lexB e g (decide (ys.size < xs.size)) (List.range (min xs.size ys.size))) ≠ Value.notImplemented ∧ Q _ s from ⟨(fun x => nomatch x), h⟩⟩ hu
theorem GtAt.int (a : Int) (t : Tok) (b : Int) (u : Tok) : GtAt A s (.int a t) (.int b u) (decide (b < a)) := fun _ _ _ _ h => PyProof.Rows.gt_int h
theorem GtAt.str (a : Str) (t : Tok) (b : Str) (u : Tok) : GtAt A s (.str a t) (.str b u) (decide (b.cps.toList < a.cps.toList)) := fun _ _ _ _ h => PySem.P.gt_str h
end
end HL
namespace L2
open PySem PySem.Spec PyProof.Rows HL
mutual
theorem dat_eq_of : ∀ {d e : Dat}, Dat.beq d e = true → d = e
  | .non, .non, _ => rfl
  | .int i, .int j, h => by rw [show i = j from eq_of_beq h]
  | .str i, .str j, h => by rw [show i = j from eq_of_beq h]
  | .tup ds, .tup es, h => by rw [dats_eq_of (ds := ds) (es := es) h]
  | .non, .int _, h => by cases h
  | .non, .str _, h => by cases h
  | .non, .tup _, h => by cases h
  | .int _, .non, h => by cases h
  | .int _, .str _, h => by cases h
  | .int _, .tup _, h => by cases h
  | .str _, .non, h => by cases h
  | .str _, .int _, h => by cases h
  | .str _, .tup _, h => by cases h
  | .tup _, .non, h => by cases h
  | .tup _, .int _, h => by cases h
  | .tup _, .str _, h => by cases h
theorem dats_eq_of : ∀ {ds es : List Dat}, Dat.beqs ds es = true → ds = es
  | [], [], _ => rfl
  | d :: ds, e :: es, h => by
    have h' : (Dat.beq d e && Dat.beqs ds es) = true := h
    rw [Bool.and_eq_true] at h'
    rw [dat_eq_of h'.1, dats_eq_of h'.2]
  | [], _ :: _, h => by cases h
  | _ :: _, [], h => by cases h
end
theorem beqs_iff {ds es : List Dat} : Dat.beqs ds es = true ↔ ds = es := ⟨dats_eq_of, fun h => h ▸ beqs_refl ds⟩
section
variable {X : Cx} {pins : List (Addr × Obj)} {σ : St} {H : Hp} {s : Shared}
end
end L2
namespace L2
open PySem PySem.Spec PyProof.Rows HL
section
variable {X : Cx}
theorem rc_eqD {pins : List (Addr × Obj)} {σ : St} {H : Hp} {s : Shared} (I : Inv X pins σ H s) (hu : X.A.units + 8 < cLine) {ds es : List Dat} {a b : Addr} {xs ys : List V} (q1 : SqT X.K H a xs) (q2 : SqT X.K H b ys) (h1 : AreDat X.K H ds xs) (h2 : AreDat X.K H es ys) (hdp : Dat.deeps ds ≤ 6) : SeqAt.RcAt X.A s (.ref a) (.ref b) (Dat.beqs ds es) := by
  obtain ⟨its, r1, p1, _⟩ := I.tuple q1
  obtain ⟨its2, r2, p2, _⟩ := I.tuple q2
  have s1 : its.toArray.size = ds.length := by rw [List.size_toArray, ← r1.length, h1.length]
  have s2 : its2.toArray.size = es.length := by rw [List.size_toArray, ← r2.length, h2.length]
  have key := SeqAt.RcAt.tuples (A := X.A) (s := s) (e := fun j => Dat.beq (ds.getD j .non) (es.getD j .non)) p1 p2 (by omega) fun j j1 j2 => by
    obtain ⟨x', d1, rx', m1⟩ := dat_at (A := X.A) h1 r1 j1
    obtain ⟨y', d2, ry', _⟩ := dat_at (A := X.A) h2 r2 j2
    have h3 := deep_at m1
    exact dat_eqAt I 6 X.A.in1 (by omega) (by show X.A.units + 1 + 6 < cLine; omega) d1 d2 rx' ry'
  rw [s1, s2, ← beqs_all] at key
  exact key
def rEqD (K : PySem.W.Frag) : R2 := fun x y H Q => ∃ ds es, IsDat K H (.tup ds) x ∧ IsDat K H (.tup es) y ∧ Dat.deeps ds ≤ 6 ∧ Q (.bl (Dat.beqs ds es)) H
def rNeD (K : PySem.W.Frag) : R2 := fun x y H Q => ∃ ds es, IsDat K H (.tup ds) x ∧ IsDat K H (.tup es) y ∧ Dat.deeps ds ≤ 6 ∧ Q (.bl (!Dat.beqs ds es)) H
theorem op_eqD (hu : X.A.units + 8 < cLine) : OpR X (compareOp .Eq) (rEqD X.K) := by
  intro pins s σ H x y v u Q I rx ry h
  obtain ⟨ds, es, ⟨a, xs, rfl, q1, h1⟩, ⟨b, ys, rfl, q2, h2⟩, hdp, q⟩ := h
  cases rx
  cases ry
  exact rc_eqD I hu q1 q2 h1 h2 hdp _ _ _ _ ⟨.bl _, H, I, rfl, q⟩
theorem op_neD (hu : X.A.units + 8 < cLine) : OpR X (compareOp .NotEq) (rNeD X.K) := by
  intro pins s σ H x y v u Q I rx ry h
  obtain ⟨ds, es, ⟨a, xs, rfl, q1, h1⟩, ⟨b, ys, rfl, q2, h2⟩, hdp, q⟩ := h
  cases rx
  cases ry
  obtain ⟨its, r1, p1, _⟩ := I.tuple q1
  obtain ⟨its2, r2, p2, _⟩ := I.tuple q2
  have s1 : its.toArray.size = ds.length := by rw [List.size_toArray, ← r1.length, h1.length]
  have s2 : its2.toArray.size = es.length := by rw [List.size_toArray, ← r2.length, h2.length]
  have key := SeqAt.RcNeAt.tuples (A := X.A) (s := s) (e := fun j => Dat.beq (ds.getD j .non) (es.getD j .non)) p1 p2 (by omega) fun j j1 j2 => by
    obtain ⟨x', d1, rx', m1⟩ := dat_at (A := X.A) h1 r1 j1
    obtain ⟨y', d2, ry', _⟩ := dat_at (A := X.A) h2 r2 j2
    have h3 := deep_at m1
    exact dat_eqAt I 6 X.A.in1 (by omega) (by show X.A.units + 1 + 6 < cLine; omega) d1 d2 rx' ry'
  rw [s1, s2, ← beqs_all] at key
  exact key _ _ _ _ ⟨.bl _, H, I, rfl, q⟩
theorem dats_any {H : Hp} {e : Dat} {f : Value → Bool} : ∀ {ds : List Dat} {xs : List V} {its : List Value}, AreDat X.K H ds xs → Vals xs its → (∀ d x u, d ∈ ds → IsDat X.K H d x → RelV x u → u ∈ its → f u = Dat.beq d e) → its.any f = ds.any fun d => Dat.beq d e
  | [], _, _, h, r, _ => by rw [show _ = [] from h] at r; cases r; rfl
  | d :: ds, _, _, ⟨y, ys, e1, h1, h2⟩, r, hf => by
    subst e1
    cases r with
    | cons r1 r2 =>
      rw [List.any_cons, List.any_cons, hf d y _ (List.mem_cons_self ..) h1 r1 (List.mem_cons_self ..), dats_any h2 r2 fun d' x' u' hd hi hr hu => hf d' x' u' (List.mem_cons_of_mem _ hd) hi hr (List.mem_cons_of_mem _ hu)]
theorem dats_get {H : Hp} : ∀ {ds : List Dat} {xs : List V} {its : List Value} {u : Value}, AreDat X.K H ds xs → Vals xs its → u ∈ its → ∃ d x, d ∈ ds ∧ IsDat X.K H d x ∧ RelV x u
  | [], _, _, _, h, r, hu => by rw [show _ = [] from h] at r; cases r; cases hu
  | d :: ds, _, _, u, ⟨y, ys, e1, h1, h2⟩, r, hu => by
    subst e1
    cases r with
    | cons r1 r2 =>
      rcases List.mem_cons.mp hu with rfl | hu
      · exact ⟨d, y, List.mem_cons_self .., h1, r1⟩
      · obtain ⟨d', x', hm, hi, hr⟩ := dats_get h2 r2 hu
        exact ⟨d', x', List.mem_cons_of_mem _ hm, hi, hr⟩
def rInD (K : PySem.W.Frag) (neg : Bool) : R2 := fun x y H Q => ∃ p ds es xs, IsDat K H es x ∧ y = .ref p ∧ (SqL K H p xs ∨ SqT K H p xs) ∧ AreDat K H ds xs ∧ Dat.deeps ds ≤ 6 ∧ Q (.bl (if neg then !(ds.any fun d => Dat.beq d es) else ds.any fun d => Dat.beq d es)) H
open Classical in
theorem in_D (neg : Bool) (hu : X.A.units + 8 < cLine) : OpR X (compareOp (if neg then .NotIn else .In)) (rInD X.K neg) := by
  intro pins s σ H x y v u Q I rx ry h
  obtain ⟨p, ds, es, xs, he, rfl, hq, hd, hdp, q⟩ := h
  cases ry
  have key : ∀ {its : List Value}, Vals xs its → ∃ f : Value → Bool, (∀ u ∈ its, SeqAt.EqAt X.A.in1 s u v (f u)) ∧ its.any f = ds.any fun d => Dat.beq d es := fun {its} r => by
    let f : Value → Bool := fun u => decide (∃ d x, d ∈ ds ∧ IsDat X.K H d x ∧ RelV x u ∧ Dat.beq d es = true)
    have fE : ∀ u d x, d ∈ ds → IsDat X.K H d x → RelV x u → f u = Dat.beq d es := fun u d x hm hi hr => by
      cases hb : Dat.beq d es with
      | true => exact decide_eq_true ⟨d, x, hm, hi, hr, hb⟩
      | false =>
        refine decide_eq_false ?_
        rintro ⟨d', x', hm', hi', hr', hb'⟩
        have e' := dat_eq_of hb'
        subst e'
        have ex := RelV.inj hr hr'
        subst ex
        have := dat_det I hi hi'
        rw [hb] at this
        cases this
    refine ⟨f, fun u hu' => ?_, dats_any hd r fun d x u hm hi hr _ => fE u d x hm hi hr⟩
    obtain ⟨d, x', hm, hi, hr⟩ := dats_get hd r hu'
    rw [fE u d x' hm hi hr]
    exact dat_eqAt I 6 X.A.in1 (Nat.le_trans (deep_at hm) hdp) (by show X.A.units + 1 + 6 < cLine; omega) hi he hr rx
  cases neg
  · rcases hq with hq | hq
    · obtain ⟨its, r, pl, hz⟩ := I.list hq
      obtain ⟨f, f1, f2⟩ := key r
      refine SeqAt.in_listAt f pl.isList (fun w hw => f1 w (by simpa using hw)) ⟨.bl _, H, I, rfl, ?_⟩
      rw [show its.toArray.any f = its.any f by simp, f2]
      exact q
    · obtain ⟨its, r, pl, hz⟩ := I.tuple hq
      obtain ⟨f, f1, f2⟩ := key r
      refine SeqAt.in_tupleAt f pl (fun w hw => f1 w (by simpa using hw)) ⟨.bl _, H, I, rfl, ?_⟩
      rw [show its.toArray.any f = its.any f by simp, f2]
      exact q
  · rcases hq with hq | hq
    · obtain ⟨its, r, pl, hz⟩ := I.list hq
      obtain ⟨f, f1, f2⟩ := key r
      refine SeqAt.notIn_listAt f pl.isList (fun w hw => f1 w (by simpa using hw)) ⟨.bl _, H, I, rfl, ?_⟩
      rw [show its.toArray.any f = its.any f by simp, f2]
      exact q
    · obtain ⟨its, r, pl, hz⟩ := I.tuple hq
      obtain ⟨f, f1, f2⟩ := key r
      refine SeqAt.notIn_tupleAt f pl (fun w hw => f1 w (by simpa using hw)) ⟨.bl _, H, I, rfl, ?_⟩
      rw [show its.toArray.any f = its.any f by simp, f2]
      exact q
theorem op_inD (hu : X.A.units + 8 < cLine) : OpR X (compareOp .In) (rInD X.K false) := in_D false hu
end
end L2
namespace L2
open PySem PySem.Spec PyProof.Rows HL
section
variable {X : Cx}
end
end L2
namespace HM
open PySem
section
variable {prog : Program} {w : World} {A : Around} {E : Value → Shared → Prop} {s : Shared}
end
end HM
namespace L2
open PySem PySem.Spec PyProof.Rows
section
variable {X : Cx}
end
end L2
namespace L2
open PySem PySem.Spec PyProof.Rows
section
variable {X : Cx}
theorem op_neLS (hu : X.A.units + 8 < cLine) : OpR X (compareOp .NotEq) (fun x y H Q => ∃ a b ds xs ys, x = .ref a ∧ y = .ref b ∧ SqL X.K H a xs ∧ SqL X.K H b ys ∧ AreDat X.K H ds xs ∧ AreDat X.K H ds ys ∧ Dat.deeps ds ≤ 3 ∧ Q (.bl false) H) := by
  intro pins s σ H x y v u Q I rx ry h
  obtain ⟨a, b, ds, xs, ys, e1, e2, h1, h2, h3, h4, h5, q⟩ := h
  exact op_neA hu pins s σ H x y v u Q I rx ry ⟨a, b, ds, xs, ys, e1, e2, .inr ⟨h1, h2⟩, h3, h4, h5, q⟩
end
theorem are_map {α : Type} {K : PySem.W.Frag} {H : Hp} {f : α → Dat} {g : α → V} : ∀ {L : List α}, (∀ x ∈ L, IsDat K H (f x) (g x)) → AreDat K H (L.map f) (L.map g)
  | [], _ => rfl
  | x :: L, h => ⟨_, _, rfl, h x (List.mem_cons_self ..), are_map fun y hy => h y (List.mem_cons_of_mem _ hy)⟩
end L2
namespace Co
open PySem L2 Mi
theorem tups_dat {K : PySem.W.Frag} {H : Hp} {p : Addr} {T : List (List Str)} (h : TupsH H p T) : IsDat K H (.tup (T.map tupD)) (.ref p) := by
  obtain ⟨rs, h1, h2, h3⟩ := h
  refine ⟨p, _, rfl, SqT.of h1, ?_⟩
  rw [← h3]
  exact dat_tups h2
theorem tup_beq (u v : List Str) : Dat.beqs (u.map Dat.str) (v.map Dat.str) = decide (u = v) := by
  rw [Bool.eq_iff_iff, beqs_iff, decide_eq_true_eq]
  constructor
  · intro h
    have e := congrArg (List.map fun d => match d with | Dat.str x => x | _ => ("" : Str)) h
    rw [List.map_map, List.map_map] at e
    have id' : ∀ l : List Str, l.map ((fun d => match d with | Dat.str x => x | _ => ("" : Str)) ∘ Dat.str) = l := fun l => by
      have : ∀ z ∈ l, ((fun d => match d with | Dat.str x => x | _ => ("" : Str)) ∘ Dat.str) z = z := fun z _ => rfl
      rw [List.map_congr_left this, List.map_id']
    rw [id', id'] at e
    exact e
  · rintro rfl; rfl
theorem str_dat {K : PySem.W.Frag} {H : Hp} {a : Addr} {u : List Str} (h : H a = some (.tup (u.map V.str))) : IsDat K H (tupD u) (.ref a) := ⟨a, _, rfl, SqT.of h, dat_strs' u⟩
end Co
namespace Co
open PySem L2 Mi
end Co
namespace Co
open PySem L2 Mi
end Co
namespace Co
open PySem L2 Mi
theorem rise_of_sort {us : List (List Str)} {rs : List (Addr × List Str)} (hu : us.Nodup) (hp : (rs.map (·.2)).Perm us) (hs : rs.Pairwise fun a b => HS.ltT b.2 a.2 = false) : (rs.map (·.2)).Pairwise fun a b => HS.ltT a b = true := by
  rw [List.pairwise_map]
  have ndq : (rs.map (·.2)).Nodup := hp.nodup_iff.mpr hu
  rw [List.Nodup, List.pairwise_map] at ndq
  refine (hs.and ndq).imp fun {a b} z => ?_
  cases hc : HS.ltT a.2 b.2 with
  | true => rfl
  | false => exact absurd (HS.ltT_tri _ _ hc z.1) z.2
end Co
namespace L2
open PySem PySem.Spec PyProof.Rows
section
variable {X : Cx} {k : Nat} {f : Addr} {fd : FuncData} {ps : List Str} {sp : Sp} {E : XK}
theorem run_fn1 {pins : List (Addr × Obj)} {σ : St} {H : Hp} {s : Shared} {Q : VK} {us : List Value} {vs : List V} (F : FnOk X.prog X.w X.K X.mg X.base CX0 k f fd ps sp) (hr : Room (k + 1) X.A) (hb : Binds X.K fd ps [])
    (I : Inv X pins σ H s) (r : Vals vs us) (h : sp vs H Q E) : wpAny (model X.prog X.w) X.A.in1 (call (.ref f) us) (EP X pins σ Q) (fun _ _ => False) s := by
  have r2 : Vals (vs ++ []) (us ++ []) := r.append .nil
  rw [List.append_nil, List.append_nil] at r2
  have hl : (us ++ ([] : List Value)).length = ps.length := by rw [List.append_nil, ← r2.length]; exact F.len _ _ _ _ h
  have hbb := hb s us I.kIn hl
  rw [List.append_nil] at hbb
  refine wpAny_call (codeAny_mono (F.run X.A.in1 X.stack s H ⟨us, []⟩ us vs Q E hr.in1 I.env0.in1 hbb r2 h) fun r s' hq => ?_)
  cases r with
  | error e => exact hq
  | ok fl =>
    cases fl with
    | ret u => exact I.after hq
    | next => exact False.elim hq
    | brk => exact False.elim hq
    | cont => exact False.elim hq
theorem FpOk.with {pins : List (Addr × Obj)} {H : Hp} {b : Addr} (h : FpOk X pins H b) : FpOk X pins H b := h
def BestAt (kf : Nat → Int) (j i : Nat) : Prop := i ≤ j ∧ ∀ j', j' ≤ j → kf j' ≤ kf i ∧ (j' < i → kf j' < kf i)
theorem maxk_loop {σ : St} {H : Hp} {pins : List (Addr × Obj)} {l I S : Addr} {xs : List V} {kw : List (Str × Value)} {Q : VK} (kf : Nat → Int) (F : FnOk X.prog X.w X.K X.mg X.base CX0 k f fd ps sp) (hr : Room (k + 1) X.A) (hb : Binds X.K fd ps [])
    (hq : SqL X.K H l xs) (hlI : l ≠ I) (hSI : S ≠ I) (fI : FpOk X pins H I) (fS : FpOk X pins H S)
    (turn : ∀ (i : Nat) (v : V), xs[i]? = some v → sp [v] H (fun r H' => r = .int (kf i) ∧ H' = H) E)
    (hQ : ∀ i v, xs[i]? = some v → BestAt kf (xs.length - 1) i → Q v H) :
    ∀ (r j i : Nat) (s : Shared) (ub : Value) (vb : V) (tb : Tok) (c : Nat), xs.length - (j + 1) = r → j + 1 ≤ xs.length → Inv X pins σ H s → s.heap.get? S = some (seqObj "list" #[ub, .int (kf i) tb] c) → s.heap.IsListIter I l (j + 1) → xs[i]? = some vb → RelV vb ub → BestAt kf j i →
      codeAny (model X.prog X.w) X.A (.builtin "max.loop" ⟨[.ref I, .ref f, .ref S], kw⟩) (fun r s' => match r with | .ok (.ret v) => EP X pins σ Q v s' | .ok _ => False | .error e => X.xe e s') s := by
  have hname : (toString "max" ++ toString ".loop" : String) = "max.loop" := by decide
  have hh : X.A.in1.handled = none := hr.in1.hd
  intro r
  induction r with
  | zero =>
    intro j i s ub vb tb c hrr hj I0 hS hit hvb rb hbest
    have hin : j + 1 = xs.length := by omega
    obtain ⟨its, ri, pl, _⟩ := I0.list hq
    have hsz : its.toArray.size = xs.length := by rw [List.size_toArray, ri.length]
    have W := Walks.list (prog := X.prog) (w := X.w) (A := X.A.in1) hh I l hlI its.toArray
    refine codeAny_builtin PySem.F.entry_max_loop ?_
    rw [Around.under_plainId PySem.F.plain_max_loop _]
    show wpAny _ X.A.in1 (seqItems? (.ref S) >>= _) _ _ _
    refine wpAny_bind (wpAny_seqItems hS rfl ?_)
    show wpAny _ X.A.in1 (tryCatch (pyNext (.ref I)) _ >>= _) _ _ _
    refine wpAny_bind (wpAny_tryCatch (W.done _ _ _ ⟨by rw [hsz, ← hin]; exact hit, pl.isList⟩ fun h' tk' hk' => ?_))
    have I1 : Inv X pins σ H { s with heap := h', toks := tk' } := I0.turned (t' := tk') (it := I) (fun b o hb e => hk' b o (by simpa using hb) e) fI.1 fI.2.1 fI.2.2.2.1 fI.2.2.2.2.1 fI.2.2.2.2.2
    have hS' := hk' S _ (by simpa using hSI) hS
    have s1 := Heap.SameBut.update h' S (Obj.mapSeq fun _ => (#[] : Array Value))
    show wpAny _ X.A.in1 (updateSeq S (fun _ => #[]) >>= _) _ _ _
    refine wpAny_bind ?_
    refine wpAny_updateSeq hS' rfl (wpAny_bind (wpAny_letGo (wpAny_pure ?_)))
    have I2 := I1.turned (h' := h'.update S (Obj.mapSeq fun _ => (#[] : Array Value))) (t' := tk') (it := S) (fun b o hb e => (s1.2 b hb).trans e) fS.1 fS.2.1 fS.2.2.2.1 fS.2.2.2.2.1 fS.2.2.2.2.2
    have e1 : xs.length - 1 = j := by omega
    exact ⟨vb, H, I2, rb, hQ i vb hvb (by rw [e1]; exact hbest)⟩
  | succ r ih =>
    intro j i s ub vb tb c hrr hj I0 hS hit hvb rb hbest
    have hlt : j + 1 < xs.length := by omega
    obtain ⟨its, ri, pl, _⟩ := I0.list hq
    have hsz : its.toArray.size = xs.length := by rw [List.size_toArray, ri.length]
    have W := Walks.list (prog := X.prog) (w := X.w) (A := X.A.in1) hh I l hlI its.toArray
    refine codeAny_builtin PySem.F.entry_max_loop ?_
    rw [Around.under_plainId PySem.F.plain_max_loop _]
    show wpAny _ X.A.in1 (seqItems? (.ref S) >>= _) _ _ _
    refine wpAny_bind (wpAny_seqItems hS rfl ?_)
    show wpAny _ X.A.in1 (tryCatch (pyNext (.ref I)) _ >>= _) _ _ _
    refine wpAny_bind (wpAny_tryCatch (W.item (j + 1) _ _ _ (by rw [hsz]; exact hlt) ⟨hit, pl.isList⟩ fun v h' tk' hP hst' hk' => ?_))
    have hv : its[j + 1]? = some v := by simpa using hP
    have hxj : xs[j + 1]? = some xs[j + 1] := List.getElem?_eq_getElem hlt
    obtain ⟨v0, hv0, rv⟩ := ri.get hxj
    rw [hv] at hv0
    cases hv0
    have I1 : Inv X pins σ H { s with heap := h', toks := tk' } := I0.turned (t' := tk') (it := I) (fun b o hb e => hk' b o (by simpa using hb) e) fI.1 fI.2.1 fI.2.2.2.1 fI.2.2.2.2.1 fI.2.2.2.2.2
    have hS1 := hk' S _ (by simpa using hSI) hS
    obtain ⟨oI', hoI', hoc, hod⟩ := id hst'.1
    have I1' := I1.pinned (fp := [S, I]) (fun b hb => by
      rcases List.mem_cons.mp hb with rfl | hb
      · exact fS
      · rw [List.mem_singleton.mp hb]; exact fI) (fun b hb => by
      rcases List.mem_cons.mp hb with rfl | hb
      · exact ⟨_, hS1, fun v e => by cases e⟩
      · rw [List.mem_singleton.mp hb]; exact ⟨_, hoI', fun v e => by rw [hod] at e; cases e⟩)
    show wpAny _ X.A.in1 (tryCatch (holding [v] (call (.ref f) [v])) _ >>= _) _ _ _
    refine wpAny_bind (wpAny_tryCatch (wpAny_holding (wpAny_mono (run_fn1 F hr hb I1' (.cons rv .nil) (turn (j + 1) _ hxj)) (fun u s2 he => ?_) fun _ _ hF => hF.elim)))
    obtain ⟨w2, H2, I2, rw2, rfl, rfl⟩ := he
    obtain ⟨t2, rfl⟩ := rw2
    have pS := (I2.pin (S, _) (List.mem_append_right _ (List.mem_append_right _ (mem_pinsAt (by simp) hS1)))).1
    have pI := (I2.pin (I, oI') (List.mem_append_right _ (List.mem_append_right _ (mem_pinsAt (by simp) hoI')))).1
    have I2' := I2.unpinned
    have hit2 : s2.heap.IsListIter I l (j + 1 + 1) := ⟨oI', pI, hoc, hod⟩
    show wpAny _ X.A.in1 (tryCatch (holding [v, .int (kf (j + 1)) t2] (richCompare .Gt (.int (kf (j + 1)) t2) (.int (kf i) tb) >>= _)) _ >>= _) _ _ _
    refine wpAny_bind (wpAny_tryCatch (wpAny_holding (wpAny_bind (CmpOf.ints_gt (prog := X.prog) (w := X.w) (A := X.A.in1) (P := fun i v => ∃ t, v = .int (kf i) t) kf (fun i v h => h) (j + 1) i _ _ _ _ _ ⟨t2, rfl⟩ ⟨tb, rfl⟩ ?_))))
    refine wpAny_bind (wpAny_holding (wpAny_truthy_bool ?_))
    refine wpAny_bind (wpAny_letGo (wpAny_pure ?_))
    by_cases hb' : kf (j + 1) > kf i
    · have s1 := Heap.SameBut.update s2.heap S (Obj.mapSeq fun _ => #[v, .int (kf (j + 1)) t2])
      obtain ⟨c2, hc2⟩ : ∃ c2, (s2.heap.update S (Obj.mapSeq fun _ => #[v, .int (kf (j + 1)) t2])).get? S = some (seqObj "list" #[v, .int (kf (j + 1)) t2] c2) := ⟨_, get?_update_seq pS fun _ => #[v, .int (kf (j + 1)) t2]⟩
      simp only [hb', decide_true, if_true]
      refine wpAny_bind ?_
      refine wpAny_updateSeq pS rfl (wpAny_bind (wpAny_letGo ?_))
      rw [hname]
      have I3 := I2'.turned (h' := s2.heap.update S (Obj.mapSeq fun _ => #[v, .int (kf (j + 1)) t2])) (t' := s2.toks) (it := S) (fun b o hb e => (s1.2 b hb).trans e) fS.1 fS.2.1 fS.2.2.2.1 fS.2.2.2.2.1 fS.2.2.2.2.2
      refine wpAny_pure ⟨plainId_quiet PySem.F.plain_max_loop _, ih (j + 1) (j + 1) _ v _ t2 c2 (by omega) hlt I3 hc2 ⟨oI', (s1.2 I hSI.symm).trans pI, hoc, hod⟩ hxj rv ⟨Nat.le_refl _, fun j' hj' => ?_⟩⟩
      by_cases e : j' = j + 1
      · subst e
        exact ⟨Int.le_refl _, fun z => absurd z (Nat.lt_irrefl _)⟩
      · have h1 := (hbest.2 j' (by omega)).1
        exact ⟨by omega, fun _ => by omega⟩
    · simp only [hb', decide_false, Bool.false_eq_true, if_false]
      refine wpAny_bind (wpAny_letGo ?_)
      rw [hname]
      refine wpAny_pure ⟨plainId_quiet PySem.F.plain_max_loop _, ih (j + 1) i _ ub vb tb c (by omega) hlt I2' pS hit2 hvb rb ⟨by have := hbest.1; omega, fun j' hj' => ?_⟩⟩
      by_cases e : j' = j + 1
      · subst e
        exact ⟨by omega, fun z => absurd z (by have := hbest.1; omega)⟩
      · exact hbest.2 j' (by omega)
end
end L2
namespace L2
open PySem PySem.Spec PyProof.Rows
theorem args_max_kd (a v d : Value) : argsOk "max" ⟨[a], [(Str.ofString "key", v), (Str.ofString "default", d)]⟩ := by unfold argsOk; kernel_rfl
section
variable {X : Cx} {k : Nat} {f : Addr} {fd : FuncData} {ps : List Str} {sp : Sp} {E : XK}
theorem maxk_call {σ : St} {H : Hp} {pins : List (Addr × Obj)} {s : Shared} {l : Addr} {xs : List V} {d : V} {dv : Value} {Q : VK} (F : FnOk X.prog X.w X.K X.mg X.base CX0 k f fd ps sp) (hr : Room (k + 1) X.A) (hb : Binds X.K fd ps []) (I0 : Inv X pins σ H s)
    (hq : SqL X.K H l xs) (rd : RelV d dv) (h : (xs = [] → Q d H) ∧ (xs ≠ [] → ∃ kf : Nat → Int, (∀ (i : Nat) (v : V), xs[i]? = some v → sp [v] H (fun r H' => r = .int (kf i) ∧ H' = H) E) ∧ ∀ i v, xs[i]? = some v → BestAt kf (xs.length - 1) i → Q v H)) :
    wpAny (model X.prog X.w) X.A (call (.builtin "max") [.ref l] [(Str.ofString "key", .ref f), (Str.ofString "default", dv)]) (EP X pins σ Q) X.xe s := by
  have hname : (toString "max" ++ toString ".loop" : String) = "max.loop" := by decide
  have hh : X.A.in1.handled = none := hr.in1.hd
  obtain ⟨its, ri, pl, _⟩ := I0.list hq
  have hsz : its.toArray.size = xs.length := by rw [List.size_toArray, ri.length]
  obtain ⟨ol, hol, _⟩ := id pl.isList
  have hll : l < s.heap.objs.size := Heap.lt_size hol
  refine kmk_tree PySem.F.kind_max PySem.F.plain_max PySem.F.entry_max (args_max_kd _ _ _) ?_
  show wpAny _ X.A.in1 (Builtin.Builtins.bindParams "max" ["key", "default"] 0 ⟨[], [(Str.ofString "key", .ref f), (Str.ofString "default", dv)]⟩ >>= _) _ _ s
  refine wpAny_bind (wpAny_of_eq (show Builtin.Builtins.bindParams "max" ["key", "default"] 0 ⟨[], [(Str.ofString "key", .ref f), (Str.ofString "default", dv)]⟩ = pure [some (.ref f), some dv] from rfl) ?_)
  refine wpAny_bind (wpAny_pure ?_)
  refine wpAny_bind (wpAny_pyIter_list pl.isList ?_)
  refine wpAny_bind (wpAny_newList ?_ (Nat.zero_le _))
  rw [hname]
  have hS : (s.heap.push { cls := .type "list_iterator", data := .fields #[.ref l, .int 0 0] }).objs.size = s.heap.objs.size + 1 := size_push' ..
  have hlI : l ≠ s.heap.objs.size := Nat.ne_of_lt hll
  have hSI : (s.heap.push { cls := .type "list_iterator", data := .fields #[.ref l, .int 0 0] }).objs.size ≠ s.heap.objs.size := by rw [hS]; exact Nat.ne_of_gt (Nat.lt_succ_self _)
  have fI : FpOk X pins H s.heap.objs.size := I0.fpOk (Nat.le_refl _) (I0.hok.fresh (Nat.le_refl _))
  have fS : FpOk X pins H (s.heap.push { cls := .type "list_iterator", data := .fields #[.ref l, .int 0 0] }).objs.size := I0.fpOk (by rw [hS]; exact Nat.le_succ _) (I0.hok.fresh (by rw [hS]; exact Nat.le_succ _))
  have I1 : Inv X pins σ H { s with heap := (s.heap.push { cls := .type "list_iterator", data := .fields #[.ref l, .int 0 0] }).push (seqObj "list" #[] 0) } := I0.kept (t' := s.toks) fun b o e => Heap.get?_push_of_some _ (Heap.get?_push_of_some _ e)
  have gI : ((s.heap.push { cls := .type "list_iterator", data := .fields #[.ref l, .int 0 0] }).push (seqObj "list" #[] 0)).get? s.heap.objs.size = some { cls := .type "list_iterator", data := .fields #[.ref l, .int 0 0] } :=
    Heap.get?_push_of_some _ (Heap.get?_push_size _ rfl)
  have gS : ((s.heap.push { cls := .type "list_iterator", data := .fields #[.ref l, .int 0 0] }).push (seqObj "list" #[] 0)).get? (s.heap.push { cls := .type "list_iterator", data := .fields #[.ref l, .int 0 0] }).objs.size = some (seqObj "list" #[] 0) := Heap.get?_push_size _ rfl
  have hl1 : ((s.heap.push { cls := .type "list_iterator", data := .fields #[.ref l, .int 0 0] }).push (seqObj "list" #[] 0)).IsList l its.toArray := (pl.isList.push _).push _
  generalize ((s.heap.push { cls := .type "list_iterator", data := .fields #[.ref l, .int 0 0] }).push (seqObj "list" #[] 0)) = h1 at *
  generalize (s.heap.push { cls := .type "list_iterator", data := .fields #[.ref l, .int 0 0] }).objs.size = S at *
  generalize s.heap.objs.size = I at *
  have W := Walks.list (prog := X.prog) (w := X.w) (A := X.A.in1) hh I l hlI its.toArray
  refine wpAny_pure ⟨plainId_quiet PySem.F.plain_max_loop _, ?_⟩
  refine codeAny_builtin PySem.F.entry_max_loop ?_
  rw [Around.under_plainId PySem.F.plain_max_loop _]
  show wpAny _ X.A.in1 (seqItems? (.ref S) >>= _) _ _ _
  refine wpAny_bind (wpAny_seqItems gS rfl ?_)
  show wpAny _ X.A.in1 (tryCatch (pyNext (.ref I)) _ >>= _) _ _ _
  by_cases hne : xs = []
  · have hs0 : its.toArray.size = 0 := by rw [hsz, hne]; rfl
    refine wpAny_bind (wpAny_tryCatch (W.done _ _ _ ⟨by rw [hs0]; exact ⟨_, gI, rfl, rfl⟩, hl1⟩ fun h' tk' hk' => ?_))
    have I2 := I1.turned (h' := h') (t' := tk') (it := I) (fun b o hb e => hk' b o (by simpa using hb) e) fI.1 fI.2.1 fI.2.2.2.1 fI.2.2.2.2.1 fI.2.2.2.2.2
    show wpAny _ X.A.in1 (rule _ >>= _) _ _ _
    refine wpAny_bind (wpAny_rule (wpAny_pure ?_))
    exact ⟨d, H, I2, rd, h.1 hne⟩
  · obtain ⟨kf, turn, hQ⟩ := h.2 hne
    have hp : 0 < xs.length := List.length_pos_iff.mpr hne
    refine wpAny_bind (wpAny_tryCatch (W.item 0 _ _ _ (by rw [hsz]; exact hp) ⟨⟨_, gI, rfl, rfl⟩, hl1⟩ fun v h' tk' hP hst' hk' => ?_))
    have hv : its[0]? = some v := by simpa using hP
    have hx0 : xs[0]? = some xs[0] := List.getElem?_eq_getElem hp
    obtain ⟨v0, hv0, rv⟩ := ri.get hx0
    rw [hv] at hv0
    cases hv0
    have I2 := I1.turned (h' := h') (t' := tk') (it := I) (fun b o hb e => hk' b o (by simpa using hb) e) fI.1 fI.2.1 fI.2.2.2.1 fI.2.2.2.2.1 fI.2.2.2.2.2
    have hS1 := hk' S _ (by simpa using hSI) gS
    obtain ⟨oI', hoI', hoc, hod⟩ := id hst'.1
    have I2' := I2.pinned (fp := [S, I]) (fun b hb => by
      rcases List.mem_cons.mp hb with rfl | hb
      · exact fS
      · rw [List.mem_singleton.mp hb]; exact fI) (fun b hb => by
      rcases List.mem_cons.mp hb with rfl | hb
      · exact ⟨_, hS1, fun v e => by cases e⟩
      · rw [List.mem_singleton.mp hb]; exact ⟨_, hoI', fun v e => by rw [hod] at e; cases e⟩)
    show wpAny _ X.A.in1 (tryCatch (holding [v] (call (.ref f) [v])) _ >>= _) _ _ _
    refine wpAny_bind (wpAny_tryCatch (wpAny_holding (wpAny_mono (run_fn1 F hr hb I2' (.cons rv .nil) (turn 0 _ hx0)) (fun u s2 he => ?_) fun _ _ hF => hF.elim)))
    obtain ⟨w2, H2, I3, rw2, rfl, rfl⟩ := he
    obtain ⟨t2, rfl⟩ := rw2
    have pS := (I3.pin (S, _) (List.mem_append_right _ (List.mem_append_right _ (mem_pinsAt (by simp) hS1)))).1
    have pI := (I3.pin (I, oI') (List.mem_append_right _ (List.mem_append_right _ (mem_pinsAt (by simp) hoI')))).1
    have I3' := I3.unpinned
    have s1 := Heap.SameBut.update s2.heap S (Obj.mapSeq fun _ => #[v, .int (kf 0) t2])
    obtain ⟨c2, hc2⟩ : ∃ c2, (s2.heap.update S (Obj.mapSeq fun _ => #[v, .int (kf 0) t2])).get? S = some (seqObj "list" #[v, .int (kf 0) t2] c2) := ⟨_, get?_update_seq pS fun _ => #[v, .int (kf 0) t2]⟩
    show wpAny _ X.A.in1 (updateSeq S (fun _ => #[v, .int (kf 0) t2]) >>= _) _ _ _
    refine wpAny_bind ?_
    refine wpAny_updateSeq pS rfl ?_
    rw [hname]
    have I4 := I3'.turned (h' := s2.heap.update S (Obj.mapSeq fun _ => #[v, .int (kf 0) t2])) (t' := s2.toks) (it := S) (fun b o hb e => (s1.2 b hb).trans e) fS.1 fS.2.1 fS.2.2.2.1 fS.2.2.2.2.1 fS.2.2.2.2.2
    refine wpAny_pure ⟨plainId_quiet PySem.F.plain_max_loop _, maxk_loop kf F hr hb hq hlI hSI fI fS turn hQ _ 0 0 _ v _ t2 c2 rfl hp I4 hc2 ⟨oI', (s1.2 _ hSI.symm).trans pI, hoc, hod⟩ hx0 rv ⟨Nat.le_refl _, fun j' hj' => ?_⟩⟩
    have e : j' = 0 := by omega
    subst e
    exact ⟨Int.le_refl _, fun z => absurd z (Nat.lt_irrefl _)⟩
def tMaxKD (K : PySem.W.Frag) (sp : Sp) (E : XK) (f : Addr) (te td : TE) : TE := fun σ H Q => te σ H fun x H1 => td σ H1 fun d H2 => ∃ l xs d', [x] = [V.ref l] ∧ [V.ref f, d] = [.ref f, d'] ∧ SqL K H2 l xs ∧ (xs = [] → Q d' H2) ∧ (xs ≠ [] → ∃ kf : Nat → Int, (∀ (i : Nat) (v : V), xs[i]? = some v → sp [v] H2 (fun r H' => r = .int (kf i) ∧ H' = H2) E) ∧ ∀ i v, xs[i]? = some v → BestAt kf (xs.length - 1) i → Q v H2)
theorem pe_maxKD {e dx : Expr} {te td : TE} {y : Str} {p py pk pd pos : Pos} (F : FnOk X.prog X.w X.K X.mg X.base CX0 k f fd ps sp) (hr : Room (k + 1) X.A) (hb : Binds X.K fd ps []) (hm : X.mg "max" = none) (hg : Gl X "max") (hmy : X.mg y = some (.ref f)) (hgy : Gl X y) (he : PE X e te) (hd : PE X dx td)
    (hdy : (y == ("__debug__" : Str)) = false := by decide) (hbt : bootBuiltins (Str.ofString "max") = some (Value.builtin "max") := by decide +kernel)
    (hs : starEach [e] X.env = [(false, eval e X.env)] := by rfl) :
    PE X (.Call (.Name "max" p) [e] [⟨some "key", .Name y py, pk⟩, ⟨some "default", dx, pd⟩] pos) (tMaxKD X.K sp E f te td) := by
  intro pins s σ H Q I h
  have ha : PA X [e] (tCons te tNil) := pa_cons he pa_nil hs
  have hk : PK X [⟨some "key", .Name y py, pk⟩, ⟨some "default", dx, pd⟩] (tCons (tC (.ref f)) (tCons td tNil)) := pk_cons (pe_glob hgy hmy (v := .ref f) rfl hdy) (pk_cons hd pk_nil)
  refine wpAny_Call_Name_kw (ld_blt I hg hm hbt ?_ (by decide) (by decide))
  refine PyProof.Rows.callWith_kw (thn (ha pos pins s σ H (fun vs H1 => tCons (tC (.ref f)) (tCons td tNil) σ H1 fun zs H2 => ∃ l xs d, vs = [.ref l] ∧ zs = [.ref f, d] ∧ SqL X.K H2 l xs ∧ (xs = [] → Q d H2) ∧ (xs ≠ [] → ∃ kf : Nat → Int, (∀ (i : Nat) (v : V), xs[i]? = some v → sp [v] H2 (fun r H' => r = .int (kf i) ∧ H' = H2) E) ∧ ∀ i v, xs[i]? = some v → BestAt kf (xs.length - 1) i → Q v H2)) I ?_) fun us s1 ⟨vs, H1, I1, r, q⟩ => ?_) (by rw [hs]; rfl) (by rw [hs]; rfl)
  · exact h
  · refine thn (hk pos pins s1 σ H1 _ I1 q) fun ws s2 ⟨zs, H2, I2, rz, l, xs, d, e1, e2, hq, q2⟩ => ?_
    subst e1 e2
    obtain ⟨u, rfl, ru⟩ := vals1 r
    cases ru
    cases rz with
    | cons r1 r2 =>
      cases r1
      cases r2 with
      | cons r3 r4 =>
        cases r4
        exact maxk_call F hr hb I2 hq r3 q2
end
end L2
namespace L2
open PySem PySem.Spec PyProof.Rows
section
variable {X : Cx} {tg : Expr}
end
end L2
namespace L2
open PySem PySem.Spec PyProof.Rows
section
variable {X : Cx}
end
end L2
namespace L2
open PySem PySem.Spec PyProof.Rows
section
variable {X : Cx}
def NT : Dat → Prop
  | .non => True
  | .tup _ => True
  | _ => False
def rEqM (K : PySem.W.Frag) : R2 := fun x y H Q => ∃ d e, IsDat K H d x ∧ IsDat K H e y ∧ NT d ∧ NT e ∧ Dat.deep d ≤ 6 ∧ Q (.bl (Dat.beq d e)) H
def rNeM (K : PySem.W.Frag) : R2 := fun x y H Q => ∃ d e, IsDat K H d x ∧ IsDat K H e y ∧ NT d ∧ NT e ∧ Dat.deep d ≤ 6 ∧ Q (.bl (!Dat.beq d e)) H
theorem op_eqM (hu : X.A.units + 8 < cLine) : OpR X (compareOp .Eq) (rEqM X.K) := by
  intro pins s σ H x y v u Q I rx ry h
  obtain ⟨d, e, hd, he, nd, ne, hdp, q⟩ := h
  cases d with
  | int i => exact nd.elim
  | str i => exact nd.elim
  | non =>
    have hx : x = .non := hd
    subst hx
    cases e with
    | int i => exact ne.elim
    | str i => exact ne.elim
    | non =>
      have hy : y = .non := he
      subst hy
      refine op_eq pins s σ H .non .non v u Q I rx ry ⟨rfl, ?_⟩
      rw [decide_eq_true (rfl : V.non = V.non)]
      exact q
    | tup es =>
      obtain ⟨b, ys, rfl, q2, _⟩ := he
      obtain ⟨its2, r2, p2, _⟩ := I.tuple q2
      have e1 : v = Value.none := rx
      have e2 : u = Value.ref b := ry
      subst e1 e2
      exact SeqAt.RcAt.none_tuple (A := X.A) p2 (by omega) X.prog X.w X.xe _ ⟨.bl false, H, I, rfl, q⟩
  | tup ds =>
    cases e with
    | int i => exact ne.elim
    | str i => exact ne.elim
    | non =>
      have hy : y = .non := he
      subst hy
      obtain ⟨b, ys, rfl, q2, _⟩ := hd
      obtain ⟨its2, r2, p2, _⟩ := I.tuple q2
      have e1 : v = Value.ref b := rx
      have e2 : u = Value.none := ry
      subst e1 e2
      exact SeqAt.RcAt.tuple_none (A := X.A) p2 (by omega) X.prog X.w X.xe _ ⟨.bl false, H, I, rfl, q⟩
    | tup es =>
      have hdp' : Dat.deeps ds + 1 ≤ 6 := hdp
      exact op_eqD hu pins s σ H x y v u Q I rx ry ⟨ds, es, hd, he, by omega, q⟩
theorem op_neM (hu : X.A.units + 8 < cLine) : OpR X (compareOp .NotEq) (rNeM X.K) := by
  intro pins s σ H x y v u Q I rx ry h
  obtain ⟨d, e, hd, he, nd, ne, hdp, q⟩ := h
  cases d with
  | int i => exact nd.elim
  | str i => exact nd.elim
  | non =>
    have hx : x = .non := hd
    subst hx
    cases e with
    | int i => exact ne.elim
    | str i => exact ne.elim
    | non =>
      have hy : y = .non := he
      subst hy
      refine op_ne pins s σ H .non .non v u Q I rx ry ⟨rfl, ?_⟩
      rw [decide_eq_true (rfl : V.non = V.non)]
      exact q
    | tup es =>
      obtain ⟨b, ys, rfl, q2, _⟩ := he
      obtain ⟨its2, r2, p2, _⟩ := I.tuple q2
      have e1 : v = Value.none := rx
      have e2 : u = Value.ref b := ry
      subst e1 e2
      exact SeqAt.RcNeAt.none_tuple (A := X.A) p2 (by omega) X.prog X.w X.xe _ ⟨.bl true, H, I, rfl, q⟩
  | tup ds =>
    cases e with
    | int i => exact ne.elim
    | str i => exact ne.elim
    | non =>
      have hy : y = .non := he
      subst hy
      obtain ⟨b, ys, rfl, q2, _⟩ := hd
      obtain ⟨its2, r2, p2, _⟩ := I.tuple q2
      have e1 : v = Value.ref b := rx
      have e2 : u = Value.none := ry
      subst e1 e2
      exact SeqAt.RcNeAt.tuple_none (A := X.A) p2 (by omega) X.prog X.w X.xe _ ⟨.bl true, H, I, rfl, q⟩
    | tup es =>
      have hdp' : Dat.deeps ds + 1 ≤ 6 := hdp
      exact op_neD hu pins s σ H x y v u Q I rx ry ⟨ds, es, hd, he, by omega, q⟩
end
end L2
namespace Mi
open PySem L2
abbrev Rl := List Str × List Str
def fits (a : List Str) (r : Rl) : Bool := decide (a.take r.1.length = r.1)
def best (a : List Str) : List Rl → Option Rl
  | [] => none
  | r :: R => match best a R with
    | none => if fits a r = true then some r else none
    | some q => if fits a r = true ∧ q.1.length ≤ r.1.length then some r else some q
def onceF (R : List Rl) (a : List Str) : Option (List Str) := (best a R).map fun r => r.2 ++ a.drop r.1.length
def Best (R : List Rl) (a : List Str) (r : Rl) : Prop := r ∈ R ∧ fits a r = true ∧ ∀ q ∈ R, fits a q = true → q.1.length ≤ r.1.length
theorem best_none {a : List Str} : ∀ {R : List Rl}, best a R = none ↔ ∀ r ∈ R, fits a r = false
  | [] => by simp [best]
  | r :: R => by
    have ih := best_none (a := a) (R := R)
    unfold best
    cases h : best a R with
    | none =>
      have h' := ih.mp h
      cases hf : fits a r with
      | true =>
        refine ⟨fun z => ?_, fun z => ?_⟩
        · simp at z
        · have := z r (List.mem_cons_self ..)
          rw [hf] at this
          cases this
      | false =>
        refine ⟨fun _ q hq => ?_, fun _ => rfl⟩
        rcases List.mem_cons.mp hq with rfl | hq
        · exact hf
        · exact h' q hq
    | some q =>
      refine ⟨fun z => ?_, fun z => ?_⟩
      · dsimp only at z
        split at z <;> cases z
      · have : best a R = none := ih.mpr fun r' hr' => z r' (List.mem_cons_of_mem _ hr')
        rw [this] at h
        cases h
theorem best_some {a : List Str} : ∀ {R : List Rl} {q : Rl}, best a R = some q → Best R a q
  | [], q, h => by cases h
  | r :: R, q, h => by
    unfold best at h
    cases hb : best a R with
    | none =>
      rw [hb] at h
      dsimp only at h
      have hn := best_none.mp hb
      by_cases hf : fits a r = true
      · rw [if_pos hf] at h
        cases h
        refine ⟨List.mem_cons_self .., hf, fun q' hq' hf' => ?_⟩
        rcases List.mem_cons.mp hq' with rfl | hq'
        · exact Nat.le_refl _
        · rw [hn q' hq'] at hf'
          cases hf'
      · rw [if_neg hf] at h
        cases h
    | some p =>
      rw [hb] at h
      dsimp only at h
      obtain ⟨h1, h2, h3⟩ := best_some hb
      by_cases hf : fits a r = true ∧ p.1.length ≤ r.1.length
      · rw [if_pos hf] at h
        cases h
        refine ⟨List.mem_cons_self .., hf.1, fun q' hq' hf' => ?_⟩
        rcases List.mem_cons.mp hq' with rfl | hq'
        · exact Nat.le_refl _
        · exact Nat.le_trans (h3 q' hq' hf') hf.2
      · rw [if_neg hf] at h
        obtain rfl := Option.some.inj h
        refine ⟨List.mem_cons_of_mem _ h1, h2, fun q' hq' hf' => ?_⟩
        rcases List.mem_cons.mp hq' with rfl | hq'
        · rcases Nat.lt_or_ge q'.1.length p.1.length with z | z
          · omega
          · exact absurd ⟨hf', z⟩ hf
        · exact h3 q' hq' hf'
theorem fits_is {a : List Str} {r : Rl} (h : fits a r = true) : a = r.1 ++ a.drop r.1.length := by
  have h' := of_decide_eq_true h
  have := List.take_append_drop r.1.length a
  rw [h'] at this
  exact this.symm
theorem Best.uniq {R : List Rl} {a : List Str} {r q : Rl} (nd : (R.map (·.1)).Nodup) (h1 : Best R a r) (h2 : Best R a q) : r = q := by
  have l1 := h1.2.2 q h2.1 h2.2.1
  have l2 := h2.2.2 r h1.1 h1.2.1
  have e : r.1.length = q.1.length := by omega
  have f1 := of_decide_eq_true h1.2.1
  have f2 := of_decide_eq_true h2.2.1
  have e2 : r.1 = q.1 := by rw [← f1, ← f2, e]
  clear l1 l2 e f1 f2
  have m1 := h1.1
  have m2 := h2.1
  clear h1 h2
  induction R with
  | nil => cases m1
  | cons x R ih =>
    rw [List.map_cons, List.nodup_cons] at nd
    rcases List.mem_cons.mp m1 with h1 | h1
    · rcases List.mem_cons.mp m2 with h2 | h2
      · rw [h1, h2]
      · rw [← h1] at nd
        exact absurd (List.mem_map.mpr ⟨q, h2, e2.symm⟩) nd.1
    · rcases List.mem_cons.mp m2 with h2 | h2
      · rw [← h2] at nd
        exact absurd (List.mem_map.mpr ⟨r, h1, e2⟩) nd.1
      · exact ih nd.2 h1 h2
theorem best_of {R : List Rl} {a : List Str} {r : Rl} (nd : (R.map (·.1)).Nodup) (h : Best R a r) : best a R = some r := by
  cases hb : best a R with
  | none =>
    have := best_none.mp hb r h.1
    rw [h.2.1] at this
    cases this
  | some q => rw [Best.uniq nd h (best_some hb)]
theorem once_of {R : List Rl} {a : List Str} {r : Rl} (nd : (R.map (·.1)).Nodup) (h : Best R a r) : onceF R a = some (r.2 ++ a.drop r.1.length) := by
  unfold onceF
  rw [best_of nd h]
  rfl
theorem once_none {R : List Rl} {a : List Str} : onceF R a = none ↔ ∀ r ∈ R, fits a r = false := by
  unfold onceF
  rw [Option.map_eq_none_iff, best_none]
theorem Best.congr {R S : List Rl} {a : List Str} {r : Rl} (h : ∀ x, x ∈ R ↔ x ∈ S) (b : Best R a r) : Best S a r := ⟨(h r).mp b.1, b.2.1, fun q hq => b.2.2 q ((h q).mpr hq)⟩
theorem once_congr {R S : List Rl} (nd : (R.map (·.1)).Nodup) (nd' : (S.map (·.1)).Nodup) (h : ∀ x, x ∈ R ↔ x ∈ S) (a : List Str) : onceF R a = onceF S a := by
  cases hb : best a R with
  | none =>
    have h1 : onceF R a = none := by unfold onceF; rw [hb]; rfl
    rw [h1]
    refine (once_none.mpr fun r hr => best_none.mp hb r ((h r).mpr hr)).symm
  | some r => rw [once_of nd (best_some hb), once_of nd' ((best_some hb).congr h)]
def rest (R : List Rl) (b : List Str) : List Rl := R.filter fun r => !decide (r.1 = b)
theorem rest_mem {R : List Rl} {b : List Str} {r : Rl} : r ∈ rest R b ↔ r ∈ R ∧ r.1 ≠ b := by
  unfold rest
  rw [List.mem_filter]
  simp
theorem rest_nd {R : List Rl} (nd : (R.map (·.1)).Nodup) (b : List Str) : ((rest R b).map (·.1)).Nodup := nd.sublist (List.filter_sublist.map _)
def needs (R : List Rl) (r : Rl) : Bool := decide (onceF (rest R r.1) r.1 = some r.2)
theorem needless_same {R : List Rl} (nd : (R.map (·.1)).Nodup) {b g : List Str} (hb : (b, g) ∈ R) (hn : needs R (b, g) = true) (a : List Str) : onceF (rest R b) a = onceF R a := by
  have hn' : onceF (rest R b) b = some g := of_decide_eq_true hn
  have ndr := rest_nd nd b
  cases hq : best a R with
  | none =>
    have h1 : onceF R a = none := by unfold onceF; rw [hq]; rfl
    rw [h1]
    exact once_none.mpr fun r hr => best_none.mp hq r (rest_mem.mp hr).1
  | some q =>
    have hB := best_some hq
    by_cases e : q.1 = b
    · -- it is the longest one
      have eq : q = (b, g) := by
        have : Best R b (b, g) := ⟨hb, decide_eq_true (by simp), fun z _ hz => by
          have := congrArg List.length (of_decide_eq_true hz)
          rw [List.length_take] at this
          show z.1.length ≤ b.length
          omega⟩
        have h2 : Best R b q := ⟨hB.1, decide_eq_true (by rw [e]; simp), fun z hz hf => by
          have := congrArg List.length (of_decide_eq_true hf)
          rw [List.length_take] at this
          rw [e]; omega⟩
        exact Best.uniq nd h2 this
      subst eq
      have ea : a = b ++ a.drop b.length := fits_is hB.2.1
      -- the best of the others at b
      cases hp : best b (rest R b) with
      | none =>
        unfold onceF at hn'
        rw [hp] at hn'
        cases hn'
      | some p =>
        have hP := best_some hp
        have hpg : p.2 ++ b.drop p.1.length = g := by
          unfold onceF at hn'
          rw [hp] at hn'
          injection hn'
        have fb := of_decide_eq_true hP.2.1
        have hle : p.1.length ≤ b.length := by
          have := congrArg List.length fb
          rw [List.length_take] at this
          omega
        have hB2 : Best (rest R b) a p := by
          refine ⟨hP.1, ?_, fun z hz hf => ?_⟩
          · refine decide_eq_true ?_
            rw [ea, List.take_append_of_le_length hle]
            exact fb
          · have hzl : z.1.length ≤ b.length := hB.2.2 z (rest_mem.mp hz).1 hf
            refine hP.2.2 z hz (decide_eq_true ?_)
            have := of_decide_eq_true hf
            rw [ea, List.take_append_of_le_length hzl] at this
            exact this
        rw [once_of nd hB, once_of ndr hB2]
        congr 1
        show p.2 ++ a.drop p.1.length = g ++ a.drop b.length
        have e1 : a.drop p.1.length = b.drop p.1.length ++ a.drop b.length := by
          have h0 : (b ++ a.drop b.length).drop p.1.length = b.drop p.1.length ++ a.drop b.length := List.drop_append_of_le_length hle
          rw [← ea] at h0
          exact h0
        rw [e1, ← List.append_assoc, hpg]
    · have hB2 : Best (rest R b) a q := ⟨rest_mem.mpr ⟨hB.1, e⟩, hB.2.1, fun z hz hf => hB.2.2 z (rest_mem.mp hz).1 hf⟩
      rw [once_of nd hB, once_of ndr hB2]
theorem once_own {R : List Rl} (nd : (R.map (·.1)).Nodup) {b g : List Str} (hb : (b, g) ∈ R) : onceF R b = some g := by
  have : Best R b (b, g) := ⟨hb, decide_eq_true (by simp), fun z _ hz => by
    have := congrArg List.length (of_decide_eq_true hz)
    rw [List.length_take] at this
    show z.1.length ≤ b.length
    omega⟩
  rw [once_of nd this]
  simp
theorem needs_ne {R : List Rl} {r : Rl} (h : needs R r = true) : r.1 ≠ [] := fun e => by
  have h' := of_decide_eq_true h
  rw [e] at h'
  cases hb : best [] (rest R []) with
  | none => unfold onceF at h'; rw [hb] at h'; cases h'
  | some q =>
    have hq := best_some hb
    have := of_decide_eq_true hq.2.1
    simp at this
    exact (rest_mem.mp hq.1).2 this
def ledN : Nat → List Rl → List Str → Option (List Str)
  | n, R, a => match onceF R a with
    | none => some a
    | some b => match n with
      | 0 => none
      | n + 1 => ledN n R b
theorem led_none {n : Nat} {R : List Rl} {a : List Str} (h : onceF R a = none) : ledN n R a = some a := by
  cases n <;> (unfold ledN; rw [h])
theorem led_zero {R : List Rl} {a b : List Str} (h : onceF R a = some b) : ledN 0 R a = none := by unfold ledN; rw [h]
theorem led_succ {n : Nat} {R : List Rl} {a b : List Str} (h : onceF R a = some b) : ledN (n + 1) R a = ledN n R b := by
  rw [ledN]
  rw [h]
end Mi
namespace L2
open PySem PySem.Spec PyProof.Rows
section
variable {X : Cx} {tg : Expr}
def iSeq (K : PySem.W.Frag) (tl : TE) : TI := fun σ H R => tl σ H fun x H1 => ∃ a, x = .ref a ∧ (((∃ xs, SqL K H1 a xs) ∧ R (Itl K a) H1) ∨ ((∃ xs, SqT K H1 a xs) ∧ R (Itt K a) H1))
theorem pi_seq {l : Expr} {tl : TE} (hl : PE X l tl) : PI X tg l (iSeq X.K tl) := by
  intro pins s σ H R I h
  refine thn (hl pins s σ H _ I h) fun v s1 ⟨x, H1, I1, r1, q1⟩ => ?_
  obtain ⟨a, e, q1⟩ := q1
  subst e
  cases r1
  rcases q1 with ⟨⟨xs, hq⟩, q⟩ | ⟨⟨xs, hq⟩, q⟩
  · obtain ⟨its, rv, p, hz⟩ := I1.list hq
    refine wpAny_pyIter_list p.isList ?_
    refine ⟨s1.heap.objs.size, [s1.heap.objs.size], _, _, H1, rfl, I1.kept (t' := s1.toks) fun b o e => Heap.get?_push_of_some _ e, turn_list a _, ⟨_, Heap.get?_push_size _ rfl, rfl, rfl⟩, fun b hb => ?_, q⟩
    have e : b = s1.heap.objs.size := by simpa using hb
    subst e
    exact I1.fpOk (Nat.le_refl _) (I1.hok.fresh (Nat.le_refl _))
  · obtain ⟨its, rv, p, hz⟩ := I1.tuple hq
    refine wpAny_pyIter_tuple (show s1.heap.IsTuple a its.toArray from p) ?_
    refine ⟨s1.heap.objs.size, [s1.heap.objs.size], _, _, H1, rfl, I1.kept (t' := s1.toks) fun b o e => Heap.get?_push_of_some _ e, turn_tuple a _, ⟨_, Heap.get?_push_size _ rfl, rfl, rfl⟩, fun b hb => ?_, q⟩
    have e : b = s1.heap.objs.size := by simpa using hb
    subst e
    exact I1.fpOk (Nat.le_refl _) (I1.hok.fresh (Nat.le_refl _))
end
end L2
namespace Co
open PySem L2 Mi
theorem compF_gen {α : Type} {J : It} {rs : List α} (gv : α → V) {tt : TT} {te : TE} {fr : St} {H1 : Hp} {QD : Hp → Prop} (f : α → V) (p : α → Bool) (D : Addr) (hD : H1 D = none) (T : Tells J H1 (rs.map gv)) (hz : rs.length < sizeLine)
    (ht : ∀ r H R, r ∈ rs → Same H1 H → (∀ H', Same H H' → R (p r) H') → tt (some (gv r) :: fr) H R)
    (he : ∀ r H R, r ∈ rs → p r = true → Same H1 H → (∀ H', Same H H' → R (f r) H') → te (some (gv r) :: fr) H R)
    (hd : ∀ H', Same H1 H' → H' D = some (.lst ((rs.filter p).map f)) → QD H') :
    ∃ W : Nat → Nat → List V → Hp → Prop, (∃ m, W 0 m [] (upd H1 D (.lst []))) ∧ ∀ i m ys H2, W i m ys H2 → H2 D = some (.lst ys) ∧
      ((J.stop i H2 ∧ QD H2) ∨ (J.go i H2 ∧ ∀ x H3, J.yld i H2 x H3 → ∀ pre : St, pre.length = 1 → gName 0 x (pre ++ fr) H3 fun σ4 H4 => (∃ pre' : St, pre'.length = 1 ∧ σ4 = pre' ++ fr) ∧
        tt σ4 H4 fun b H5 => if b = true then te σ4 H5 (fun y H6 => H6 D = some (.lst ys) ∧ ys.length < sizeLine ∧ ∃ m', m' < m ∧ W (i + 1) m' (ys ++ [y]) (upd H6 D (.lst (ys ++ [y])))) else ∃ m', m' < m ∧ W (i + 1) m' ys H5)) := by
  refine ⟨fun i m ys H2 => m = rs.length - i ∧ i ≤ rs.length ∧ ys = ((rs.take i).filter p).map f ∧ H2 D = some (.lst ys) ∧ Same H1 H2, ⟨rs.length, by simp, Nat.zero_le _, by simp, upd_same, Same.new hD _⟩, ?_⟩
  rintro i m ys H2 ⟨rfl, hi, rfl, hD2, sm⟩
  refine ⟨hD2, ?_⟩
  by_cases hlt : i < rs.length
  · refine .inr ⟨T.go H2 i sm (by rw [List.length_map]; exact hlt), fun x H3 y pre hpre => ?_⟩
    obtain ⟨rfl, hx⟩ := T.yld H2 i x H3 sm y
    rw [List.getElem?_map, List.getElem?_eq_getElem hlt] at hx
    cases hx
    have hm : rs[i] ∈ rs := List.getElem_mem hlt
    obtain ⟨a0, rfl⟩ : ∃ a0, pre = [a0] := by
      cases pre with
      | nil => simp at hpre
      | cons a0 r => cases r with
        | nil => exact ⟨a0, rfl⟩
        | cons _ _ => simp at hpre
    refine ⟨⟨[some (gv rs[i])], rfl, rfl⟩, ?_⟩
    have htk : (rs.take (i + 1)).filter p = (rs.take i).filter p ++ (if p rs[i] = true then [rs[i]] else []) := by
      rw [List.take_add_one, List.getElem?_eq_getElem hlt, List.filter_append]
      cases hp : p rs[i] <;> simp [hp]
    refine ht rs[i] H3 _ hm sm fun H5 s5 => ?_
    cases hp : p rs[i] with
    | false =>
      rw [hp, if_neg Bool.false_ne_true, List.append_nil] at htk
      exact iteF ⟨rs.length - (i + 1), by omega, rfl, hlt, by rw [htk], s5 _ _ hD2, sm.trans s5⟩
    | true =>
      rw [hp, if_pos rfl] at htk
      refine iteT (he rs[i] H5 _ hm hp (sm.trans s5) fun H6 s6 => ?_)
      have hl : (((rs.take i).filter p).map f).length ≤ i := by
        rw [List.length_map]
        refine Nat.le_trans (List.length_filter_le _ _) ?_
        rw [List.length_take]; omega
      refine ⟨s6 _ _ (s5 _ _ hD2), by omega, rs.length - (i + 1), by omega, rfl, hlt, ?_, upd_same, ?_⟩
      · rw [htk, List.map_append]; rfl
      · intro b o e
        have hb : b ≠ D := ne_of_none e hD
        rw [upd_ne hb]
        exact s6 _ _ (s5 _ _ (sm _ _ e))
  · have e : i = rs.length := by omega
    subst e
    rw [List.take_length] at hD2
    have hst := T.stop H2 sm
    rw [List.length_map] at hst
    exact .inl ⟨hst, hd H2 sm hD2⟩
abbrev TupA (H : Hp) (a : Addr) (u : List Str) : Prop := H a = some (.tup (u.map V.str))
abbrev Rx := Addr × Addr × Addr × Rl
def RlH (H : Hp) (x : Rx) : Prop := H x.1 = some (.tup [.ref x.2.1, .ref x.2.2.1]) ∧ TupA H x.2.1 x.2.2.2.1 ∧ TupA H x.2.2.1 x.2.2.2.2
theorem RlH.ts {H H' : Hp} {x : Rx} (h : RlH H x) (s : TS' H H') : RlH H' x := ⟨s _ _ h.1, s _ _ h.2.1, s _ _ h.2.2⟩
def RlsIn (H : Hp) (rs : List Rx) : Prop := ∀ x ∈ rs, RlH H x
theorem RlsIn.ts {H H' : Hp} {rs : List Rx} (h : RlsIn H rs) (s : TS' H H') : RlsIn H' rs := fun x hx => (h x hx).ts s
abbrev rrefs (rs : List Rx) : List V := rs.map fun x => V.ref x.1
def RlsAt (H : Hp) (p : Addr) (R : List Rl) : Prop := ∃ rs : List Rx, H p = some (.tup (rrefs rs)) ∧ RlsIn H rs ∧ rs.map (·.2.2.2) = R
def RlsSq (H : Hp) (p : Addr) (rs : List Rx) : Prop := H p = some (.tup (rrefs rs)) ∨ H p = some (.lst (rrefs rs))
theorem RlsAt.ts {H H' : Hp} {p : Addr} {R : List Rl} (h : RlsAt H p R) (s : TS' H H') : RlsAt H' p R := by
  obtain ⟨rs, h1, h2, h3⟩ := h
  exact ⟨rs, s _ _ h1, h2.ts s, h3⟩
theorem RlsAt.same {H H' : Hp} {p : Addr} {R : List Rl} (h : RlsAt H p R) (s : Same H H') : RlsAt H' p R := h.ts s.ts
theorem RlsSq.same {H H' : Hp} {p : Addr} {rs : List Rx} (h : RlsSq H p rs) (s : Same H H') : RlsSq H' p rs := h.elim (fun h => .inl (s _ _ h)) fun h => .inr (s _ _ h)
theorem filter_rls (rs : List Rx) (p : Rl → Bool) : (rs.filter fun r => p r.2.2.2).map (·.2.2.2) = (rs.map (·.2.2.2)).filter p := by
  rw [List.filter_map]
  rfl
theorem cut_toS (u : List Str) (k : Nat) : cutV (u.map V.str) none (some (k : Int)) = (u.take k).map V.str := by rw [cut_to, List.map_take]
theorem cut_fromS (u : List Str) (k : Nat) : cutV (u.map V.str) (some (k : Int)) none = (u.drop k).map V.str := by rw [cut_from, List.map_drop]
end Co
namespace Co
open PySem L2 Mi
theorem compF_gen2 {α : Type} {K : PySem.W.Frag} {J : It} {rs : List α} (gv : α → Addr) (v1 v2 : α → V) {tt : TT} {te : TE} {fr : St} {H1 : Hp} {QD : Hp → Prop} (f : α → V) (p : α → Bool) (D : Addr) (hD : H1 D = none) (T : Tells J H1 (rs.map fun r => V.ref (gv r))) (hpr : ∀ r ∈ rs, H1 (gv r) = some (.tup [v1 r, v2 r])) (hz : rs.length < sizeLine)
    (ht : ∀ r H R, r ∈ rs → Same H1 H → (∀ H', Same H H' → R (p r) H') → tt (some (v1 r) :: some (v2 r) :: fr) H R)
    (he : ∀ r H R, r ∈ rs → p r = true → Same H1 H → (∀ H', Same H H' → R (f r) H') → te (some (v1 r) :: some (v2 r) :: fr) H R)
    (hd : ∀ H', Same H1 H' → H' D = some (.lst ((rs.filter p).map f)) → QD H') :
    ∃ W : Nat → Nat → List V → Hp → Prop, (∃ m, W 0 m [] (upd H1 D (.lst []))) ∧ ∀ i m ys H2, W i m ys H2 → H2 D = some (.lst ys) ∧
      ((J.stop i H2 ∧ QD H2) ∨ (J.go i H2 ∧ ∀ x H3, J.yld i H2 x H3 → ∀ pre : St, pre.length = 2 → gTup K 2 (gCons (gName 0) (gCons (gName 1) gNil)) x (pre ++ fr) H3 fun σ4 H4 => (∃ pre' : St, pre'.length = 2 ∧ σ4 = pre' ++ fr) ∧
        tt σ4 H4 fun b H5 => if b = true then te σ4 H5 (fun y H6 => H6 D = some (.lst ys) ∧ ys.length < sizeLine ∧ ∃ m', m' < m ∧ W (i + 1) m' (ys ++ [y]) (upd H6 D (.lst (ys ++ [y])))) else ∃ m', m' < m ∧ W (i + 1) m' ys H5)) := by
  refine ⟨fun i m ys H2 => m = rs.length - i ∧ i ≤ rs.length ∧ ys = ((rs.take i).filter p).map f ∧ H2 D = some (.lst ys) ∧ Same H1 H2, ⟨rs.length, by simp, Nat.zero_le _, by simp, upd_same, Same.new hD _⟩, ?_⟩
  rintro i m ys H2 ⟨rfl, hi, rfl, hD2, sm⟩
  refine ⟨hD2, ?_⟩
  by_cases hlt : i < rs.length
  · refine .inr ⟨T.go H2 i sm (by rw [List.length_map]; exact hlt), fun x H3 y pre hpre => ?_⟩
    obtain ⟨rfl, hx⟩ := T.yld H2 i x H3 sm y
    rw [List.getElem?_map, List.getElem?_eq_getElem hlt] at hx
    cases hx
    have hm : rs[i] ∈ rs := List.getElem_mem hlt
    obtain ⟨a0, a1, rfl⟩ : ∃ a0 a1, pre = [a0, a1] := by
      cases pre with
      | nil => simp at hpre
      | cons a0 r => cases r with
        | nil => simp at hpre
        | cons a1 r => cases r with
          | nil => exact ⟨a0, a1, rfl⟩
          | cons _ _ => simp at hpre
    refine ⟨gv rs[i], _, rfl, SqT.of (sm _ _ (hpr _ hm)), rfl, _, _, rfl, _, _, rfl, rfl, ⟨[some (v1 rs[i]), some (v2 rs[i])], rfl, rfl⟩, ?_⟩
    have htk : (rs.take (i + 1)).filter p = (rs.take i).filter p ++ (if p rs[i] = true then [rs[i]] else []) := by
      rw [List.take_add_one, List.getElem?_eq_getElem hlt, List.filter_append]
      cases hp : p rs[i] <;> simp [hp]
    refine ht rs[i] H3 _ hm sm fun H5 s5 => ?_
    cases hp : p rs[i] with
    | false =>
      rw [hp, if_neg Bool.false_ne_true, List.append_nil] at htk
      exact iteF ⟨rs.length - (i + 1), by omega, rfl, hlt, by rw [htk], s5 _ _ hD2, sm.trans s5⟩
    | true =>
      rw [hp, if_pos rfl] at htk
      refine iteT (he rs[i] H5 _ hm hp (sm.trans s5) fun H6 s6 => ?_)
      have hl : (((rs.take i).filter p).map f).length ≤ i := by
        rw [List.length_map]
        refine Nat.le_trans (List.length_filter_le _ _) ?_
        rw [List.length_take]; omega
      refine ⟨s6 _ _ (s5 _ _ hD2), by omega, rs.length - (i + 1), by omega, rfl, hlt, ?_, upd_same, ?_⟩
      · rw [htk, List.map_append]; rfl
      · intro b o e
        have hb : b ≠ D := ne_of_none e hD
        rw [upd_ne hb]
        exact s6 _ _ (s5 _ _ (sm _ _ e))
  · have e : i = rs.length := by omega
    subst e
    rw [List.take_length] at hD2
    have hst := T.stop H2 sm
    rw [List.length_map] at hst
    exact .inl ⟨hst, hd H2 sm hD2⟩
end Co
namespace Co
open PySem L2 Mi
theorem compF_draws {K : PySem.W.Frag} {a t : Addr} {ns : List Int} {zs : List V} {n : Nat} {te : TE} {H1 : Hp} {QD : Hp → Prop} (L : List Str) (D : Addr) (hD : H1 D = none) (hS : Scr K H1 a ns) (hT : H1 t = some (.lst zs)) (hn : n ≤ 100) (hz : zs.length + n < 50000)
    (hte : ∀ x H (R : VK) zs', Scr K H a ns → H t = some (.lst zs') → zs'.length < 50000 → (∀ z H', z ∈ L → H' t = some (.lst (zs' ++ [.int 0])) → Stp t H H' → R (.str z) H') → te (some x :: [some (.ref a), some (.ref t)]) H R)
    (hd : ∀ (ts : List Str) (zs' : List V) H', ts.length = n → (∀ z ∈ ts, z ∈ L) → H' t = some (.lst zs') → zs'.length = zs.length + n → Stp t H1 H' → H' D = some (.lst (ts.map V.str)) → QD H') :
    ∃ W : Nat → Nat → List V → Hp → Prop, (∃ m, W 0 m [] (upd H1 D (.lst []))) ∧ ∀ i m ys H2, W i m ys H2 → H2 D = some (.lst ys) ∧
      (((Itr 0 n).stop i H2 ∧ QD H2) ∨ ((Itr 0 n).go i H2 ∧ ∀ x H3, (Itr 0 n).yld i H2 x H3 → ∀ pre : St, pre.length = 1 → gName 0 x (pre ++ [some (.ref a), some (.ref t)]) H3 fun σ4 H4 => (∃ pre' : St, pre'.length = 1 ∧ σ4 = pre' ++ [some (.ref a), some (.ref t)]) ∧
        tTrue σ4 H4 fun b H5 => if b = true then te σ4 H5 (fun y H6 => H6 D = some (.lst ys) ∧ ys.length < sizeLine ∧ ∃ m', m' < m ∧ W (i + 1) m' (ys ++ [y]) (upd H6 D (.lst (ys ++ [y])))) else ∃ m', m' < m ∧ W (i + 1) m' ys H5)) := by
  have hDt : D ≠ t := (ne_of_none hT hD).symm
  refine compF_drw (J := Itr 0 n) (n := n) (fr := [some (.ref a), some (.ref t)]) D (fun _ _ => True)
    (fun j ys H' => ∃ (ts : List Str) (zs' : List V), ys = ts.map V.str ∧ ts.length = j ∧ (∀ z ∈ ts, z ∈ L) ∧ H' t = some (.lst zs') ∧ zs'.length = zs.length + j ∧ Stp t H1 H') (bigl _ (by omega))
    (fun i H' h => h) (fun i H' x H'' _ y => ⟨y.1, trivial⟩) (fun H' => Nat.le_refl _)
    ⟨[], zs, rfl, rfl, (fun z hz => by cases hz), by rw [upd_ne hDt.symm]; exact hT, rfl, (Same.new hD _).stp⟩ ?_ ?_
  · rintro j x ys H2 R hj _ ⟨ts, zs', rfl, hl, hL, hT2, hl2, st2⟩ hD2 hR
    refine hte x H2 _ zs' (hS.stp hT st2) hT2 (by omega) fun z H3 hz hT3 st3 => ?_
    refine hR _ _ (st3 _ _ hDt hD2) ⟨ts ++ [z], _, by rw [List.map_append]; rfl, by rw [List.length_append, hl]; rfl, fun y hy => ?_, by rw [upd_ne hDt.symm]; exact hT3, by rw [List.length_append, hl2]; rfl, fun b o hb e => ?_⟩
    · rcases List.mem_append.mp hy with hy | hy
      · exact hL y hy
      · rw [List.mem_singleton.mp hy]; exact hz
    · rw [upd_ne (ne_of_none e hD)]
      exact (st2.trans st3) b o hb e
  · rintro ys H2 ⟨ts, zs', rfl, hl, hL, hT2, hl2, st2⟩ hD2
    exact hd ts zs' H2 hl hL hT2 hl2 st2 hD2
end Co
namespace RI
open PySem PySem.Spec PyProof.Rows
abbrev It (h : Heap) (it d : Addr) (x0 : Value) (f : Bool) (i n ep : Nat) (ok ov : Value) : Prop := h.get? it = some { cls := .type "dict_itemiterator", dict := none, data := .fields #[x0, .bool f, .ref d, .int i 0, .int n 0, .int ep 0, ok, ov], slots := #[] }
def St (h : Heap) (it d S : Addr) (i n ep : Nat) : Prop := ∃ x0 f ok ov, It h it d x0 f i n ep ok ov ∧ ((x0 = .none ∧ f = false) ∨ ∃ (a : Addr) (oa : Obj), x0 = rawInt a ∧ h.get? a = some oa ∧ a ≠ it ∧ a ≠ S)
theorem St.keep {h h' : Heap} {it d S : Addr} {i n ep : Nat} (x : St h it d S i n ep) (hk : ∀ b o, b ≠ S → h.get? b = some o → h'.get? b = some o) (hI : it ≠ S) : St h' it d S i n ep := by
  obtain ⟨x0, f, ok, ov, hit, hx⟩ := x
  refine ⟨x0, f, ok, ov, hk _ _ hI hit, ?_⟩
  rcases hx with hx | ⟨a, oa, e, ha, h1, h2⟩
  · exact .inl hx
  · exact .inr ⟨a, oa, e, hk _ _ h2 ha, h1, h2⟩
section
variable {prog : Program} {w : World} {A : Around} {E : Value → Shared → Prop} {s : Shared}
abbrev pr (e : DictEntry) : Obj := { cls := .type "tuple", data := .seq #[e.key, e.val] }
theorem item {it d S : Addr} {i ep : Nat} {od : Obj} {es : Array DictEntry} {Q : Option Value → Shared → Prop} (hst : St s.heap it d S i es.size ep) (hS : S < s.heap.objs.size) (hod : s.heap.get? d = some od) (hdd : od.data = .dict es ep) (hlt : i < es.size)
    (hQ : ∀ h', St h' it d S (i + 1) es.size ep → h'.get? s.heap.objs.size = some (pr es[i]) → h'.objs.size = s.heap.objs.size + 1 → (∀ b o, b ≠ it → s.heap.get? b = some o → h'.get? b = some o) → Q (some (.ref s.heap.objs.size)) { s with heap := h' }) :
    wpAny (model prog w) A (pyNext (.ref it)) Q E s := by
  obtain ⟨x0, f, ok, ov, hit, hx0⟩ := hst
  obtain ⟨hp, g, dr, tk, os⟩ := s
  have T0 : Shared.TypeIs ⟨hp, g, dr, tk, os⟩ (.ref it) "dict_itemiterator" := ⟨_, hit, rfl⟩
  unfold pyNext; refine wpAny_bind (wpAny_attempt (wpAny_callSpecial?_slot (name := Str.ofString "__next__") T0 F.slot_dict_itemiterator_next (wpAny_call_entry F.slot_dict_itemiterator_next T0 F.entry_dict_itemiterator_next ?_ (F.args_dict_itemiterator_next_1 _))))
  refine wpAny_bind (wpAny_pure (wpAny_bind (wpAny_bind ?_))); first | refine wpAny_bind (wpAny_typeNameOfWhole_itemiter T0 (wpAny_pure ?_)) | refine wpAny_bind (wpAny_typeNameOf_itemiter T0 (wpAny_pure ?_))
  refine wpAny_bind (wpAny_fieldsOf hit rfl ?_); have own1 : Builtin.Dict_items.ownsTuple "dict_itemiterator" = true := by decide
  simp only [own1, if_true]; show wpAny _ _ (if (Value.ref d == Value.none) = true then _ else _) _ _ _; rw [if_neg (show ¬ ((Value.ref d == Value.none) = true) from Bool.false_ne_true)]
  refine wpAny_bind (wpAny_pure (wpAny_bind (wpAny_dictEntries hod hdd ?_))); rw [if_neg (by simp)]
  refine wpAny_bind (wpAny_pure (wpAny_bind (wpAny_dictEpoch hod hdd ?_))); rw [if_neg (by simp)]; refine wpAny_pure ?_
  simp only [show ¬ ((i : Int) < 0) from by omega, if_false, Int.toNat_natCast, Array.getElem?_eq_getElem hlt]
  refine wpAny_bind ?_; first | refine wpAny_bind (wpAny_typeNameOfWhole_itemiter T0 (wpAny_pure ?_)) | refine wpAny_bind (wpAny_typeNameOf_itemiter T0 (wpAny_pure ?_))
  refine wpAny_bind (wpAny_isOneOf_itemiter T0 ?_); show wpAny _ _ (setField (.ref it) 3 (rawInt ((i : Int) + 1)) >>= _) _ _ ⟨hp, g, dr, tk, os⟩
  refine wpAny_bind (wpAny_setField_rec hit (by simp) fun h1 he1 hs1 => ?_); replace hs1 : Heap.SameBut it hp h1 := hs1
  replace he1 : It h1 it d x0 f (i + 1) es.size ep ok ov := by
    have e : ((i + 1 : Nat) : Int) = (i : Int) + 1 := by omega
    unfold It; rw [e]; simpa [rawInt] using he1
  have T1 : Shared.TypeIs ⟨h1, g, dr, tk, os⟩ (.ref it) "dict_itemiterator" := ⟨_, he1, rfl⟩
  refine wpAny_bind (wpAny_holding (wpAny_bind (wpAny_isOneOf_itemiter T1 (wpAny_bind (wpAny_isOneOf_itemiter T1 ?_)))))
  show wpAny _ _ (Builtin.Dict_items.pairFromOwner (.ref it) 6 es[i].key es[i].val) _ _ ⟨h1, g, dr, tk, os⟩; unfold Builtin.Dict_items.pairFromOwner
  refine wpAny_bind (wpAny_newTuple ?_); have he2 : It (h1.push (pr es[i])) it d x0 f (i + 1) es.size ep ok ov := Heap.get?_push_of_some _ he1
  generalize hh2 : h1.push { cls := .type "tuple", data := .seq #[es[i].key, es[i].val] } = h2 at he2
  have hz1 : h1.objs.size = hp.objs.size := hs1.1
  have hil : it < hp.objs.size := Heap.lt_size hit
  have ht2 : h2.get? hp.objs.size = some (pr es[i]) := by rw [← hh2, ← hz1]; exact Heap.get?_push_size _ rfl
  have hz2 : h2.objs.size = hp.objs.size + 1 := by rw [← hh2, Heap.size_push, hz1]
  have hk2 : ∀ b o, b ≠ it → hp.get? b = some o → h2.get? b = some o := fun b o hb e => by rw [← hh2]; exact Heap.get?_push_of_some _ (hs1.extBut b o hb e)
  show wpAny _ _ (Builtin.Dict_items.ownedTupleIsFree (.ref it) >>= _) _ _ ⟨h2, g, dr, tk, os⟩
  rw [hz1]; clear hh2 he1 hs1 T1 hz1 h1
  refine wpAny_bind ?_; unfold Builtin.Dict_items.ownedTupleIsFree
  rcases hx0 with ⟨rfl, rfl⟩ | ⟨a, oa, rfl, ha, hai, haS⟩
  · refine wpAny_bind (wpAny_field he2 rfl (x := .none) rfl (wpAny_pure ?_)); simp only [if_true]
    refine wpAny_bind (wpAny_field he2 rfl (x := ok) rfl (wpAny_bind (wpAny_field he2 rfl (x := ov) rfl ?_)))
    refine wpAny_bind (wpAny_setField_rec he2 (by simp) fun h3 he3 hs3 => ?_); replace hs3 : Heap.SameBut it h2 h3 := hs3
    replace he3 : It h3 it d .none false (i + 1) es.size ep es[i].key ov := he3
    refine wpAny_bind (wpAny_setField_rec he3 (by simp) fun h4 he4 hs4 => ?_); replace hs4 : Heap.SameBut it h3 h4 := hs4
    replace he4 : It h4 it d .none false (i + 1) es.size ep es[i].key es[i].val := he4
    refine wpAny_bind (wpAny_setField_rec he4 (by simp) fun h5 he5 hs5 => ?_); replace hs5 : Heap.SameBut it h4 h5 := hs5
    replace he5 : It h5 it d (rawInt hp.objs.size) false (i + 1) es.size ep es[i].key es[i].val := he5
    refine wpAny_bind (wpAny_setField_rec he5 (by simp) fun h6 he6 hs6 => ?_); replace hs6 : Heap.SameBut it h5 h6 := hs6
    replace he6 : It h6 it d (rawInt hp.objs.size) false (i + 1) es.size ep es[i].key es[i].val := he6
    have up : ∀ b o, b ≠ it → h2.get? b = some o → h6.get? b = some o := fun b o hb e => hs6.extBut b o hb (hs5.extBut b o hb (hs4.extBut b o hb (hs3.extBut b o hb e)))
    have ht6 := up _ _ (Nat.ne_of_gt hil) ht2
    exact wpAny_bind (wpAny_letGo (wpAny_pure (wpAny_pure ⟨_, rfl, wpAny_pure (hQ h6 ⟨_, _, _, _, he6, .inr ⟨_, _, rfl, ht6, Nat.ne_of_gt hil, Nat.ne_of_gt hS⟩⟩ ht6 (by show h6.objs.size = _; rw [hs6.1, hs5.1, hs4.1, hs3.1, hz2]) fun b o hb e => up b o hb (hk2 b o hb e))⟩)))
  · have ha2 : h2.get? a = some oa := hk2 a oa hai ha
    refine wpAny_bind (wpAny_field he2 rfl (x := rawInt a) rfl ?_); show wpAny _ _ (loadIfAlive ((a : Int).toNat) >>= _) _ _ _; rw [Int.toNat_natCast]
    refine wpAny_bind (PySem.W.kdx_alive ha2 ?_); simp only [Option.isNone_some, Bool.false_eq_true, if_false]; refine wpAny_bind (wpAny_field he2 rfl (x := .bool f) rfl ?_)
    have fin : ∀ h3 : Heap, It h3 it d (rawInt a) true (i + 1) es.size ep ok ov → Heap.SameBut it h2 h3 → Q (some (.ref hp.objs.size)) ⟨h3, g, dr, tk, os⟩ := fun h3 he3 hs3 =>
      hQ h3 ⟨_, _, _, _, he3, .inr ⟨a, oa, rfl, hs3.extBut _ _ hai ha2, hai, haS⟩⟩ (hs3.extBut _ _ (Nat.ne_of_gt hil) ht2) (by show h3.objs.size = hp.objs.size + 1; rw [hs3.1, hz2]) fun b o hb e => hs3.extBut b o hb (hk2 b o hb e)
    cases f with
    | true => rw [if_neg (show ¬ ((Value.bool true != Value.bool true) = true) from Bool.false_ne_true)]; refine wpAny_pure ?_; simp only [Bool.false_eq_true, if_false]; exact wpAny_pure (wpAny_pure ⟨_, rfl, wpAny_pure (fin h2 he2 (Heap.SameBut.refl _ _))⟩)
    | false =>
      rw [if_pos (show (Value.bool false != Value.bool true) = true from rfl)]; refine wpAny_bind (wpAny_setField_rec he2 (by simp) fun h3 he3 hs3 => ?_)
      replace hs3 : Heap.SameBut it h2 h3 := hs3
      replace he3 : It h3 it d (rawInt a) true (i + 1) es.size ep ok ov := he3
      refine wpAny_pure ?_; simp only [Bool.false_eq_true, if_false]; exact wpAny_pure (wpAny_pure ⟨_, rfl, wpAny_pure (fin h3 he3 hs3)⟩)
theorem done {it d S : Addr} {i ep : Nat} {od : Obj} {es : Array DictEntry} {Q : Option Value → Shared → Prop} (hh : A.handled = none) (hst : St s.heap it d S i es.size ep) (hod : s.heap.get? d = some od) (hdd : od.data = .dict es ep) (hge : es.size ≤ i)
    (hQ : ∀ h', Heap.ExtBut it s.heap h' → Q none { s with heap := h' }) : wpAny (model prog w) A (pyNext (.ref it)) Q E s := by
  obtain ⟨x0, f, ok, ov, hit, _⟩ := hst
  have T0 : s.TypeIs (.ref it) "dict_itemiterator" := ⟨_, hit, rfl⟩
  unfold pyNext; refine wpAny_bind (wpAny_attempt (wpAny_callSpecial?_slot (name := Str.ofString "__next__") T0 F.slot_dict_itemiterator_next (wpAny_call_entry F.slot_dict_itemiterator_next T0 F.entry_dict_itemiterator_next ?_ (F.args_dict_itemiterator_next_1 _))))
  refine wpAny_bind (wpAny_pure (wpAny_bind (wpAny_bind ?_))); first | refine wpAny_bind (wpAny_typeNameOfWhole_itemiter T0 (wpAny_pure ?_)) | refine wpAny_bind (wpAny_typeNameOf_itemiter T0 (wpAny_pure ?_))
  refine wpAny_bind (wpAny_fieldsOf hit rfl ?_); have own1 : Builtin.Dict_items.ownsTuple "dict_itemiterator" = true := by decide
  simp only [own1, if_true]; show wpAny _ _ (if (Value.ref d == Value.none) = true then _ else _) _ _ s; rw [if_neg (show ¬ ((Value.ref d == Value.none) = true) from Bool.false_ne_true)]
  refine wpAny_bind (wpAny_pure (wpAny_bind (wpAny_dictEntries hod hdd ?_))); rw [if_neg (by simp)]
  refine wpAny_bind (wpAny_pure (wpAny_bind (wpAny_dictEpoch hod hdd ?_))); rw [if_neg (by simp)]; refine wpAny_pure ?_
  simp only [show ¬ ((i : Int) < 0) from by omega, if_false, Int.toNat_natCast, Array.getElem?_eq_none hge]
  refine wpAny_bind ?_; first | refine wpAny_bind (wpAny_typeNameOfWhole_itemiter T0 (wpAny_pure ?_)) | refine wpAny_bind (wpAny_typeNameOf_itemiter T0 (wpAny_pure ?_))
  show wpAny _ _ (setField (.ref it) 2 .none >>= _) _ _ s; refine wpAny_bind (wpAny_setField hit rfl (by simp) ?_)
  show wpAny _ _ (newExc (.type "StopIteration") [] >>= _) _ _ _; refine wpAny_bind ?_; simp only [newExc, newTuple]; refine wpAny_bind (wpAny_newObj_type ?_ (by size_fits))
  refine wpAny_bind (m := firstArgMember _ _) (wpAny_of_eq (a := Value.none) (by first | rfl | (simp only [firstArgMember]; rfl)) (wpAny_newObj_type ?_ (by size_fits))); simp only [raiseNew]
  refine wpAny_bind (wpAny_handled ?_); rw [show A.in1.handled = none from hh]; refine wpAny_bind (wpAny_pure (wpAny_throw ?_))
  refine wpAny_bind (wpAny_isInstance (T := "StopIteration") (b := true) ⟨_, Heap.get?_push_size _ rfl, rfl⟩ isSubtype_stop ?_); exact wpAny_pure (hQ _ (((Heap.SameBut.update ..).extBut.push _).push _))
structure G (es : Array DictEntry) (lo : Addr) (h : Heap) (as : List Addr) : Prop where
  rise : as.Pairwise (· < ·)
  above : ∀ a ∈ as, lo < a
  pairs : ∀ (j : Nat) (a : Addr), as[j]? = some a → ∃ e, es[j]? = some e ∧ h.get? a = some (pr e)
theorem loop {R : Result → Shared → Prop} {S I d : Addr} {od : Obj} {es : Array DictEntry} {ep : Nat} (hh : A.handled = none) (hSI : S < I) (hSd : d ≠ S) (hId : d ≠ I) (hdd : od.data = .dict es ep) (hn : es.size ≤ sizeLine) (res : Value) {h1 : Heap}
    (hR : ∀ h' tk acc c as, (∀ b o, b ≠ S → b ≠ I → h1.get? b = some o → h'.get? b = some o) → h'.get? S = some { cls := .type "list", dict := none, data := .seq acc c, slots := #[] } → as.length = es.size → G es I h' as → acc.toList = as.map Value.ref → R (.ok (.ret res)) { s with heap := h', toks := tk }) :
    ∀ (k i : Nat) (h : Heap) (tk c : Nat) (acc : Array Value) (as : List Addr), es.size - i = k → i ≤ es.size → St h I d S i es.size ep → h.get? d = some od → (∀ b o, b ≠ S → b ≠ I → h1.get? b = some o → h.get? b = some o) →
      h.get? S = some { cls := .type "list", dict := none, data := .seq acc c, slots := #[] } → acc.toList = as.map Value.ref → as.length = i → G es I h as → I < h.objs.size → codeAny (model prog w) A (.builtin "list.extend.loop" ⟨[.ref S, .ref I, res], []⟩) R { s with heap := h, toks := tk } := by
  have hne : S ≠ I := Nat.ne_of_lt hSI
  intro k
  induction k with
  | zero =>
    intro i h tk c acc as hk hi hst hD hkeep hS hacc hal hG hIs
    refine codeAny_builtin F.entry_extend_loop ?_; rw [Around.under_plainId F.plain_extend_loop _]; show wpAny _ A.in1 (pyNext (.ref I) >>= _) _ _ _
    refine wpAny_bind (done (s := { s with heap := h, toks := tk }) (A := A.in1) hh hst hD hdd (by omega) fun h' he => wpAny_pure (hR h' tk acc c as (fun b o e1 e2 e => he b o e2 (hkeep b o e1 e2 e)) (he S _ hne hS) (by omega) ⟨hG.rise, hG.above, fun j a hj => ?_⟩ hacc))
    obtain ⟨e, e1, e3⟩ := hG.pairs j a hj
    exact ⟨e, e1, he a _ (Nat.ne_of_gt (hG.above a (List.mem_of_getElem? hj))) e3⟩
  | succ k ih =>
    intro i h tk c acc as hk hi hst hD hkeep hS hacc hal hG hIs
    have hlt : i < es.size := by omega
    have hsz : acc.size = i := by rw [← Array.length_toList, hacc, List.length_map, hal]
    have hSl : S < h.objs.size := Heap.lt_size hS
    refine codeAny_builtin F.entry_extend_loop ?_; rw [Around.under_plainId F.plain_extend_loop _]; show wpAny _ A.in1 (pyNext (.ref I) >>= _) _ _ _
    refine wpAny_bind (item (s := { s with heap := h, toks := tk }) (S := S) hst hSl hD hdd hlt fun h' hst' ht hz hkp => ?_); dsimp only at ht hz hkp ⊢
    have hS' := hkp S _ hne hS
    have up : ∀ b o, b ≠ S → h'.get? b = some o → (h'.update S (Obj.mapSeq (·.push (Value.ref h.objs.size)))).get? b = some o := fun b o hb e => (Heap.get?_update_other _ _ (Ne.symm hb)).trans e
    show wpAny _ A.in1 (updateSeq S (·.push (Value.ref h.objs.size)) >>= _) _ _ _; refine wpAny_bind ?_
    refine wpAny_updateSeq hS' rfl (wpAny_pure ⟨plainId_quiet F.plain_extend_loop _, ih (i + 1) _ tk _ (acc.push (Value.ref h.objs.size)) (as ++ [h.objs.size]) (by omega) hlt (hst'.keep up (Ne.symm hne)) (up d _ hSd (hkp d _ hId hD))
      (fun b o e1 e2 e => up b o e1 (hkp b o e2 (hkeep b o e1 e2 e))) (Heap.get?_update_self _ hS' rfl) (by rw [Array.toList_push, hacc, List.map_append]; rfl) (by rw [List.length_append, hal]; rfl) ⟨?_, ?_, ?_⟩ ?_⟩) (by rw [hsz]; omega) (by show (acc.push (Value.ref h.objs.size)).size ≤ sizeLine + 1; rw [Array.size_push, hsz]; omega)
    · refine List.pairwise_append.mpr ⟨hG.rise, List.pairwise_singleton _ _, fun a ha b hb => ?_⟩; rw [List.mem_singleton.mp hb]
      obtain ⟨j, hj⟩ := List.mem_iff_getElem?.mp ha
      obtain ⟨_, _, e⟩ := hG.pairs j a hj
      exact Heap.lt_size e
    · exact fun a ha => (List.mem_append.mp ha).elim (hG.above a) fun ha => by rw [List.mem_singleton.mp ha]; exact hIs
    · intro j b hj
      rcases Nat.lt_trichotomy j as.length with z | z | z
      · rw [List.getElem?_append_left z] at hj
        obtain ⟨e, e1, e3⟩ := hG.pairs j b hj
        have hb := hG.above b (List.mem_of_getElem? hj)
        exact ⟨e, e1, up b _ (Nat.ne_of_gt (Nat.lt_trans hSI hb)) (hkp b _ (Nat.ne_of_gt hb) e3)⟩
      · subst z
        obtain rfl : h.objs.size = b := by simpa using hj
        exact ⟨es[i], by rw [hal]; exact Array.getElem?_eq_getElem hlt, up _ _ (Nat.ne_of_gt hSl) ht⟩
      · rw [List.getElem?_eq_none (by rw [List.length_append, List.length_singleton]; omega)] at hj; cases hj
    · have e : (h'.update S (Obj.mapSeq (·.push (Value.ref h.objs.size)))).get? h.objs.size = _ := up _ _ (Nat.ne_of_gt hSl) ht
      exact Nat.lt_trans hIs (Heap.lt_size e)
theorem iter {v d : Addr} {od : Obj} {es : Array DictEntry} {ep : Nat} {Q : Value → Shared → Prop} (hv : s.heap.IsItemsView v d) (hod : s.heap.get? d = some od) (hdd : od.data = .dict es ep)
    (hQ : Q (.ref s.heap.objs.size) { s with heap := s.heap.push { cls := .type "dict_itemiterator", data := .fields #[.none, .bool false, .ref d, .int 0 0, .int es.size 0, .int ep 0, .none, .none] } }) : wpAny (model prog w) A (pyIter (.ref v)) Q E s := by
  obtain ⟨ov, hov, _, hdv⟩ := id hv
  refine wpAny_pyIter_slot hv.typeIs F.slot_dict_items_iter (wpAny_call_entry F.slot_dict_items_iter hv.typeIs F.entry_dict_items_iter ?_ (F.args_dict_items_iter_1 _)); unfold Builtin.«dict_items.__iter__»
  refine wpAny_bind (wpAny_pure (wpAny_bind ?_)); unfold Builtin.Dict_items.dictOf; refine wpAny_bind (wpAny_field hov hdv (x := .ref d) rfl (wpAny_pure (wpAny_bind ?_)))
  unfold Builtin.Dict_items.newIterator; refine wpAny_bind (wpAny_dictEntries hod hdd (wpAny_bind (wpAny_dictEpoch hod hdd ?_)))
  have own1 : Builtin.Dict_items.ownsTuple "dict_itemiterator" = true := by decide
  simp only [own1, if_true]
  refine wpAny_newObj_type (wpAny_pure ⟨_, rfl, "dict_itemiterator", _, ⟨_, Heap.get?_push_size _ rfl, rfl⟩, F.slot_dict_itemiterator_next.lookup, ?_⟩) (by simp only [sizeOk, Builtin.Dict_items.ownedTupleFields, List.size_toArray, List.length_append, List.length_cons, List.length_nil, sizeLine_eq]; omega)
  simpa [rawInt, Builtin.Dict_items.ownedTupleFields] using hQ
theorem extend {R : Result → Shared → Prop} {r d : Addr} {od : Obj} {es : Array DictEntry} {ep : Nat} (hh : A.handled = none) (hv : s.heap.IsItemsView r d) (hod : s.heap.get? d = some od) (hdd : od.data = .dict es ep) (S : Addr) (hSr : S ≠ r) (hSd : d ≠ S) (res : Value) (c0 : Nat) (hS : s.heap.get? S = some { cls := .type "list", data := .seq #[] c0 })
    (hR : ∀ h' tk acc c as, (∀ b o, b ≠ S → s.heap.get? b = some o → h'.get? b = some o) → h'.get? S = some { cls := .type "list", dict := none, data := .seq acc c, slots := #[] } → as.length = es.size → G es s.heap.objs.size h' as → acc.toList = as.map Value.ref → R (.ok (.ret res)) { s with heap := h', toks := tk }) (hn : es.size ≤ sizeLine) :
    wpAny (model prog w) A.in1 (Builtin.List.listExtendWith (.ref S) (.ref r) res) (fun fin s' => match fin with | .done f => R (.ok f) s' | .again c' => c'.quiet = true ∧ codeAny (model prog w) A c' R s') (fun e s' => R (.error e) s') s := by
  have hSI : S < s.heap.objs.size := Heap.lt_size hS
  have hdI : d < s.heap.objs.size := Heap.lt_size hod
  have key : ∀ (h : Heap) (c1 tk : Nat), (∀ b o, b ≠ S → (s.heap.push { cls := .type "dict_itemiterator", data := .fields #[.none, .bool false, .ref d, .int 0 0, .int es.size 0, .int ep 0, .none, .none] }).get? b = some o → h.get? b = some o) →
      h.get? S = some { cls := .type "list", data := .seq #[] c1 } → codeAny (model prog w) A (.builtin "list.extend.loop" ⟨[.ref S, .ref s.heap.objs.size, res], []⟩) R { s with heap := h, toks := tk } := by
    intro h c1 tk hk hS1
    have hI := hk s.heap.objs.size _ (Nat.ne_of_gt hSI) (Heap.get?_push_size _ rfl)
    exact loop (s := s) (h1 := s.heap) hh hSI hSd (Nat.ne_of_lt hdI) hdd hn res (fun h' tk' acc c as hk' hS' hl hG hacc => hR h' tk' acc c as (fun b o hb e => hk' b o hb (Nat.ne_of_lt (Heap.lt_size e)) e) hS' hl hG hacc)
      es.size 0 h tk c1 #[] [] (Nat.sub_zero _) (Nat.zero_le _) ⟨.none, false, .none, .none, hI, .inl ⟨rfl, rfl⟩⟩ (hk d _ hSd (Heap.get?_push_of_some _ hod)) (fun b o hb _ e => hk b o hb (Heap.get?_push_of_some _ e)) hS1 rfl rfl ⟨List.Pairwise.nil, (fun _ ha => nomatch ha), (fun j a hj => by simp at hj)⟩ (Heap.lt_size hI)
  unfold Builtin.List.listExtendWith; refine wpAny_bind (wpAny_typeOf (T := "dict_items") hv.typeIs ?_)
  have e1 : Builtin.List.listSameRef (.ref S) (.ref r) = false := by simp [Builtin.List.listSameRef, hSr]
  have e2 : (Value.type "dict_items" == Value.type "list") = false := by decide
  have e3 : (Value.type "dict_items" == Value.type "tuple") = false := by decide
  simp only [e1, e2, e3, Bool.or_false, Bool.false_eq_true, if_false]; refine wpAny_bind (iter hv hod hdd ?_)
  have hS1 := Heap.get?_push_of_some { cls := .type "dict_itemiterator", data := .fields #[.none, .bool false, .ref d, .int 0 0, .int es.size 0, .int ep 0, .none, .none] } hS
  refine wpAny_bind (wpAny_holding (PySem.W.kdx_hint (let ⟨o, ho, hc, _⟩ := hv; ⟨o, Heap.get?_push_of_some _ ho, hc⟩) ?_))
  refine wpAny_ite_split (fun _ => ?_) (fun _ => wpAny_pure ⟨plainId_quiet F.plain_extend_loop _, key _ c0 _ (fun b o _ e => e) hS1⟩)
  refine wpAny_bind (wpAny_rule (wpAny_bind ?_)); show wpAny _ _ (updateSeq S (·.push .none) >>= fun _ => updateSeq S (·.pop)) _ _ _; refine wpAny_bind (wpAny_updateSeq hS1 rfl ?_)
  have hS2 := Heap.get?_update_self (Obj.mapSeq (·.push Value.none)) hS1 rfl
  refine wpAny_updateSeq (hz := by seq_fits) hS2 rfl (wpAny_pure ⟨plainId_quiet F.plain_extend_loop _, key _ _ _ (fun b o hb e => (Heap.get?_update_other _ _ (Ne.symm hb)).trans ((Heap.get?_update_other _ _ (Ne.symm hb)).trans e)) (Heap.get?_update_self (Obj.mapSeq (·.pop)) hS2 rfl)⟩)
theorem collects {R : List Value → Shared → Prop} {r d : Addr} {od : Obj} {es : Array DictEntry} {ep : Nat} (hh : A.handled = none) (hv : s.heap.IsItemsView r d) (hod : s.heap.get? d = some od) (hdd : od.data = .dict es ep) (hn : es.size ≤ sizeLine)
    (h : ∀ (h' : Heap) (tk : Nat) (as : List Addr), (∀ b o, s.heap.get? b = some o → h'.get? b = some o) → as.length = es.size → G es s.heap.objs.size h' as → R (as.map Value.ref) { s with heap := h', toks := tk }) : wpAny (model prog w) A (collect (.ref r)) R E s := by
  have hr : r < s.heap.objs.size := let ⟨_, ho, _⟩ := hv; Heap.lt_size ho
  unfold collect; refine wpAny_bind (wpAny_runValue (codeAny_builtin F.entry_proto_collect ?_)); rw [Around.under_plainId F.plain_proto_collect _]
  show wpAny _ A.in1 (newList [] >>= fun l => again (.builtin "list.__iadd__" ⟨[l, .ref r], []⟩)) _ _ s; refine wpAny_bind (wpAny_newObj_type (wpAny_pure ⟨plainId_quiet F.plain_list_iadd _, codeAny_builtin F.entry_list_iadd ?_⟩))
  rw [Around.under_plainId F.plain_list_iadd _]
  have hS1 : (s.heap.push { cls := .type "list", data := .seq ([] : List Value).toArray }).get? s.heap.objs.size = some { cls := .type "list", data := .seq #[] } := Heap.get?_push_size _ rfl
  show wpAny _ A.in1 (Builtin.List.listExtendWith (.ref s.heap.objs.size) (.ref r) (.ref s.heap.objs.size)) _ _ _
  have key := extend (A := A) (prog := prog) (w := w) (s := { s with heap := s.heap.push { cls := .type "list", data := .seq ([] : List Value).toArray } }) (es := es) (ep := ep) (od := od)
    (R := fun (q : Result) (s' : Shared) => ∃ (h' : Heap) (tk : Nat) (acc' : Array Value) (c' : Nat) (as : List Addr), q = .ok (.ret (.ref s.heap.objs.size)) ∧ s' = { s with heap := h', toks := tk } ∧ (∀ b o, s.heap.get? b = some o → h'.get? b = some o) ∧
      h'.get? s.heap.objs.size = some { cls := .type "list", dict := none, data := .seq acc' c', slots := #[] } ∧ as.length = es.size ∧ G es s.heap.objs.size h' as ∧ acc'.toList = as.map Value.ref)
    hh (let ⟨o, ho, x⟩ := hv; ⟨o, Heap.get?_push_of_some _ ho, x⟩) (Heap.get?_push_of_some _ hod) hdd s.heap.objs.size (Nat.ne_of_gt hr) (Nat.ne_of_lt (Heap.lt_size hod)) (.ref s.heap.objs.size) 0 hS1
    (fun h' tk acc' c' as hk hS' hl hG hacc => ⟨h', tk, acc', c', as, rfl, rfl, (fun b o e => hk b o (Nat.ne_of_lt (Heap.lt_size e)) (Heap.get?_push_of_some _ e)), hS', hl, ⟨hG.rise, (fun a ha => Nat.lt_trans (by show s.heap.objs.size < (s.heap.push _).objs.size; rw [Heap.size_push]; exact Nat.lt_succ_self _) (hG.above a ha)), hG.pairs⟩, hacc⟩) hn
  refine wpAny_mono key (fun fin s' x => ?_) fun e s' x => by obtain ⟨_, _, _, _, _, e', _⟩ := x; cases e'
  cases fin with
  | done f =>
    obtain ⟨h', tk, acc', c', as, e, rfl, hk, hS', hl, hG, hacc⟩ := x
    cases e
    show wpAny _ A (load s.heap.objs.size >>= _) _ _ _; refine wpAny_bind (wpAny_load hS' (wpAny_pure ?_)); show R acc'.toList _
    rw [hacc]; exact h h' tk as hk hl hG
  | again c1 =>
    refine ⟨x.1, codeAny_mono x.2 fun q s2 y => ?_⟩
    obtain ⟨h', tk, acc', c', as, rfl, rfl, hk, hS', hl, hG, hacc⟩ := y
    show wpAny _ A (load s.heap.objs.size >>= _) _ _ _; refine wpAny_bind (wpAny_load hS' (wpAny_pure ?_)); show R acc'.toList _
    rw [hacc]; exact h h' tk as hk hl hG
theorem view {d : Addr} {od : Obj} {Q : Value → Shared → Prop} (lo : (d == sysModules) = false) (hod : s.heap.get? d = some od) (hx : od.ExactDict)
    (hQ : Q (.ref s.heap.objs.size) { s with heap := s.heap.push { cls := .type "dict_items", data := .fields #[.ref d] } }) : wpAny (model prog w) A (call (.builtin "dict.items") [.ref d]) Q E s := by
  have tyD : s.TypeIs (.ref d) "dict" := ⟨od, hod, hx.1⟩
  refine wpAny_call_entry F.slot_dict_items tyD F.entry_dict_items ?_ (F.args_dict_items_1 _); unfold Builtin.«dict.items»; refine wpAny_bind ?_
  unfold Builtin.Dict.noArgs; refine wpAny_bind (wpAny_notOrdered_dict tyD ?_); show wpAny _ _ (pure d) _ _ s; refine wpAny_pure ?_
  show wpAny _ _ (Builtin.Dict.showsAll d >>= _) _ _ s; unfold Builtin.Dict.showsAll; rw [if_neg (by rw [lo]; exact Bool.false_ne_true)]
  exact wpAny_bind (wpAny_pure (wpAny_bind (wpAny_newObj_type (wpAny_pure ⟨_, rfl, hQ⟩))))
end
theorem tuple_new (v d : Addr) (od : Obj) (es : Array DictEntry) (ep : Nat) (hdd : od.data = .dict es ep) (hn : es.size ≤ sizeLine) : Meets (Builtin.«tuple.__new__» ⟨[.type "tuple", .ref v], []⟩) (fun A R s => A.handled = none ∧ s.heap.IsItemsView v d ∧ s.heap.get? d = some od ∧
    ∀ (h' : Heap) (tk : Nat) (as : List Addr), (∀ b o, s.heap.get? b = some o → h'.get? b = some o) → as.length = es.size → G es s.heap.objs.size h' as → R (.ok (.ret (.ref h'.objs.size))) { s with heap := h'.push { cls := .type "tuple", data := .seq (as.map Value.ref).toArray }, toks := tk }) :=
  .of_wp fun prog w A R s h => by
    obtain ⟨hp, g, d', tk, os⟩ := s; obtain ⟨hh, hv, hod, h⟩ := h
    have hsub := sub_tuple_self; have hinit := init_tuple_lookup; have hmh := madeHere_tuple
    obtain ⟨ov, hov, hcv, hdv⟩ := id hv
    have hT : Shared.TypeIs ⟨hp, g, d', tk, os⟩ (.ref v) "dict_items" := ⟨ov, hov, hcv⟩
    wp_walk using wpAny_loadPart' hov, wpAny_typeOf hT, collects (A := A.in1) hh hv hod hdd hn
    intro h' tk' as hk hl hG
    show wpAny _ _ (Builtin.Tuple.tupleExact (as.map Value.ref).toArray >>= fun v => ret v) _ _ _; unfold Builtin.Tuple.tupleExact
    exact wpAny_bind (wpAny_newObj_type (wpAny_pure ⟨_, rfl, h h' tk' as hk hl hG⟩) (by show (as.map Value.ref).toArray.size ≤ sizeLine; simpa [hl] using hn))
theorem tuple_of {prog : Program} {w : World} {A : Around} {E : Value → Shared → Prop} {s : Shared} {v d : Addr} {od : Obj} {es : Array DictEntry} {ep : Nat} {Q : Value → Shared → Prop} (hh : A.handled = none) (hv : s.heap.IsItemsView v d) (hod : s.heap.get? d = some od) (hdd : od.data = .dict es ep) (hn : es.size ≤ sizeLine)
    (h : ∀ (h' : Heap) (tk : Nat) (as : List Addr), (∀ b o, s.heap.get? b = some o → h'.get? b = some o) → as.length = es.size → G es s.heap.objs.size h' as → Q (.ref h'.objs.size) { s with heap := h'.push { cls := .type "tuple", data := .seq (as.map Value.ref).toArray }, toks := tk }) :
    wpAny (model prog w) A (call (.type "tuple") [.ref v]) Q E s :=
  callType_new F.called_tuple (by decide) (F.typeCall_tuple_1 _) (F.newCall_tuple_1 _) (fun obj => F.args_object_init_2 obj _) F.entry_tuple_new (tuple_new v d od es ep hdd hn) ⟨hh, hv, hod, fun h' tk as hk hl hG => ⟨⟨_, Heap.get?_push_size _ rfl, rfl⟩, h h' tk as hk hl hG⟩⟩
end RI
namespace L2
open PySem PySem.Spec PyProof.Rows
def cutHeap (h : Heap) (n : Nat) : Heap := { h with objs := h.objs.extract 0 n }
theorem cut_get {h : Heap} {n b : Nat} (hb : b < n) : (cutHeap h n).get? b = h.get? b := by
  have e : (cutHeap h n).objs[b]? = h.objs[b]? := by
    show (h.objs.extract 0 n)[b]? = _
    rw [Array.getElem?_extract]
    by_cases hs : b < h.objs.size
    · rw [if_pos (by omega), Nat.zero_add]
    · rw [if_neg (by omega), Array.getElem?_eq_none (by omega)]
  unfold Heap.get?
  rw [e]
theorem cut_some {h : Heap} {n b : Nat} {o : Obj} (e : (cutHeap h n).get? b = some o) : b < n := by
  have := Heap.lt_size e
  have e2 : (cutHeap h n).objs.size ≤ n := by show (h.objs.extract 0 n).size ≤ n; rw [Array.size_extract]; omega
  exact Nat.lt_of_lt_of_le this e2
theorem cut_size {h : Heap} {n : Nat} : (cutHeap h n).objs.size ≤ n := by show (h.objs.extract 0 n).size ≤ n; rw [Array.size_extract]; omega
section
variable {X : Cx}
theorem Inv.tupsAll {pins : List (Addr × Obj)} {σ : St} {h' : Heap} : ∀ (ps : List (Addr × List V × List Value)) {s : Shared} {H : Hp}, Inv X pins σ H s → (∀ b o, s.heap.get? b = some o → h'.get? b = some o) → (ps.map (·.1)).Pairwise (· < ·) → (∀ p ∈ ps, s.heap.objs.size ≤ p.1) →
    (∀ p ∈ ps, p.2.1.length ≤ sizeLine ∧ Vals p.2.1 p.2.2 ∧ h'.get? p.1 = some { cls := .type "tuple", data := .seq p.2.2.toArray }) → ∃ H', Same H H' ∧ (∀ p ∈ ps, H' p.1 = some (.tup p.2.1)) ∧ Inv X pins σ H' { s with heap := h' }
  | [], s, H, I, k, _, _, _ => ⟨H, Same.refl _, (fun p hp => nomatch hp), I.kept (t' := s.toks) k⟩
  | p :: ps, s, H, I, k, hs, hl, hp => by
    rw [List.map_cons, List.pairwise_cons] at hs
    obtain ⟨hz, hv, hg⟩ := hp p (List.mem_cons_self ..)
    have hlp := hl p (List.mem_cons_self ..)
    have k1 : ∀ b o, s.heap.get? b = some o → (cutHeap h' (p.1 + 1)).get? b = some o := fun b o e => by
      rw [cut_get (Nat.lt_succ_of_lt (Nat.lt_of_lt_of_le (Heap.lt_size e) hlp))]
      exact k b o e
    have hg1 : (cutHeap h' (p.1 + 1)).get? p.1 = some { cls := .type "tuple", data := .seq p.2.2.toArray } := by rw [cut_get (Nat.lt_succ_self _)]; exact hg
    have I1 := I.laid (t' := s.toks) (o := .tup p.2.1) k1 hlp ⟨hz, p.2.2, hv, ⟨⟨_, hg1, rfl, _, rfl⟩, _, hg1, rfl⟩⟩
    have nH : H p.1 = none := I.hok.fresh hlp
    obtain ⟨H', s1, hall, I2⟩ := Inv.tupsAll ps I1 (fun b o e => by rw [cut_get (cut_some e)] at e; exact e) hs.2 (fun q hq => Nat.le_trans cut_size (Nat.succ_le_of_lt (hs.1 q.1 (List.mem_map.mpr ⟨q, hq, rfl⟩)))) fun q hq => hp q (List.mem_cons_of_mem _ hq)
    refine ⟨H', (Same.new nH _).trans s1, fun q hq => ?_, I2⟩
    rcases List.mem_cons.mp hq with rfl | hq
    · exact s1 _ _ upd_same
    · exact hall q hq
abbrev It4 := Addr × Addr × List Key × V
def tItems (to : TE) : TE := fun σ H Q => to σ H fun x H1 => ∃ d kvs, x = .ref d ∧ H1 d = some (.dT kvs) ∧ ∀ l (as : List It4) H', Same H1 H' → H' l = some (.tup (as.map fun r => V.ref r.1)) → as.map (fun r => r.2.2) = kvs → (∀ r ∈ as, H' r.1 = some (.tup [.ref r.2.1, r.2.2.2]) ∧ H' r.2.1 = some (.tup (r.2.2.1.map kV))) → Q (.ref l) H'
theorem kt_get {H : Hp} : ∀ {kvs : List (List Key × V)} {xs : List (List Key × Addr × Value)}, KT H kvs xs → kvs.length = xs.length ∧ ∀ (j : Nat) p x, kvs[j]? = some p → xs[j]? = some x → p.1 = x.1 ∧ H x.2.1 = some (.tup (p.1.map kV)) ∧ RelV p.2 x.2.2
  | [], [], .nil => ⟨rfl, fun j p x e => by simp at e⟩
  | _ :: _, _ :: _, .cons h r => by
    obtain ⟨i1, i2⟩ := kt_get r
    refine ⟨by rw [List.length_cons, List.length_cons, i1], fun j p x e1 e2 => ?_⟩
    cases j with
    | zero =>
      obtain rfl : _ = p := by simpa using e1
      obtain rfl : _ = x := by simpa using e2
      exact h
    | succ j => exact i2 j p x (by simpa using e1) (by simpa using e2)
variable {o : Expr} {to : TE} {p pos apos cpos : Pos}
theorem pe_tupItems (hc : X.calm = true) (hg : Gl X "tuple") (hm : X.mg "tuple" = none) (ho : PE X o to) (hbase : attributeBase o "items" X.env (eval o X.env) = eval o X.env := by rfl) (hline : (apos.endLine == cpos.line) = true := by rfl)
    (he : starEach [Expr.Call (.Attribute o "items" apos) [] [] cpos] X.env = [(false, eval (Expr.Call (.Attribute o "items" apos) [] [] cpos) X.env)] := by rfl) :
    PE X (.Call (.Name "tuple" p) [.Call (.Attribute o "items" apos) [] [] cpos] [] pos) (tItems to) := by
  intro pins s σ H Q I h
  refine wpAny_Call_Name_kw (ld_blt I hg hm (u := .type "tuple") rfl ?_ (by decide) (by decide))
  refine PyProof.Rows.callWith_type1 (e := Expr.Call (.Attribute o "items" apos) [] [] cpos) (rest := []) ?_ he rfl
  rw [he]
  refine Calls.spliced_cons ?_
  refine wpAny_Call_method0_late hbase hline (thn (ho pins s σ H _ I h) fun u s1 ⟨x, H1, I1, r1, d, kvs, ex, hd, q⟩ => ?_)
  subst ex
  cases r1
  obtain ⟨hzk, lo, ys, kt, ob, es, ep, hob, hx, hdd, hes, hin, hnd⟩ := dt_of I1.hok hd
  refine ⟨"dict", "dict.items", PySem.F.plainAttrs_dict, PySem.F.slot_dict_items, PySem.F.type_dict_items, ⟨ob, hob, hx.1⟩, (fun a e => by cases e; exact ⟨ob, hob, hx.2.1⟩), Calls.callWith_builtin rfl (PySem.evalArgs_none ?_)⟩
  refine RI.view lo hob hx ?_
  refine Calls.spliced_nil ?_
  have I2 : Inv X pins σ H1 { s1 with heap := s1.heap.push { cls := .type "dict_items", data := .fields #[.ref d] } } := I1.kept (t' := s1.toks) fun b o e => Heap.get?_push_of_some _ e
  have hsz : es.size = ys.length := by have := congrArg List.length hes; rw [Array.length_toList, List.length_map] at this; exact this
  obtain ⟨kl, kg⟩ := kt_get kt
  refine RI.tuple_of (I.ok.hd hc) ⟨_, Heap.get?_push_size _ rfl, rfl, rfl⟩ (Heap.get?_push_of_some _ hob) hdd (by omega) fun h' tk as hk hl hG => ?_
  -- the pairs, one by one
  have hes' : ∀ (j : Nat) y, ys[j]? = some y → es[j]? = some (entryOfKey (tupleKind (mixKind X.prog X.w)) y) := fun j y e => by rw [← Array.getElem?_toList, hes, List.getElem?_map, e]; rfl
  let ps : List (It4 × Value) := (as.zip (ys.zip kvs)).map fun q => ((q.1, q.2.1.2.1, q.2.2), q.2.1.2.2)
  have lps : ps.length = as.length := by simp only [ps, List.length_map, List.length_zip]; omega
  have eas : ps.map (·.1.1) = as := by
    simp only [ps, List.map_map]
    exact List.map_fst_zip (by rw [List.length_zip]; omega)
  have ekv : ps.map (·.1.2.2) = kvs := by
    simp only [ps, List.map_map]
    have e1 : ((as.zip (ys.zip kvs)).map (·.2)) = ys.zip kvs := List.map_snd_zip (by rw [List.length_zip]; omega)
    have e2 : (ys.zip kvs).map (·.2) = kvs := List.map_snd_zip (by omega)
    have e3 : ((as.zip (ys.zip kvs)).map (·.2)).map (·.2) = kvs := by rw [e1, e2]
    rw [List.map_map] at e3
    exact e3
  have hps : ∀ q ∈ ps, h'.get? q.1.1 = some { cls := .type "tuple", data := .seq #[.ref q.1.2.1, q.2] } ∧ H1 q.1.2.1 = some (.tup (q.1.2.2.1.map kV)) ∧ RelV q.1.2.2.2 q.2 := fun q hq => by
    obtain ⟨⟨a, y, kv⟩, hm', rfl⟩ := List.mem_map.mp hq
    obtain ⟨j, hj⟩ := List.mem_iff_getElem?.mp hm'
    rw [List.getElem?_zip_eq_some, List.getElem?_zip_eq_some] at hj
    obtain ⟨e, ee, eg⟩ := hG.pairs j a hj.1
    rw [hes' j y hj.2.1] at ee
    obtain rfl := Option.some.inj ee
    obtain ⟨k1, k2, k3⟩ := kg j kv y hj.2.2 hj.2.1
    exact ⟨eg, k2, k3⟩
  obtain ⟨H', s3, hall, I3⟩ := Inv.tupsAll (h' := h') (ps.map fun q => (q.1.1, [V.ref q.1.2.1, q.1.2.2.2], [Value.ref q.1.2.1, q.2])) I2 hk (by rw [List.map_map]; exact eas.symm ▸ hG.rise) (fun z hz' => by
      obtain ⟨q, hq, rfl⟩ := List.mem_map.mp hz'
      exact Nat.le_of_lt (hG.above q.1.1 (by rw [← eas]; exact List.mem_map.mpr ⟨q, hq, rfl⟩))) (fun z hz' => by
      obtain ⟨q, hq, rfl⟩ := List.mem_map.mp hz'
      exact ⟨by show 2 ≤ sizeLine; rw [sizeLine_eq]; decide, .cons rfl (.cons (hps q hq).2.2 .nil), (hps q hq).1⟩)
  have rv : Vals (as.map V.ref) (as.map Value.ref) := by
    clear hl hG lps eas ekv hps hall
    induction as with
    | nil => exact .nil
    | cons y ys ih => exact .cons rfl ih
  have I4 := I3.laid (t' := tk) (o := .tup (as.map V.ref)) (fun b o e => Heap.get?_push_of_some _ e) (Nat.le_refl _) (show ObjOk X.prog X.w _ _ _ (.tup (as.map V.ref)) from ⟨by rw [List.length_map]; omega, _, rv, IsTupN.new _ _⟩)
  have nB : H' h'.objs.size = none := I3.hok.fresh (Nat.le_refl _)
  have s4 := Same.new nB (.tup (as.map V.ref))
  refine ⟨.ref h'.objs.size, _, I4, rfl, q _ (ps.map (·.1)) _ (s3.trans s4) ?_ (by rw [List.map_map]; exact ekv) fun r hr => ?_⟩
  · rw [upd_same, List.map_map, ← eas, List.map_map]
    rfl
  · obtain ⟨q', hq', rfl⟩ := List.mem_map.mp hr
    exact ⟨s4 _ _ (hall _ (List.mem_map.mpr ⟨q', hq', rfl⟩)), s4 _ _ (s3 _ _ (hps q' hq').2.1)⟩
end
end L2
namespace HS
open PySem PySem.W PySem.Spec PySem.F PySem.Calls PyProof.Rows
section
variable {prog : Program} {w : World} {A : Around} {E : Value → Shared → Prop} {s : Shared}
theorem eqBool_same {a : Addr} {Q : Bool → Shared → Prop} (h : Q true s) : wpAny (model prog w) A (eqBool (.ref a) (.ref a)) Q E s := by
  unfold eqBool
  refine wpAny_holding ?_
  rw [if_pos (by simp)]
  exact wpAny_bind (wpAny_rule (wpAny_pure h))
def TupI (h : Heap) (v : Value) (x : Int × Addr × Addr) : Prop := ∃ a o t n, v = Value.ref a ∧ h.get? a = some o ∧ o.cls = .type "tuple" ∧ o.data = .seq #[.int x.1 t, .ref x.2.1, .ref x.2.2] n
theorem TupI.keep {h h' : Heap} (k : ∀ b o, h.get? b = some o → h'.get? b = some o) {v : Value} {x : Int × Addr × Addr} (z : TupI h v x) : TupI h' v x := let ⟨a, o, t, n, e, ho, r⟩ := z; ⟨a, o, t, n, e, k a o ho, r⟩
inductive TupsI (h : Heap) : List Value → List (Int × Addr × Addr) → Prop where
  | nil : TupsI h [] []
  | cons {v : Value} {x : Int × Addr × Addr} {vs : List Value} {xs : List (Int × Addr × Addr)} : TupI h v x → TupsI h vs xs → TupsI h (v :: vs) (x :: xs)
theorem TupsI.keep {h h' : Heap} (k : ∀ b o, h.get? b = some o → h'.get? b = some o) {vs : List Value} {xs : List (Int × Addr × Addr)} (x : TupsI h vs xs) : TupsI h' vs xs := by
  induction x with
  | nil => exact .nil
  | cons t _ ih => exact .cons (t.keep k) ih
theorem TupsI.at {h : Heap} {vs : List Value} {xs : List (Int × Addr × Addr)} (x : TupsI h vs xs) : vs.length = xs.length ∧ ∀ i, i < vs.length → TupI h (vs.getD i Value.none) (xs.getD i (0, 0, 0)) := by
  induction x with
  | nil => exact ⟨rfl, fun i hi => by simp at hi⟩
  | cons t _ ih =>
    refine ⟨by rw [List.length_cons, List.length_cons, ih.1], fun i hi => ?_⟩
    cases i with
    | zero => exact t
    | succ i => exact ih.2 i (by simpa using hi)
theorem TupsI.kat {h : Heap} {vs : List Value} {xs : List (Int × Addr × Addr)} (x : TupsI h vs xs) : ∃ fs : List Value, KatTups h vs fs ∧ fs.length = vs.length ∧ ∀ f ∈ fs, ∃ y t, f = Value.int y t := by
  induction x with
  | nil => exact ⟨[], KatTups.nil, rfl, by simp⟩
  | cons t _ ih =>
    obtain ⟨fs, k, hl, hf⟩ := ih
    obtain ⟨a, o, tk, n, rfl, ho, hc, hd⟩ := t
    refine ⟨_ :: fs, KatTups.cons ho hc hd rfl k, by rw [List.length_cons, List.length_cons, hl], fun f hf' => ?_⟩
    rcases List.mem_cons.mp hf' with rfl | hf'
    · exact ⟨_, tk, rfl⟩
    · exact hf f hf'
def ltI (a b : Int) : Bool := decide (a < b)
theorem asks_int {xs : List (Int × Addr × Addr)} {vs : List Value} (hT : TupsI s.heap vs xs) (hnd : (xs.map (·.1)).Nodup) (h2 : 2 ≤ vs.length) : Asks prog w A ltI (xs.map (·.1)) 0 vs s := by
  obtain ⟨hl, hat⟩ := hT.at
  refine ⟨tuples' true, fun Q E hq => ?_, fun i j C hi hj hC => ?_⟩
  · obtain ⟨fs, k, hfl, hf⟩ := hT.kat
    refine kat_kind (T := Value.type "int") k (by omega) (fun f hm => ?_) rfl ?_
    · obtain ⟨y, t, rfl⟩ := hf f hm
      exact Looks.now
    · have e : (Value.type "int" != Value.type "tuple") = true := by decide
      rw [e]
      exact hq
  · have ei : (xs.map (·.1)).getD i 0 = (xs.getD i (0, 0, 0)).1 := by simp [List.getD_eq_getElem?_getD, List.getElem?_eq_getElem (show i < xs.length by omega)]
    have ej : (xs.map (·.1)).getD j 0 = (xs.getD j (0, 0, 0)).1 := by simp [List.getD_eq_getElem?_getD, List.getElem?_eq_getElem (show j < xs.length by omega)]
    rw [ei, ej] at hC
    obtain ⟨a, o, t1, n, e1, ho, hc, hd⟩ := hat i hi
    obtain ⟨b, o', t2, n', e2, ho', hc', hd'⟩ := hat j hj
    rw [e1, e2]
    refine kat_lt ho hd ho' hd' ?_
    show KatLex prog w A true _ C [((Value.int (xs.getD i (0, 0, 0)).1 t1), (Value.int (xs.getD j (0, 0, 0)).1 t2)), (Value.ref _, Value.ref _), (Value.ref _, Value.ref _)] 0 s
    refine kat_cons (wpAny_eqBool_int ?_)
    by_cases e : i = j
    · subst e
      have hz : ((xs.getD i (0, 0, 0)).1 == (xs.getD i (0, 0, 0)).1) = true := by simp
      rw [hz]
      have hf : ltI (xs.getD i (0, 0, 0)).1 (xs.getD i (0, 0, 0)).1 = false := decide_eq_false (by omega)
      rw [hf] at hC
      refine kat_yes (kat_cons (eqBool_same (kat_yes (kat_cons (eqBool_same (kat_yes (kat_nil ?_)))))))
      exact hC
    · have hne : (xs.getD i (0, 0, 0)).1 ≠ (xs.getD j (0, 0, 0)).1 := fun h => by
        rw [← ei, ← ej] at h
        have hi' : i < (xs.map (·.1)).length := by rw [List.length_map]; omega
        have hj' : j < (xs.map (·.1)).length := by rw [List.length_map]; omega
        rw [List.getD_eq_getElem?_getD, List.getD_eq_getElem?_getD, List.getElem?_eq_getElem hi', List.getElem?_eq_getElem hj'] at h
        exact e ((List.getElem_inj hnd).mp h)
      have hz : ((xs.getD i (0, 0, 0)).1 == (xs.getD j (0, 0, 0)).1) = false := by simpa using hne
      rw [hz]
      exact kat_no (oneLt_int hC)
end
end HS
namespace L2
open PySem PySem.Spec PyProof.Rows
section
variable {X : Cx}
abbrev Ti := Addr × Int × Addr × Addr
theorem tupsI_of {pins : List (Addr × Obj)} {σ : St} {H : Hp} {s : Shared} (I : Inv X pins σ H s) : ∀ {rs : List Ti} {its : List Value}, Vals (rs.map fun r => V.ref r.1) its → (∀ r ∈ rs, SqT X.K H r.1 [.int r.2.1, .ref r.2.2.1, .ref r.2.2.2]) → HS.TupsI s.heap its (rs.map (·.2))
  | [], _, .nil, _ => .nil
  | (b, n, p, q) :: rs, _, .cons e r, h => by
    cases e
    have hq := h (b, n, p, q) (List.mem_cons_self ..)
    obtain ⟨its2, r2, p2, _⟩ := I.tuple hq
    obtain ⟨o, ho, hc, m, hd⟩ := p2
    cases r2 with
    | cons ra rb =>
      obtain ⟨t, rfl⟩ := ra
      cases rb with
      | cons rb rc =>
        cases rb
        cases rc with
        | cons rc rn =>
          cases rc
          cases rn
          exact .cons ⟨b, o, t, m, rfl, ho, hc, hd⟩ (tupsI_of I r fun r hr => h r (List.mem_cons_of_mem _ hr))
theorem call_sortI : CallR X (.builtin "sorted") (fun xs H Q => ∃ a, ∃ rs : List Ti, xs = [.ref a] ∧ SqL X.K H a (rs.map fun r => V.ref r.1) ∧ rs.length < 64 ∧ (∀ r ∈ rs, SqT X.K H r.1 [.int r.2.1, .ref r.2.2.1, .ref r.2.2.2]) ∧ (rs.map (·.2.1)).Nodup ∧
    ∀ l (rs' : List Ti), H l = none → rs'.Perm rs → rs'.Pairwise (fun a b => a.2.1 ≤ b.2.1) → Q (.ref l) (upd H l (.lst (rs'.map fun r => V.ref r.1)))) := by
  intro pins s σ H xs us Q I r h
  obtain ⟨a, rs, rfl, hq, hz, hr, hnd, q⟩ := h
  obtain ⟨u, rfl, ru⟩ := vals1 r
  cases ru
  obtain ⟨its, ri, hcol⟩ := collect_seq (A := X.A.in1) (E := X.xe) I (.inl hq)
  have hl := ri.length
  rw [List.length_map] at hl
  have hT := tupsI_of I ri hr
  have eks : rs.map (·.2.1) = (rs.map (·.2)).map (·.1) := by rw [List.map_map]; rfl
  refine HS.sorted_call (lt := HS.ltI) (fun a b h => ?_) (fun a b c h1 h2 => ?_) (ks := rs.map (·.2.1)) (d := 0) (fun v => v = its) (fun v e => by rw [e, List.length_map]; exact hl) (by rw [List.length_map]; exact hz) (fun Q' h => hcol Q' fun h1 tk k => h its h1 tk rfl k) (fun v e h2 h3 tk k3 => by subst e; rw [eks]; exact HS.asks_int (s := { s with heap := h3, toks := tk }) (hT.keep k3) (by rw [← eks]; exact hnd) h2) fun v p e h1 h' tk ev hO k1 k2 hD => ?_
  · have := of_decide_eq_true h
    exact decide_eq_false (by omega)
  · have h1' := of_decide_eq_false h1
    have h2' := of_decide_eq_false h2
    exact decide_eq_false (by omega)
  subst ev
  have hpm : p.Perm (List.range rs.length) := by have := hO.perm; rw [List.length_map] at this; exact this
  refine sorted_end I ri (by rw [List.length_map]; exact hz) (by rw [List.length_map]; exact hpm) k1 k2 hD fun l nl => ?_
  have ep : (p.map fun i => (rs.map fun r => V.ref r.1).getD i .non) = (p.map fun i => rs.getD i (0, 0, 0, 0)).map fun r => V.ref r.1 := by
    rw [List.map_map]
    refine List.map_congr_left fun i hi => ?_
    have hi' : i < rs.length := List.mem_range.mp (hpm.mem_iff.mp hi)
    simp [hi']
  rw [ep]
  refine q l _ nl (perm_get rs (0, 0, 0, 0) hpm) (List.pairwise_map.mpr (hO.rise.imp_of_mem fun {i j} hi hj z => ?_))
  have hi' : i < rs.length := List.mem_range.mp (hpm.mem_iff.mp hi)
  have hj' : j < rs.length := List.mem_range.mp (hpm.mem_iff.mp hj)
  have z' := of_decide_eq_false z
  simp only [List.getD_eq_getElem?_getD, List.getElem?_map, List.getElem?_eq_getElem hi', List.getElem?_eq_getElem hj', Option.map_some, Option.getD_some] at z' ⊢
  omega
end
end L2
namespace HD
open PySem
section
variable {prog : Program} {w : World} {A : Around} {E : Value → Shared → Prop} {s : Shared} {K : Type} [DecidableEq K] {knd : KeyKind prog w K}
structure StHT (knd : KeyKind prog w K) (h0 : Heap) (its : List Value) (ms : List (List K × Addr × Value)) (a d it : Addr) (i : Nat) (h : Heap) : Prop where
  tup : h.IsTuple a its.toArray
  iter : h.IsTupleIter it a i
  dict : h.DictOfH (tupleKind knd) d (mergedH [] (ms.take i))
  keep : ∀ b o, b ≠ d → b ≠ it → h0.get? b = some o → h.get? b = some o
theorem upd_loopHT {its : List Value} {ms : List (List K × Addr × Value)} {a d it : Addr} {h0 : Heap} {R : Result → Shared → Prop} (hh : A.handled = none) (hu : A.units + 1 < cLine) (hP : PairsAtH knd h0 its ms) (hd : a ≠ d) (hit : a ≠ it) (hdi : d ≠ it) (hz : its.length ≤ 1000)
    (hd0 : h0.get? d = none) (hi0 : h0.get? it = none) (hml : ∀ i, (mergedH [] (ms.take i)).length ≤ 1000)
    (hR : ∀ h tk, h.DictOfH (tupleKind knd) d (mergedH [] ms) → (∀ b o, b ≠ d → b ≠ it → h0.get? b = some o → h.get? b = some o) → R (.ok (.ret .none)) { s with heap := h, toks := tk }) :
    ∀ (m i : Nat) (h : Heap) (tk : Nat), its.length - i = m → i ≤ its.length → StHT knd h0 its ms a d it i h → codeAny (model prog w) A (.builtin "dict.update.loop" ⟨[.ref d, .ref it, rawInt (i : Int), .none], []⟩) R { s with heap := h, toks := tk } := by
  intro m
  induction m with
  | zero =>
    intro i h tk hm hi st
    refine codeAny_builtin entry_loop ?_
    rw [Around.under_plainId plain_loop _]
    show wpAny _ A.in1 (pyNext (.ref it) >>= _) _ _ _
    refine wpAny_bind (wpAny_pyNext_tuple_end hh st.iter st.tup (by simp; omega) fun h' hk' => ?_)
    dsimp only
    refine wpAny_bind (m := Builtin.Dict.addKeywords d []) (wpAny_pure (wpAny_pure (hR h' _ ?_ ?_)))
    · have e : ms.take i = ms := List.take_of_length_le (by have := hP.1; omega)
      have := st.dict
      rw [e] at this
      exact dictH_move this (fun o ho => hk' d o hdi ho) (keys_kept hP.2.2 hd0 hi0 fun b o n1 n2 e => hk' b o n2 (st.keep b o n1 n2 e))
    · intro b o n1 n2 e
      exact hk' b o n2 (st.keep b o n1 n2 e)
  | succ m ih =>
    intro i h tk hm hi st
    refine codeAny_builtin entry_loop ?_
    rw [Around.under_plainId plain_loop _]
    have hlt : i < its.length := by omega
    have hlk : i < ms.length := by have := hP.1; omega
    have hgi : its[i]? = some its[i] := List.getElem?_eq_getElem hlt
    have hgk : ms[i]? = some ms[i] := List.getElem?_eq_getElem hlk
    obtain ⟨b, ob, n, ev, hb, hbc, hbd⟩ := hP.2.1 i _ _ hgi hgk
    have nb1 : b ≠ d := fun z => by rw [z, hd0] at hb; cases hb
    have nb2 : b ≠ it := fun z => by rw [z, hi0] at hb; cases hb
    show wpAny _ A.in1 (pyNext (.ref it) >>= _) _ _ _
    refine wpAny_bind (wpAny_pyNext_tuple_item (x := its[i]) st.iter st.tup (by simp [hlt]) fun h1 hI1 hs1 => ?_)
    rw [ev]
    dsimp only
    have hb1 : h1.get? b = some ob := (hs1.2 b nb2).trans (st.keep b ob nb1 nb2 hb)
    have ty : ∀ tk', Shared.TypeIs ⟨h1, s.gens, s.drawn, tk', s.os⟩ (.ref b) "tuple" := fun _ => ⟨ob, hb1, hbc⟩
    have kp1 : ∀ b' o', b' ≠ d → b' ≠ it → h0.get? b' = some o' → h1.get? b' = some o' := fun b' o' n1 n2 e => (hs1.2 b' n2).trans (st.keep b' o' n1 n2 e)
    have hD1 : h1.DictOfH (tupleKind knd) d (mergedH [] (ms.take i)) := dictH_move st.dict (fun o ho => (hs1.2 d hdi).trans ho) (keys_kept (fun m hm => hP.2.2 m (List.mem_of_mem_take hm)) hd0 hi0 kp1)
    have hkey : (tupleKind knd).is h1 ms[i].1 ms[i].2.1 := is_kept (hP.2.2 _ (List.getElem_mem hlk)) hd0 hi0 kp1
    refine wpAny_bind (wpAny_holding (wpAny_bind (wpAny_tryCatch ?_)))
    unfold Builtin.Dict.pairItems
    refine wpAny_bind (wpAny_typeOf (ty _) ?_)
    rw [if_pos (by decide)]
    refine wpAny_bind (wpAny_seqItems hb1 hbd (wpAny_pure ?_))
    show wpAny _ _ (holding [Value.ref ms[i].2.1, ms[i].2.2] (dictSet d (Value.ref ms[i].2.1) ms[i].2.2)) _ _ _
    refine wpAny_holding (wpAny_dictSet_heap (s := ⟨h1, s.gens, s.drawn, _, s.os⟩) (knd := tupleKind knd) (show A.in1.units < cLine from hu) hkey hD1 (fun h2 hd2 hs2 => ?_) (by have := hml i; rw [sizeLine_eq]; omega))
    refine wpAny_pure ⟨plainId_quiet plain_loop _, ih (i + 1) h2 _ (by omega) (by omega) ⟨?_, ?_, ?_, ?_⟩⟩
    · obtain ⟨o, ho, r⟩ := st.tup
      exact tuple_same ⟨o, (hs1.2 a hit).trans ho, r⟩ hs2 hd
    · exact iter_same hI1 hs2 hdi.symm
    · rw [mergedH_take [] ms i ms[i] hgk]
      exact hd2
    · intro b' o' n1 n2 e
      exact (hs2.2 b' n1).trans ((hs1.2 b' n2).trans (st.keep b' o' n1 n2 e))
theorem call_dictHT {a : Addr} {o : Obj} {its : List Value} {n : Nat} {ms : List (List K × Addr × Value)} {Q : Value → Shared → Prop} (hh : A.handled = none) (hu : A.units + 2 < cLine) (ho : s.heap.get? a = some o) (hc : o.cls = .type "tuple") (hdat : o.data = .seq its.toArray n) (hdn : o.dict = none)
    (hP : PairsAtH knd s.heap its ms) (hz : its.length ≤ 1000)
    (h : ∀ h' tk, h'.DictOfH (tupleKind knd) s.heap.objs.size (mergedH [] ms) → (∀ b o, s.heap.get? b = some o → h'.get? b = some o) → Q (.ref s.heap.objs.size) { s with heap := h', toks := tk }) :
    wpAny (model prog w) A (call (.type "dict") [.ref a]) Q E s := by
  refine callType_codes (Q₁ := fun ob1 s₁ => ob1 = .ref s.heap.objs.size ∧ s₁ = { s with heap := s.heap.push { cls := .type "dict", data := .dict #[] } }) F.kt_called_dict (F.kt_typeCall_dict_1 _) F.entry_dict_init (kt_code_dict_new _ ⟨rfl, rfl⟩) ?_
  rintro ob1 s₁ ⟨rfl, rfl⟩
  have fresh0 : (s.heap.push { cls := .type "dict", data := .dict #[] }).DictOfH (tupleKind knd) s.heap.objs.size [] := Heap.DictOfH.new s.heap
  have hsz1 : (s.heap.push { cls := .type "dict", data := .dict #[] }).objs.size = s.heap.objs.size + 1 := Heap.size_push ..
  have al : a < s.heap.objs.size := Heap.lt_size ho
  have hoa : (s.heap.push { cls := .type "dict", data := .dict #[] }).get? a = some o := Heap.get?_push_of_some _ ho
  refine ⟨fresh0.typeIs, F.args_dict_init_2 _ _, ?_⟩
  unfold Builtin.«dict.__init__»
  refine wpAny_bind ?_
  unfold Builtin.Dict.selfAndRest
  refine wpAny_bind (wpAny_notOrdered_dict fresh0.typeIs ?_)
  show wpAny _ _ (pure (s.heap.objs.size, [Value.ref a])) _ _ _
  refine wpAny_pure ?_
  show wpAny _ _ (Builtin.Dict.updateFrom "dict.__init__" s.heap.objs.size (.ref a) [] .none) _ _ _
  unfold Builtin.Dict.updateFrom
  refine wpAny_bind (wpAny_typeOf (T := "tuple") ⟨o, hoa, hc⟩ ?_)
  rw [if_pos (by decide)]
  refine wpAny_bind (keys_tuple hoa hc hdat hdn hh fun h2 tk2 k2 => ?_)
  rw [if_pos (show (none : Option Value).isNone = true from rfl)]
  refine wpAny_bind (wpAny_rule ?_)
  have ht2 : h2.IsTuple a its.toArray := ⟨o, k2 a o hoa, hc, n, hdat⟩
  refine wpAny_bind (wpAny_pyIter_tuple ht2 ?_)
  obtain ⟨od, _, _, hod, _⟩ := id fresh0
  have dl : s.heap.objs.size < h2.objs.size := Heap.lt_size (k2 _ _ hod)
  have e0 : rawInt 0 = rawInt ((0 : Nat) : Int) := rfl
  rw [e0]
  refine wpAny_pure ⟨plainId_quiet plain_loop _, upd_loopHT (A := A.in1) (s := s) (knd := knd) (h0 := s.heap) (ms := ms) (its := its) (a := a) hh (show A.in1.units + 1 < cLine from hu) hP (Nat.ne_of_lt al) (Nat.ne_of_lt (Nat.lt_trans al dl)) (Nat.ne_of_lt dl) hz (Heap.get?_none_of_le (Nat.le_refl _)) (Heap.get?_none_of_le (Nat.le_of_lt dl))
    (fun i => ?_) (fun h' tk hD hk => ⟨rfl, h h' tk hD fun b ob e => hk b ob (Nat.ne_of_lt (Heap.lt_size e)) (Nat.ne_of_lt (Nat.lt_trans (Heap.lt_size e) dl)) e⟩) its.length 0 _ _ (by simp) (Nat.zero_le _) ⟨?_, ?_, ?_, ?_⟩⟩
  · have e1 := mergedH_len (ms.take i) []
    have e2 : (ms.take i).length ≤ ms.length := by rw [List.length_take]; omega
    have e3 := hP.1
    simp only [List.length_nil] at e1
    omega
  · exact Heap.IsTuple.push ht2 _
  · exact ⟨_, Heap.get?_push_size _ rfl, rfl, rfl⟩
  · rw [List.take_zero]
    have hd2 : h2.DictOfH (tupleKind knd) s.heap.objs.size [] := dictH_move fresh0 (fun o ho => k2 _ _ ho) fun _ hx => by cases hx
    exact dictH_move hd2 (fun o ho => Heap.get?_push_of_some _ ho) fun _ hx => by cases hx
  · intro b ob _ _ e
    exact Heap.get?_push_of_some _ (k2 b ob (Heap.get?_push_of_some _ e))
end
end HD
namespace L2
open PySem PySem.Spec PyProof.Rows
section
variable {X : Cx}
theorem call_dictTT (hc : X.calm = true) (hu : X.A.units + 8 < cLine) : CallR X (.type "dict") (fun xs H Q => ∃ a ys kvs, xs = [.ref a] ∧ H a = some (.tup ys) ∧ PairsT X.K H ys kvs ∧ ys.length ≤ 1000 ∧ ∀ p, H p = none → Q (.ref p) (upd H p (.dT (mergeT [] kvs)))) := by
  intro pins s σ H xs us Q I r h
  obtain ⟨a, ys, kvs, rfl, hH, hp, hz, q⟩ := h
  obtain ⟨u, rfl, ru⟩ := vals1 r
  cases ru
  obtain ⟨z, its, ri, ⟨ob0, ho, hcl, n, hdt⟩, ob1, ho1, hdn⟩ := (show ObjOk X.prog X.w H s.heap a (.tup ys) from I.hok a _ hH)
  rw [ho] at ho1
  obtain rfl := Option.some.inj ho1
  have hl := ri.length
  obtain ⟨ms, kt, hP⟩ := pairs_atH I hp ri
  have lk : kvs.length ≤ 1000 := by
    have e1 := Paired.length kt
    have e2 := hP.1
    omega
  refine HD.call_dictHT (I.ok.hd hc) (by omega) ho hcl hdt hdn hP (by omega) fun h' tk hD k => ?_
  have hm := length_mergeT kvs []
  obtain ⟨o, es, ep, hq, h2, h3, h4, _, h5⟩ := hD
  have I2 : Inv X pins σ (upd H s.heap.objs.size (.dT (mergeT [] kvs))) { s with heap := h', toks := tk } := by
    refine I.laid (h' := h') (t' := tk) (o := .dT (mergeT [] kvs)) k (Nat.le_refl _) ⟨by rw [sizeLine_eq]; simp only [List.length_nil] at hm; omega, beq_eq_false_iff_ne.mpr (Ne.symm (Nat.ne_of_lt I.big)), HD.mergedH [] ms, (KT.merge kt .nil).keeps fun c zs ec => ?_, o, es, ep, hq, h2, h3, h4, h5⟩
    rw [upd_ne (ne_of_none ec I.fresh)]
    exact ec
  exact ⟨.ref s.heap.objs.size, _, I2, rfl, q _ I.fresh⟩
end
end L2
namespace Co
open PySem L2 Mi
theorem compF_gen2R {α : Type} {K : PySem.W.Frag} {J : It} {rs : List α} (gv : α → Addr) (v1 v2 : α → V) {tt : TT} {te : TE} {fr : St} {H1 : Hp} {QD : Hp → Prop} (Rl : α → V → Hp → Prop) (mono : ∀ x v H H', TS' H H' → Rl x v H → Rl x v H') (p : α → Bool) (D : Addr) (hD : H1 D = none) (T : Tells J H1 (rs.map fun r => V.ref (gv r))) (hpr : ∀ r ∈ rs, H1 (gv r) = some (.tup [v1 r, v2 r])) (hz : rs.length < sizeLine)
    (ht : ∀ r H R, r ∈ rs → Same H1 H → (∀ H', Same H H' → R (p r) H') → tt (some (v1 r) :: some (v2 r) :: fr) H R)
    (he : ∀ r H R, r ∈ rs → p r = true → Same H1 H → (∀ v H', Same H H' → Rl r v H' → R v H') → te (some (v1 r) :: some (v2 r) :: fr) H R)
    (hd : ∀ H' ys, Same H1 H' → H' D = some (.lst ys) → Paired (fun r v => Rl r v H') (rs.filter p) ys → QD H') :
    ∃ W : Nat → Nat → List V → Hp → Prop, (∃ m, W 0 m [] (upd H1 D (.lst []))) ∧ ∀ i m ys H2, W i m ys H2 → H2 D = some (.lst ys) ∧
      ((J.stop i H2 ∧ QD H2) ∨ (J.go i H2 ∧ ∀ x H3, J.yld i H2 x H3 → ∀ pre : St, pre.length = 2 → gTup K 2 (gCons (gName 0) (gCons (gName 1) gNil)) x (pre ++ fr) H3 fun σ4 H4 => (∃ pre' : St, pre'.length = 2 ∧ σ4 = pre' ++ fr) ∧
        tt σ4 H4 fun b H5 => if b = true then te σ4 H5 (fun y H6 => H6 D = some (.lst ys) ∧ ys.length < sizeLine ∧ ∃ m', m' < m ∧ W (i + 1) m' (ys ++ [y]) (upd H6 D (.lst (ys ++ [y])))) else ∃ m', m' < m ∧ W (i + 1) m' ys H5)) := by
  refine ⟨fun i m ys H2 => m = rs.length - i ∧ i ≤ rs.length ∧ Paired (fun r v => Rl r v H2) ((rs.take i).filter p) ys ∧ H2 D = some (.lst ys) ∧ Same H1 H2, ⟨rs.length, by simp, Nat.zero_le _, by rw [List.take_zero]; exact .nil, upd_same, Same.new hD _⟩, ?_⟩
  rintro i m ys H2 ⟨rfl, hi, hp2, hD2, sm⟩
  refine ⟨hD2, ?_⟩
  by_cases hlt : i < rs.length
  · refine .inr ⟨T.go H2 i sm (by rw [List.length_map]; exact hlt), fun x H3 y pre hpre => ?_⟩
    obtain ⟨rfl, hx⟩ := T.yld H2 i x H3 sm y
    rw [List.getElem?_map, List.getElem?_eq_getElem hlt] at hx
    cases hx
    have hm : rs[i] ∈ rs := List.getElem_mem hlt
    obtain ⟨a0, a1, rfl⟩ : ∃ a0 a1, pre = [a0, a1] := by
      cases pre with
      | nil => simp at hpre
      | cons a0 r => cases r with
        | nil => simp at hpre
        | cons a1 r => cases r with
          | nil => exact ⟨a0, a1, rfl⟩
          | cons _ _ => simp at hpre
    refine ⟨gv rs[i], _, rfl, SqT.of (sm _ _ (hpr _ hm)), rfl, _, _, rfl, _, _, rfl, rfl, ⟨[some (v1 rs[i]), some (v2 rs[i])], rfl, rfl⟩, ?_⟩
    have htk : (rs.take (i + 1)).filter p = (rs.take i).filter p ++ (if p rs[i] = true then [rs[i]] else []) := by
      rw [List.take_add_one, List.getElem?_eq_getElem hlt, List.filter_append]
      cases hp : p rs[i] <;> simp [hp]
    refine ht rs[i] H3 _ hm sm fun H5 s5 => ?_
    cases hp : p rs[i] with
    | false =>
      rw [hp, if_neg Bool.false_ne_true, List.append_nil] at htk
      exact iteF ⟨rs.length - (i + 1), by omega, rfl, hlt, by rw [htk]; exact hp2.mono fun a b h => mono _ _ _ _ s5.ts h, s5 _ _ hD2, sm.trans s5⟩
    | true =>
      rw [hp, if_pos rfl] at htk
      refine iteT (he rs[i] H5 _ hm hp (sm.trans s5) fun v H6 s6 hv => ?_)
      have hD6 := s6 _ _ (s5 _ _ hD2)
      have t6 : TS' H6 (upd H6 D (.lst (ys ++ [v]))) := TS'.lst hD6
      have hl : ys.length ≤ i := by
        rw [← Paired.length hp2]
        refine Nat.le_trans (List.length_filter_le _ _) ?_
        rw [List.length_take]; omega
      refine ⟨hD6, by omega, rs.length - (i + 1), by omega, rfl, hlt, ?_, upd_same, ?_⟩
      · rw [htk]
        exact (hp2.mono fun a b h => mono _ _ _ _ ((s5.ts.trans s6.ts).trans t6) h).snoc (mono _ _ _ _ t6 hv)
      · intro b o e
        have hb : b ≠ D := ne_of_none e hD
        rw [upd_ne hb]
        exact s6 _ _ (s5 _ _ (sm _ _ e))
  · have e : i = rs.length := by omega
    subst e
    rw [List.take_length] at hp2
    have hst := T.stop H2 sm
    rw [List.length_map] at hst
    exact .inl ⟨hst, hd H2 ys sm hD2 hp2⟩
theorem putK_val {kvs : List (List Key × V)} {k : List Key} {v : V} {z : List Key × V} (h : z ∈ putK kvs k v) : z.2 = v ∨ ∃ y ∈ kvs, y.2 = z.2 := by
  unfold putK at h
  split at h
  · obtain ⟨y, hy, rfl⟩ := List.mem_map.mp h
    split
    · exact .inl rfl
    · exact .inr ⟨y, hy, rfl⟩
  · rcases List.mem_append.mp h with h | h
    · exact .inr ⟨z, h, rfl⟩
    · rw [List.mem_singleton.mp h]; exact .inl rfl
structure DRls (n m : Nat) (H : Hp) (kvs : List (List Key × V)) (us : List (List Str)) : Prop where
  keys : kvs.map (·.1) = us.map fun t => t.map Sum.inr
  nd : us.Nodup
  len : us.length ≤ n
  short : ∀ u ∈ us, u.length ≤ m
  vals : ∀ z ∈ kvs, ∃ q v, z.2 = .ref q ∧ TupA H q v ∧ v.length ≤ m
theorem DRls.ts {n m : Nat} {H H' : Hp} {kvs : List (List Key × V)} {us : List (List Str)} (h : DRls n m H kvs us) (t : TS' H H') : DRls n m H' kvs us := ⟨h.keys, h.nd, h.len, h.short, fun z hz => let ⟨q, v, e, hq, hl⟩ := h.vals z hz; ⟨q, v, e, t _ _ hq, hl⟩⟩
theorem DRls.put {n m : Nat} {H : Hp} {kvs : List (List Key × V)} {us : List (List Str)} (h : DRls n m H kvs us) {u v : List Str} {q : Addr} (hu : u.length ≤ m) (hq : TupA H q v) (hv : v.length ≤ m) : ∃ us', DRls (n + 1) m H (putK kvs (u.map Sum.inr) (.ref q)) us' := by
  refine ⟨_, putKT_keys h.keys, ?_, ?_, fun x hx => ?_, fun z hz => ?_⟩
  · split
    · exact h.nd
    · rename_i hn
      rw [List.nodup_append]
      exact ⟨h.nd, by simp, fun y hy z hz e => hn (by rw [List.mem_singleton.mp hz] at e; exact e ▸ hy)⟩
  · have := h.len
    split
    · omega
    · rw [List.length_append, List.length_singleton]; omega
  · split at hx
    · exact h.short x hx
    · rcases List.mem_append.mp hx with hx | hx
      · exact h.short x hx
      · rw [List.mem_singleton.mp hx]; exact hu
  · rcases putK_val hz with e | ⟨y, hy, e⟩
    · exact ⟨q, v, e, hq, hv⟩
    · obtain ⟨q', v', e', r⟩ := h.vals y hy
      exact ⟨q', v', e.symm.trans e', r⟩
theorem rls_of {m : Nat} {H : Hp} : ∀ (as : List It4) (us : List (List Str)), (as.map fun r => r.2.2.1) = (us.map fun t => t.map Sum.inr) → (∀ r ∈ as, H r.1 = some (.tup [.ref r.2.1, r.2.2.2]) ∧ H r.2.1 = some (.tup (r.2.2.1.map kV))) → (∀ r ∈ as, ∃ q v, r.2.2.2 = .ref q ∧ TupA H q v ∧ v.length ≤ m) →
    ∃ rs : List Rx, rrefs rs = (as.map fun r => V.ref r.1) ∧ RlsIn H rs ∧ (rs.map fun x => x.2.2.2.1) = us ∧ ∀ x ∈ rs, x.2.2.2.2.length ≤ m
  | [], [], _, _, _ => ⟨[], rfl, (fun x hx => nomatch hx), rfl, fun x hx => nomatch hx⟩
  | [], _ :: _, h, _, _ => by simp at h
  | _ :: _, [], h, _, _ => by simp at h
  | a :: as, u :: us, h, h1, h2 => by
    simp only [List.map_cons, List.cons.injEq] at h
    obtain ⟨rs, e1, e2, e3, e4⟩ := rls_of as us h.2 (fun r hr => h1 r (List.mem_cons_of_mem _ hr)) fun r hr => h2 r (List.mem_cons_of_mem _ hr)
    obtain ⟨g1, g2⟩ := h1 a (List.mem_cons_self ..)
    obtain ⟨q, v, eq, hq, hl⟩ := h2 a (List.mem_cons_self ..)
    rw [eq] at g1
    rw [h.1, List.map_map] at g2
    refine ⟨(a.1, a.2.1, q, (u, v)) :: rs, by unfold rrefs at e1 ⊢; rw [List.map_cons, List.map_cons, e1], fun x hx => ?_, by rw [List.map_cons, e3], fun x hx => ?_⟩
    · rcases List.mem_cons.mp hx with rfl | hx
      · exact ⟨g1, g2, hq⟩
      · exact e2 x hx
    · rcases List.mem_cons.mp hx with rfl | hx
      · exact hl
      · exact e4 x hx
end Co
namespace Mi
open PySem L2
theorem fits_lens {a : List Str} {R : List Rl} (nd : (R.map (·.1)).Nodup) : ((R.filter (fits a)).map fun r => r.1.length).Nodup := by
  have nd' : ((R.filter (fits a)).map (·.1)).Nodup := nd.sublist (List.filter_sublist.map _)
  have hf : ∀ r ∈ R.filter (fits a), fits a r = true := fun r hr => (List.mem_filter.mp hr).2
  generalize R.filter (fits a) = F at nd' hf
  induction F with
  | nil => exact List.nodup_nil
  | cons x F ih =>
    rw [List.map_cons, List.nodup_cons] at nd' ⊢
    refine ⟨fun h => ?_, ih nd'.2 fun r hr => hf r (List.mem_cons_of_mem _ hr)⟩
    obtain ⟨y, hy, e⟩ := List.mem_map.mp h
    have f1 := of_decide_eq_true (hf x (List.mem_cons_self ..))
    have f2 := of_decide_eq_true (hf y (List.mem_cons_of_mem _ hy))
    exact nd'.1 (List.mem_map.mpr ⟨y, hy, by rw [← f1, ← f2, e]⟩)
theorem once_rev {R : List Rl} (nd : (R.map (·.1)).Nodup) (a : List Str) : onceF R.reverse a = onceF R a :=
  once_congr (by rw [List.map_reverse]; exact (List.pairwise_reverse.mpr (nd.imp fun h => Ne.symm h))) nd (fun x => List.mem_reverse) a
theorem needs_iff {R : List Rl} (nd : (R.map (·.1)).Nodup) {b g : List Str} (hb : (b, g) ∈ R) : needs R (b, g) = decide (onceF (rest R b) b = onceF R b) := by
  unfold needs
  rw [once_own nd hb]
def chN (t : Nat → Str) (n : Nat) : List Rl := (List.range n).map fun j => ([t j], [t (j + 1)])
end Mi
namespace Co
open PySem L2 Mi
theorem ti_of {H : Hp} : ∀ {rs : List Rx} {ys : List V}, Paired (fun (x : Rx) v => ∃ c, v = .ref c ∧ H c = some (.tup [.int (x.2.2.2.1.length : Int), .ref x.2.1, .ref x.2.2.1])) rs ys →
    ∃ ts : List Ti, ys = (ts.map fun r => V.ref r.1) ∧ (∀ r ∈ ts, H r.1 = some (.tup [.int r.2.1, .ref r.2.2.1, .ref r.2.2.2])) ∧ ts.map (·.2) = rs.map fun x => ((x.2.2.2.1.length : Int), x.2.1, x.2.2.1)
  | _, _, .nil => ⟨[], rfl, (fun r hr => nomatch hr), rfl⟩
  | x :: _, _, .cons ⟨c, rfl, hc⟩ r => by
    obtain ⟨ts, e1, e2, e3⟩ := ti_of r
    refine ⟨(c, (x.2.2.2.1.length : Int), x.2.1, x.2.2.1) :: ts, by rw [List.map_cons, e1], fun r hr => ?_, by rw [List.map_cons, List.map_cons, e3]⟩
    rcases List.mem_cons.mp hr with rfl | hr
    · exact hc
    · exact e2 r hr
end Co
namespace Co
open PySem L2 Mi
theorem Scr.updD {K : PySem.W.Frag} {H : Hp} {a g : Addr} {ns : List Int} {kvs kvs' : List (List Key × V)} (h : Scr K H a ns) (hg : H g = some (.dT kvs)) : Scr K (upd H g (.dT kvs')) a ns := by
  rcases h with ⟨o, e⟩ | h
  · exact .inl ⟨o, by rw [upd_ne (fun z => by rw [z, hg] at e; cases e)]; exact e⟩
  · exact .inr h
end Co
namespace L2
open PySem PySem.Spec PyProof.Rows
def rLen (K : PySem.W.Frag) : List V → Hp → VK → Prop := fun xs H Q => ∃ p ys, xs = [.ref p] ∧ (SqL K H p ys ∨ SqT K H p ys) ∧ Q (.int ys.length) H
theorem call_lenS {X : Cx} : CallR X (.builtin "len") (rLen X.K) := call_len_seq
def rSlH : V → Option Int → Option Int → Hp → VK → Prop := fun x lo hi H Q => ∃ a xs, x = .ref a ∧ H a = some (.tup xs) ∧ ∀ p H', Same H H' → H' p = some (.tup (cutV xs lo hi)) → Q (.ref p) H'
theorem sl_tupS {X : Cx} : SlR X rSlH := sl_tupH
end L2
namespace L2
open PySem PySem.Spec PyProof.Rows
def rDictTT (K : PySem.W.Frag) : List V → Hp → VK → Prop := fun xs H Q => ∃ a ys kvs, xs = [.ref a] ∧ H a = some (.tup ys) ∧ PairsT K H ys kvs ∧ ys.length ≤ 1000 ∧ ∀ p, H p = none → Q (.ref p) (upd H p (.dT (mergeT [] kvs)))
theorem call_dictTS {X : Cx} (hc : X.calm = true) (hu : X.A.units + 8 < cLine) : CallR X (.type "dict") (rDictTT X.K) := call_dictTT hc hu
end L2
namespace LW
open PySem L2 Mi Co
def top (i : Nat) : Stmt := PySem.Challenge.pw_pagenames_k30_whole_beginnings_led_on.main.body.getD i (.Pass ⟨0, 0, 0, 0⟩)
abbrev sBegins : Stmt := top 7
abbrev sLenB : Stmt := top 8
abbrev sLongest : Stmt := top 9
abbrev sOnce : Stmt := top 10
abbrev sLed : Stmt := top 11
abbrev sIsN : Stmt := top 12
abbrev sNeedless : Stmt := top 13
abbrev sDraw : Stmt := top 15
abbrev sPick : Stmt := top 16
abbrev sAddr : Stmt := top 17
abbrev sRules : Stmt := top 18
abbrev sLLed : Stmt := top 19
abbrev sSteps : Stmt := top 20
abbrev sLOnce : Stmt := top 21
abbrev sLaw : Stmt := top 22
end LW
namespace LW
open PySem L2 Mi Co
def spBegins : Sp := fun vs H Q _ => ∃ (a b : Addr) (u v : List Str), vs = [.ref a, .ref b] ∧ TupA H a u ∧ TupA H b v ∧ ∀ H', Same H H' → Q (.bl (decide (u.take v.length = v))) H'
def spLenB : Sp := fun vs H Q _ => ∃ (p b g : Addr) (v : List Str), vs = [.ref p] ∧ H p = some (.tup [.ref b, .ref g]) ∧ TupA H b v ∧ Q (.int v.length) H
def spLongest : Sp := fun vs H Q _ => ∃ (p a : Addr) (rs : List Rx) (u : List Str), vs = [.ref p, .ref a] ∧ RlsSq H p rs ∧ RlsIn H rs ∧ ((rs.map (·.2.2.2)).map (·.1)).Nodup ∧ rs.length ≤ 100 ∧ TupA H a u ∧ (best u (rs.map (·.2.2.2)) = none → ∀ H', Same H H' → Q .non H') ∧ (∀ x ∈ rs, best u (rs.map (·.2.2.2)) = some x.2.2.2 → ∀ H', Same H H' → Q (.ref x.1) H')
def spOnce : Sp := fun vs H Q _ => ∃ (p a : Addr) (rs : List Rx) (u : List Str), vs = [.ref p, .ref a] ∧ RlsSq H p rs ∧ RlsIn H rs ∧ ((rs.map (·.2.2.2)).map (·.1)).Nodup ∧ rs.length ≤ 100 ∧ (∀ r ∈ rs.map (·.2.2.2), r.2.length ≤ 1000) ∧ TupA H a u ∧ u.length ≤ 50000 ∧ (onceF (rs.map (·.2.2.2)) u = none → ∀ H', Same H H' → Q .non H') ∧ (∀ x, onceF (rs.map (·.2.2.2)) u = some x → ∀ q H', Same H H' → TupA H' q x → Q (.ref q) H')
def spLed (C : Addr) : Sp := fun vs H Q E => ∃ (p a : Addr) (rs : List Rx) (u : List Str), vs = [.ref p, .ref a] ∧ RlsSq H p rs ∧ RlsIn H rs ∧ ((rs.map (·.2.2.2)).map (·.1)).Nodup ∧ rs.length ≤ 100 ∧ (∀ r ∈ rs.map (·.2.2.2), r.2.length ≤ 1000) ∧ TupA H a u ∧ u.length ≤ 1000 ∧ (∀ x, ledN 8 (rs.map (·.2.2.2)) u = some x → ∀ q H', Same H H' → TupA H' q x → Q (.ref q) H') ∧ (ledN 8 (rs.map (·.2.2.2)) u = none → ∀ H', Same H H' → E (.ref C) none H')
def spIsNeedless : Sp := fun vs H Q _ => ∃ (p : Addr) (rs : List Rx) (x : Rx), vs = [.ref p, .ref x.1] ∧ RlsSq H p rs ∧ RlsIn H rs ∧ RlH H x ∧ ((rs.map (·.2.2.2)).map (·.1)).Nodup ∧ rs.length ≤ 100 ∧ (∀ r ∈ rs.map (·.2.2.2), r.2.length ≤ 1000) ∧ x.2.2.2.1.length ≤ 1000 ∧ ∀ H', Same H H' → Q (.bl (needs (rs.map (·.2.2.2)) x.2.2.2)) H'
def spNeedless : Sp := fun vs H Q _ => ∃ (p : Addr) (R : List Rl), vs = [.ref p] ∧ RlsAt H p R ∧ (R.map (·.1)).Nodup ∧ R.length < 64 ∧ (∀ r ∈ R, r.2.length ≤ 1000 ∧ r.1.length ≤ 1000) ∧ ∀ (q : Addr) (T : List (List Str)) (H' : Hp), Same H H' → TupsH H' q T → (T.Pairwise fun a b => HS.ltT a b = true) → (∀ u, u ∈ T ↔ ∃ r ∈ R, needs R r = true ∧ r.1 = u) → Q (.ref q) H'
section
variable {P : Program} {w : World} {K : PySem.W.Frag} {mg : Str → Option Value} {base : Heap} {f : Addr} {fd : FuncData}
theorem scBegins : FnScope ["address", "beginning"] ["address", "beginning"] (defScope sBegins) := ⟨rfl, rfl, rfl, by decide +kernel, rfl, by decide +kernel, by decide +kernel⟩
theorem ok_begins {k : Nat} (F : Fun K "begins_with" "begins_with" sBegins f fd) (G : Blt mg) : FnOk P w K mg base CX0 (k + 1) f fd ["address", "beginning"] spBegins := by
  refine F.ok scBegins (fun vs H Q E h => ?_) (fun cdv A outer s H vs Q E hr h => ?_)
  · obtain ⟨a, b, u, v, rfl, _⟩ := h
    rfl
  obtain ⟨a, b, u, v, rfl, ha, hb, q⟩ := h
  refine ⟨_, (pss_one (ps_ret (pe_cmpR (op_eqD (hu8 hr)) (pe_slice sl_tupH (pv 0) po_none (po_some (pe_callB call_len_seq rfl G.len PySem.boot_len (pa_cons (pv 1) pa_nil)))) (pv 1) (nomark _)))), ?_⟩
  refine ⟨_, rfl, _, rfl, b, _, rfl, .inr (SqT.of hb), _, rfl, a, _, rfl, ha, fun t1 H1 s1 ht1 => ?_⟩
  rw [List.length_map, cut_toS] at ht1
  refine ⟨_, rfl, _, _, str_dat ht1, str_dat (s1 _ _ hb), by rw [deeps0']; decide, ?_⟩
  rw [tup_beq]
  exact q H1 s1
theorem scLenB : FnScope ["rule"] ["rule"] (defScope sLenB) := ⟨rfl, rfl, rfl, by decide +kernel, rfl, by decide +kernel, by decide +kernel⟩
theorem ok_lenb {k : Nat} (F : Fun K "length_of_beginning" "length_of_beginning" sLenB f fd) (G : Blt mg) (h0 : IsInt mg "BEGINNING" 0) : FnOk P w K mg base CX0 (k + 1) f fd ["rule"] spLenB := by
  refine F.ok scLenB (fun vs H Q E h => ?_) (fun cdv A outer s H vs Q E hr h => ?_)
  · obtain ⟨p, b, g, v, rfl, _⟩ := h
    rfl
  obtain ⟨p, b, g, v, rfl, hp, hb, q⟩ := h
  obtain ⟨t0, m0⟩ := h0
  refine ⟨_, (pss_one (ps_ret (pe_callB call_len_seq rfl G.len PySem.boot_len (pa_cons (pe_ix ix_tup (pv 0) (pe_glob rfl m0 (v := .int 0) ⟨_, rfl⟩) fun _ _ => rfl) pa_nil)))), ?_⟩
  refine ⟨_, rfl, p, _, _, V.ref b, rfl, rfl, SqT.of hp, rfl, b, _, rfl, .inr (SqT.of hb), ?_⟩
  rw [List.length_map]
  exact q
theorem scLongest : FnScope ["rules", "address", "fitting"] ["rules", "address"] (defScope sLongest) := ⟨rfl, rfl, rfl, by decide +kernel, rfl, by decide +kernel, by decide +kernel⟩
theorem ndLR0 : (["rule", "address"] : List Str).Nodup := by decide +kernel
theorem ok_longest {k : Nat} (F : Fun K "longest_rule" "longest_rule" sLongest f fd) (G : Blt mg) (h0 : IsInt mg "BEGINNING" 0) (hmax : mg "max" = none) (hBegins : Has P w K mg base "begins_with" (k + 1) ["address", "beginning"] spBegins) (hLen : Has P w K mg base "length_of_beginning" k ["rule"] spLenB) :
    FnOk P w K mg base CX0 (k + 2) f fd ["rules", "address"] spLongest := by
  refine F.ok scLongest (fun vs H Q E h => ?_) (fun cdv A outer s H vs Q E hr h => ?_)
  · obtain ⟨p, a, rs, u, rfl, _⟩ := h
    rfl
  obtain ⟨p, a, rs, u, rfl, hp, hrs, nd, hz, ha, qn, qs⟩ := h
  obtain ⟨t0, m0⟩ := h0
  obtain ⟨fL, fdL, FL, bL, kL, mL⟩ := hLen
  refine ⟨_, (pss_cons (ps_compF (ix := 2) (tt := (tB (tCall spBegins [] E0 (tCons (tVar 1) (tCons (tOp (rIxT K) (tVar 0) (tC (.int 0))) tNil))))) (te := (tVar 0)) (xs := ["rule"]) (ys := ["address"]) (js := [1]) rfl (by decide +kernel) (by decide +kernel) rfl (by decide +kernel) ⟨rfl, .inl rfl, rfl, trivial⟩
      (pi_seq (pv 0)) (fun _ _ _ _ _ => (pg_name (i := 0) ndLR0 rfl (Or.inl rfl) (.inr rfl))) (fun _ _ _ _ _ => pts_one (pt_val (pe_callH hBegins hr rfl (pa_cons (pv 1) (pa_cons (pe_ix ix_tup (pv 0) (pe_glob rfl m0 (v := .int 0) ⟨_, rfl⟩) fun _ _ => rfl) pa_nil))))) (fun _ _ _ _ _ => (pv 0)) scLongest.nd rfl (Or.inl rfl))
    (pss_one (ps_ret (pe_maxKD (E := E0) FL hr bL hmax rfl mL rfl (pv 2) pe_non)))), ?_⟩
  have comp : ∀ (D : Addr) (J : It), H D = none → Tells J H (rs.map fun x => V.ref x.1) → ∀ QD : Hp → Prop, (∀ H', Same H H' → H' D = some (.lst ((rs.filter fun x => fits u x.2.2.2).map fun x => V.ref x.1)) → QD H') → _ := fun D J hD T QD hq => compF_gen (J := J) (tt := tB (tCall spBegins [] E0 (tCons (tVar 1) (tCons (tOp (rIxT K) (tVar 0) (tC (.int 0))) tNil)))) (te := tVar 0) (QD := QD) (fun x : Rx => V.ref x.1) (fr := [some (.ref a)]) (fun x => .ref x.1) (fun x => fits u x.2.2.2) D hD T (bigl _ (by omega))
    (fun x H1 Rr hx s1 hR1 => by
      have hx1 := (hrs x hx).ts s1.ts
      exact ⟨_, rfl, _, rfl, x.1, _, _, V.ref x.2.1, rfl, rfl, SqT.of hx1.1, rfl, a, x.2.1, u, _, rfl, s1 _ _ ha, hx1.2.1, fun H2 s2 => ⟨_, rfl, hR1 H2 s2⟩⟩)
    (fun x H1 Rr hx _ s1 hR1 => ⟨_, rfl, hR1 H1 (Same.refl _)⟩) hq
  have fin : ∀ (D : Addr) (H1 : Hp), Same H H1 → H1 D = some (.lst ((rs.filter fun x => fits u x.2.2.2).map fun x => V.ref x.1)) → tMaxKD K spLenB E0 fL (tVar 2) (tC .non) [some (.ref p), some (.ref a), some (.ref D)] H1 Q := fun D H1 s1 hD1 => by
    refine ⟨_, rfl, D, _, _, rfl, rfl, SqL.of hD1, fun e => ?_, fun hne => ?_⟩
    · refine qn (best_none.mpr fun r hr' => ?_) H1 s1
      obtain ⟨x, hx, rfl⟩ := List.mem_map.mp hr'
      cases hf : fits u x.2.2.2 with
      | false => rfl
      | true =>
        have : x ∈ rs.filter fun x => fits u x.2.2.2 := List.mem_filter.mpr ⟨hx, hf⟩
        rw [List.map_eq_nil_iff] at e
        rw [e] at this
        cases this
    · let fl := rs.filter fun x => fits u x.2.2.2
      refine ⟨fun i => ((fl.map fun x => x.2.2.2.1.length).getD i 0 : Nat), fun i v hv => ?_, fun i v hv hb => ?_⟩
      · rw [List.getElem?_map] at hv
        obtain ⟨x, hxi, rfl⟩ : ∃ x, fl[i]? = some x ∧ V.ref x.1 = v := by
          cases hh : fl[i]? with
          | none => rw [hh] at hv; cases hv
          | some y => rw [hh] at hv; injection hv with hv; exact ⟨y, rfl, hv⟩
        have hx1 := (hrs x (List.mem_filter.mp (List.mem_of_getElem? hxi)).1).ts s1.ts
        refine ⟨x.1, x.2.1, x.2.2.1, _, rfl, hx1.1, hx1.2.1, ?_, rfl⟩
        show V.int _ = V.int (((fl.map fun x => x.2.2.2.1.length).getD i 0 : Nat) : Int)
        rw [List.getD_eq_getElem?_getD, List.getElem?_map, hxi]
        rfl
      · rw [List.getElem?_map] at hv
        obtain ⟨x, hxi, rfl⟩ : ∃ x, fl[i]? = some x ∧ V.ref x.1 = v := by
          cases hh : fl[i]? with
          | none => rw [hh] at hv; cases hv
          | some y => rw [hh] at hv; injection hv with hv; exact ⟨y, rfl, hv⟩
        have hxm := List.mem_filter.mp (List.mem_of_getElem? hxi)
        refine qs x hxm.1 (best_of nd ⟨List.mem_map.mpr ⟨x, hxm.1, rfl⟩, hxm.2, fun r hr' hf => ?_⟩) H1 s1
        obtain ⟨y, hy, rfl⟩ := List.mem_map.mp hr'
        obtain ⟨j, hj, ej⟩ := List.mem_iff_getElem.mp (show y ∈ fl from List.mem_filter.mpr ⟨hy, hf⟩)
        have hb2 : (((fl.map fun x => x.2.2.2.1.length).getD j 0 : Nat) : Int) ≤ (((fl.map fun x => x.2.2.2.1.length).getD i 0 : Nat) : Int) := (hb.2 j (by rw [List.length_map]; exact Nat.le_sub_one_of_lt hj)).1
        rw [List.getD_eq_getElem?_getD, List.getD_eq_getElem?_getD, List.getElem?_map, List.getElem?_map, hxi, List.getElem?_eq_getElem hj, ej] at hb2
        simpa using hb2
  rcases hp with hp | hp
  · exact ⟨_, rfl, p, rfl, .inr ⟨⟨_, SqT.of hp⟩, fun D hD => comp D _ hD (tells_tup (SqT.of hp)) _ fun H1 s1 hD1 => fin D H1 s1 hD1⟩⟩
  · exact ⟨_, rfl, p, rfl, .inl ⟨⟨_, SqL.of hp⟩, fun D hD => comp D _ hD (tells_list (SqL.of hp)) _ fun H1 s1 hD1 => fin D H1 s1 hD1⟩⟩
theorem scOnce : FnScope ["rules", "address", "rule"] ["rules", "address"] (defScope sOnce) := ⟨rfl, rfl, rfl, by decide +kernel, rfl, by decide +kernel, by decide +kernel⟩
theorem ok_once {k : Nat} (F : Fun K "once" "once" sOnce f fd) (G : Blt mg) (h0 : IsInt mg "BEGINNING" 0) (h1 : IsInt mg "GOAL" 1) (hLongest : Has P w K mg base "longest_rule" k ["rules", "address"] spLongest) : FnOk P w K mg base CX0 (k + 1) f fd ["rules", "address"] spOnce := by
  refine F.ok scOnce (fun vs H Q E h => ?_) (fun cdv A outer s H vs Q E hr h => ?_)
  · obtain ⟨p, a, rs, u, rfl, _⟩ := h
    rfl
  obtain ⟨p, a, rs, u, rfl, hp, hrs, nd, hz, hgl, ha, hul, qn, qs⟩ := h
  obtain ⟨t0, m0⟩ := h0
  obtain ⟨t1, m1⟩ := h1
  refine ⟨_, (pss_cons (ps_set (i := 2) scOnce.nd rfl (Or.inl rfl) (pe_callH hLongest hr rfl (pa_cons (pv 0) (pa_cons (pv 1) pa_nil))))
    (pss_cons (ps_if (pt_cmp (pc_isN (pv 2))) (pss_one (ps_ret pe_non)) pss_nil)
    (pss_one (ps_ret (pe_op op_catH (pe_ix ix_tup (pv 2) (pe_glob rfl m1 (v := .int 1) ⟨_, rfl⟩) fun _ _ => rfl) (pe_slice sl_tupH (pv 1) (po_some (pe_callB call_len_seq rfl G.len PySem.boot_len (pa_cons (pe_ix ix_tup (pv 2) (pe_glob rfl m0 (v := .int 0) ⟨_, rfl⟩) fun _ _ => rfl) pa_nil))) po_none)))))), ?_⟩
  refine ⟨_, rfl, _, rfl, p, a, rs, u, rfl, hp, hrs, nd, hz, ha, fun hb H1 s1 => ?_, fun x hx hb H1 s1 => ?_⟩
  · refine ⟨_, rfl, _, rfl, iteY rfl ?_⟩
    refine qn ?_ H1 s1
    unfold onceF
    rw [hb]
    rfl
  · refine ⟨_, rfl, _, rfl, iteN (fun e => nomatch e) ?_⟩
    have hx1 := (hrs x hx).ts s1.ts
    refine ⟨_, rfl, x.1, _, _, V.ref x.2.2.1, rfl, rfl, SqT.of hx1.1, rfl, _, rfl, _, rfl, x.1, _, _, V.ref x.2.1, rfl, rfl, SqT.of hx1.1, rfl, x.2.1, _, rfl, .inr (SqT.of hx1.2.1), _, rfl, a, _, rfl, s1 _ _ ha, fun t2 H2 s2 ht2 => ?_⟩
    rw [List.length_map, cut_fromS] at ht2
    have hgx := hgl _ (List.mem_map.mpr ⟨x, hx, rfl⟩)
    refine ⟨x.2.2.1, t2, _, _, rfl, rfl, s2 _ _ hx1.2.2, ht2, big _ (by rw [List.length_map, List.length_map, List.length_drop]; omega), fun q H3 s3 hq => ?_⟩
    rw [← List.map_append] at hq
    refine qs _ ?_ q H3 ((s1.trans s2).trans s3) hq
    unfold onceF
    rw [hb]
    rfl
theorem scLed : FnScope ["rules", "address", "times", "further"] ["rules", "address"] (defScope sLed) := ⟨rfl, rfl, rfl, by decide +kernel, rfl, by decide +kernel, by decide +kernel⟩
theorem ok_led {k : Nat} {C : Addr} (F : Fun K "led" "led" sLed f fd) (G : Blt mg) (h8 : IsInt mg "MOST_TIMES" 8) (O : PyProof.Rows.OwnCls "TooMany" C VE "ValueError.__new__" mg base) (hOnce : Has P w K mg base "once" k ["rules", "address"] spOnce) : FnOk P w K mg base (CXE P w) (k + 1) f fd ["rules", "address"] (spLed C) := by
  refine F.okE scLed (fun vs H Q E h => ?_) (fun cdv A outer s H vs Q E hr h => ?_)
  · obtain ⟨p, a, rs, u, rfl, _⟩ := h
    rfl
  obtain ⟨p, a, rs, u, rfl, hp, hrs, nd, hz, hgl, ha, hul, qs, qn⟩ := h
  obtain ⟨t8, m8⟩ := h8
  refine ⟨_, (pss_cons (ps_set (i := 2) scLed.nd rfl (Or.inl rfl) pe_int)
    (pss_cons (ps_set (i := 3) scLed.nd rfl (Or.inl rfl) (pe_callH hOnce hr rfl (pa_cons (pv 0) (pa_cons (pv 1) pa_nil))))
    (pss_cons (ps_while (PassesOwn.«leaving») (pt_cmp (pc_notN (pv 3)))
      (pss_cons (ps_set (i := 2) scLed.nd rfl (Or.inl rfl) (pe_op op_add (pv 2) pe_int))
      (pss_cons (ps_if (pt_cmpR op_gt (pv 2) (pe_glob rfl m8 (v := .int 8) ⟨_, rfl⟩) (nomark _)) (pss_one (ps_raise (E := E) rfl raises_cx O PySem.F.excBase_ValueError rfl PySem.F.excBase_ValueError rfl (pa_cons (pe_join3 pe_str (pe_fmt (pe_glob rfl m8 (v := .int 8) ⟨_, rfl⟩)) pe_str) pa_nil))) pss_nil)
      (pss_cons (ps_set (i := 1) scLed.nd rfl (Or.inl rfl) (pv 3))
      (pss_one (ps_set (i := 3) scLed.nd rfl (Or.inl rfl) (pe_callH hOnce hr rfl (pa_cons (pv 0) (pa_cons (pv 1) pa_nil)))))))))
    (pss_one (ps_ret (pv 1)))))), ?_⟩
  have grow : ∀ {v w : List Str}, onceF (rs.map (·.2.2.2)) v = some w → w.length ≤ v.length + 1000 := fun {v w} h => by
    unfold onceF at h
    cases hb : best v (rs.map (·.2.2.2)) with
    | none => rw [hb] at h; cases h
    | some r =>
      rw [hb] at h
      obtain rfl := Option.some.inj h
      have := hgl r (best_some hb).1
      show (r.2 ++ v.drop r.1.length).length ≤ _
      rw [List.length_append, List.length_drop]
      omega
  refine ⟨_, rfl, _, rfl, p, a, rs, u, rfl, hp, hrs, nd, hz, hgl, ha, by omega, fun ho H1 s1 => ?_, fun x ho q1 H1 s1 hq1 => ?_⟩
  · refine ⟨fun m σ H' => m = 0 ∧ σ = [some (.ref p), some (.ref a), some (.int 0), some .non] ∧ Same H H', ⟨0, rfl, rfl, s1⟩, ?_⟩
    rintro m σ H2 ⟨rfl, rfl, s2⟩
    exact ⟨_, rfl, _, rfl, iteF ⟨_, rfl, qs _ (led_none ho) a H2 s2 (s2 _ _ ha)⟩⟩
  · refine ⟨fun m σ H' => ∃ (t : Nat) (a' q' : Addr) (fv : V) (v : List Str), σ = [some (.ref p), some (.ref a'), some (.int t), some fv] ∧ Same H H' ∧ TupA H' a' v ∧ m + t = 9 ∧ v.length ≤ 1000 + 1000 * t ∧ ledN (8 - t) (rs.map (·.2.2.2)) v = ledN 8 (rs.map (·.2.2.2)) u ∧ ((onceF (rs.map (·.2.2.2)) v = none ∧ fv = .non) ∨ ∃ w, onceF (rs.map (·.2.2.2)) v = some w ∧ fv = .ref q' ∧ TupA H' q' w ∧ t ≤ 8),
      ⟨9, 0, a, q1, .ref q1, u, rfl, s1, s1 _ _ ha, rfl, by omega, rfl, .inr ⟨x, ho, rfl, hq1, by omega⟩⟩, ?_⟩
    rintro m σ H2 ⟨t, a', q', fv, v, rfl, s2, ha2, hm, hvl, hled, hcase⟩
    rcases hcase with ⟨hno, rfl⟩ | ⟨w', hw, rfl, hq2, ht8⟩
    · refine ⟨_, rfl, _, rfl, iteF ⟨_, rfl, ?_⟩⟩
      refine qs v ?_ a' H2 s2 ha2
      rw [← hled]
      exact led_none hno
    · refine ⟨_, rfl, _, rfl, iteT ?_⟩
      obtain ⟨m', rfl⟩ : ∃ m', m = m' + 1 := ⟨m - 1, by omega⟩
      refine ⟨fun σ' H' => ∃ m'', m'' < m' + 1 ∧ ∃ (t : Nat) (a' q' : Addr) (fv : V) (v : List Str), σ' = [some (.ref p), some (.ref a'), some (.int t), some fv] ∧ Same H H' ∧ TupA H' a' v ∧ m'' + t = 9 ∧ v.length ≤ 1000 + 1000 * t ∧ ledN (8 - t) (rs.map (·.2.2.2)) v = ledN 8 (rs.map (·.2.2.2)) u ∧ ((onceF (rs.map (·.2.2.2)) v = none ∧ fv = .non) ∨ ∃ w, onceF (rs.map (·.2.2.2)) v = some w ∧ fv = .ref q' ∧ TupA H' q' w ∧ t ≤ 8), fun σ' H' h => h, ?_⟩
      refine ⟨_, rfl, _, _, rfl, rfl, _, rfl, _, _, rfl, rfl, _, rfl, ?_⟩
      by_cases h9 : (8 : Int) < (t : Int) + 1
      · rw [decide_eq_true h9]
        have et : t = 8 := by omega
        subst et
        have hn : ledN 8 (rs.map (·.2.2.2)) u = none := by rw [← hled]; exact led_zero hw
        have e8 : (toString (8 : Int) : Str) = "8" := by decide +kernel
        have l0 : (Str.empty ++ ("more than " : Str)).length ≤ 100 := by decide +kernel
        have l1 : ((Str.empty ++ ("more than " : Str)) ++ ("8" : Str)).length ≤ 100 := by decide +kernel
        have l2 : (((Str.empty ++ ("more than " : Str)) ++ ("8" : Str)) ++ (" times it would be led on" : Str)).length ≤ 100 := by decide +kernel
        refine iteT ⟨_, rfl, big _ (by omega), .inl ⟨8, rfl, by decide +kernel, _, rfl, ?_, _, rfl, ?_, by simp, qn hn H2 s2⟩⟩
        · rw [e8]; exact big _ (by omega)
        · rw [e8]; exact big _ (by omega)
      · rw [decide_eq_false h9]
        refine iteF ?_
        have hwl := grow hw
        have hled' : ledN (8 - (t + 1)) (rs.map (·.2.2.2)) w' = ledN 8 (rs.map (·.2.2.2)) u := by
          rw [← hled]
          have : 8 - t = (8 - (t + 1)) + 1 := by omega
          rw [this, led_succ hw]
        refine ⟨_, rfl, ?_⟩
        refine ⟨_, rfl, _, rfl, p, q', rs, w', rfl, hp.same s2, hrs.ts s2.ts, nd, hz, hgl, hq2, by omega, fun ho3 H3 s3 => ?_, fun x3 ho3 q3 H3 s3 hq3 => ?_⟩
        · exact ⟨m', Nat.lt_succ_self _, t + 1, q', q', _, w', rfl, s2.trans s3, s3 _ _ hq2, by omega, by omega, hled', .inl ⟨ho3, rfl⟩⟩
        · exact ⟨m', Nat.lt_succ_self _, t + 1, q', q3, _, w', rfl, s2.trans s3, s3 _ _ hq2, by omega, by omega, hled', .inr ⟨x3, ho3, rfl, hq3, by omega⟩⟩
end
end LW
namespace LW
open PySem L2 Mi Co
section
variable {P : Program} {w : World} {K : PySem.W.Frag} {mg : Str → Option Value} {base : Heap} {f : Addr} {fd : FuncData}
theorem scIsN : FnScope ["rules", "rule", "others"] ["rules", "rule"] (defScope sIsN) := ⟨rfl, rfl, rfl, by decide +kernel, rfl, by decide +kernel, by decide +kernel⟩
theorem ndIN0 : (["each", "rule"] : List Str).Nodup := by decide +kernel
theorem ok_isneedless {k : Nat} (F : Fun K "is_needless" "is_needless" sIsN f fd) (G : Blt mg) (h0 : IsInt mg "BEGINNING" 0) (h1 : IsInt mg "GOAL" 1) (hOnce : Has P w K mg base "once" k ["rules", "address"] spOnce) : FnOk P w K mg base CX0 (k + 1) f fd ["rules", "rule"] spIsNeedless := by
  refine F.ok scIsN (fun vs H Q E h => ?_) (fun cdv A outer s H vs Q E hr h => ?_)
  · obtain ⟨p, rs, x, rfl, _⟩ := h
    rfl
  obtain ⟨p, rs, x, rfl, hp, hrs, hx, nd, hz, hgl, hxl, q⟩ := h
  obtain ⟨t0, m0⟩ := h0
  obtain ⟨t1, m1⟩ := h1
  refine ⟨_, (pss_cons (ps_compF (ix := 2) (tt := (tTest (tOp (rNeD K) (tOp (rIxT K) (tVar 0) (tC (.int 0))) (tOp (rIxT K) (tVar 1) (tC (.int 0)))))) (te := (tVar 0)) (xs := ["each"]) (ys := ["rule"]) (js := [1]) rfl (by decide +kernel) (by decide +kernel) rfl (by decide +kernel) ⟨rfl, .inl rfl, rfl, trivial⟩
      (pi_seq (pv 0)) (fun _ _ _ _ _ => (pg_name (i := 0) ndIN0 rfl (Or.inl rfl) (.inr rfl))) (fun _ _ _ _ _ => pts_one (pt_cmpR (op_neD (hu8 hr)) (pe_ix ix_tup (pv 0) (pe_glob rfl m0 (v := .int 0) ⟨_, rfl⟩) fun _ _ => rfl) (pe_ix ix_tup (pv 1) (pe_glob rfl m0 (v := .int 0) ⟨_, rfl⟩) fun _ _ => rfl) (nomark _))) (fun _ _ _ _ _ => (pv 0)) scIsN.nd rfl (Or.inl rfl))
    (pss_one (ps_ret (pe_cmpR (op_eqM (hu8 hr)) (pe_callH hOnce hr rfl (pa_cons (pv 2) (pa_cons (pe_ix ix_tup (pv 1) (pe_glob rfl m0 (v := .int 0) ⟨_, rfl⟩) fun _ _ => rfl) pa_nil))) (pe_ix ix_tup (pv 1) (pe_glob rfl m1 (v := .int 1) ⟨_, rfl⟩) fun _ _ => rfl) (nomark _))))), ?_⟩
  have comp : ∀ (D : Addr) (J : It), H D = none → Tells J H (rs.map fun x => V.ref x.1) → ∀ QD : Hp → Prop, (∀ H', Same H H' → H' D = some (.lst ((rs.filter fun y => !decide (y.2.2.2.1 = x.2.2.2.1)).map fun x => V.ref x.1)) → QD H') → _ := fun D J hD T QD hq => compF_gen (J := J) (tt := tTest (tOp (rNeD K) (tOp (rIxT K) (tVar 0) (tC (.int 0))) (tOp (rIxT K) (tVar 1) (tC (.int 0))))) (te := tVar 0) (QD := QD) (fun x : Rx => V.ref x.1) (fr := [some (.ref x.1)]) (fun x => .ref x.1) (fun y => !decide (y.2.2.2.1 = x.2.2.2.1)) D hD T (bigl _ (by omega))
    (fun y H1 Rr hy s1 hR1 => by
      have hy1 := (hrs y hy).ts s1.ts
      have hx1 := hx.ts s1.ts
      refine ⟨_, rfl, y.1, _, _, V.ref y.2.1, rfl, rfl, SqT.of hy1.1, rfl, _, rfl, x.1, _, _, V.ref x.2.1, rfl, rfl, SqT.of hx1.1, rfl, _, _, str_dat hy1.2.1, str_dat hx1.2.1, by rw [deeps0']; decide, _, rfl, ?_⟩
      rw [tup_beq]
      exact hR1 H1 (Same.refl _))
    (fun y H1 Rr hy _ s1 hR1 => ⟨_, rfl, hR1 H1 (Same.refl _)⟩) hq
  have fin : ∀ (D : Addr) (H1 : Hp), Same H H1 → H1 D = some (.lst ((rs.filter fun y => !decide (y.2.2.2.1 = x.2.2.2.1)).map fun x => V.ref x.1)) → _ := fun D H1 s1 hD1 => by
    have hx1 := hx.ts s1.ts
    have eR : (rs.filter fun y => !decide (y.2.2.2.1 = x.2.2.2.1)).map (·.2.2.2) = rest (rs.map (·.2.2.2)) x.2.2.2.1 := filter_rls rs fun r => !decide (r.1 = x.2.2.2.1)
    have hfl : (rs.filter fun y => !decide (y.2.2.2.1 = x.2.2.2.1)).length ≤ rs.length := List.length_filter_le _ _
    have hd2 : IsDat K H1 (tupD x.2.2.2.2) (.ref x.2.2.1) := str_dat hx1.2.2
    show tOp (rEqM K) (tCall spOnce [] E0 (tCons (tVar 2) (tCons (tOp (rIxT K) (tVar 1) (tC (.int 0))) tNil))) (tOp (rIxT K) (tVar 1) (tC (.int 1))) [some (.ref p), some (.ref x.1), some (.ref D)] H1 Q
    refine ⟨_, rfl, _, rfl, x.1, _, _, V.ref x.2.1, rfl, rfl, SqT.of hx1.1, rfl, D, x.2.1, _, _, rfl, .inr hD1, fun y hy => (hrs y (List.mem_filter.mp hy).1).ts s1.ts, by rw [eR]; exact rest_nd nd _, by omega, fun r hr' => ?_, hx1.2.1, by omega, fun ho H2 s2 => ?_, fun z ho q2 H2 s2 hq2 => ?_⟩
    · rw [eR] at hr'
      exact hgl r (rest_mem.mp hr').1
    · refine ⟨_, rfl, x.1, _, _, V.ref x.2.2.1, rfl, rfl, SqT.of (s2 _ _ hx1.1), rfl, .non, tupD x.2.2.2.2, rfl, IsDat.same s2 hd2, trivial, trivial, Nat.zero_le _, ?_⟩
      have := q H2 (s1.trans s2)
      unfold needs at this
      rw [eR] at ho
      rw [ho] at this
      exact this
    · refine ⟨_, rfl, x.1, _, _, V.ref x.2.2.1, rfl, rfl, SqT.of (s2 _ _ hx1.1), rfl, tupD z, tupD x.2.2.2.2, str_dat hq2, IsDat.same s2 hd2, trivial, trivial, by show Dat.deeps _ + 1 ≤ 6; rw [deeps0']; decide, ?_⟩
      have := q H2 (s1.trans s2)
      unfold needs at this
      rw [eR] at ho
      rw [ho] at this
      have e : Dat.beq (tupD z) (tupD x.2.2.2.2) = decide (some z = some x.2.2.2.2) := by
        show Dat.beqs _ _ = _
        rw [tup_beq]
        by_cases h : z = x.2.2.2.2
        · rw [h, decide_eq_true rfl, decide_eq_true rfl]
        · rw [decide_eq_false h, decide_eq_false fun e => h (by injection e)]
      rw [e]
      exact this
  rcases hp with hp | hp
  · exact ⟨_, rfl, p, rfl, .inr ⟨⟨_, SqT.of hp⟩, fun D hD => comp D _ hD (tells_tup (SqT.of hp)) _ fun H1 s1 hD1 => fin D H1 s1 hD1⟩⟩
  · exact ⟨_, rfl, p, rfl, .inl ⟨⟨_, SqL.of hp⟩, fun D hD => comp D _ hD (tells_list (SqL.of hp)) _ fun H1 s1 hD1 => fin D H1 s1 hD1⟩⟩
theorem scNeedless : FnScope ["rules"] ["rules"] (defScope sNeedless) := ⟨rfl, rfl, rfl, by decide +kernel, rfl, by decide +kernel, by decide +kernel⟩
theorem ndNL0 : (["rule", "rules"] : List Str).Nodup := by decide +kernel
theorem ok_needless {k : Nat} (F : Fun K "needless" "needless" sNeedless f fd) (G : Blt mg) (h0 : IsInt mg "BEGINNING" 0) (hIsN : Has P w K mg base "is_needless" k ["rules", "rule"] spIsNeedless) : FnOk P w K mg base CX0 (k + 1) f fd ["rules"] spNeedless := by
  refine F.ok scNeedless (fun vs H Q E h => ?_) (fun cdv A outer s H vs Q E hr h => ?_)
  · obtain ⟨p, R, rfl, _⟩ := h
    rfl
  obtain ⟨p, R, rfl, ⟨rs, hp, hrs, eR⟩, nd, hz, hl, q⟩ := h
  obtain ⟨t0, m0⟩ := h0
  have hrl : rs.length < 64 := by rw [← eR, List.length_map] at hz; exact hz
  refine ⟨_, (pss_one (ps_ret (pe_callTy call_tuple_of rfl G.tuple boot_tuple (pa_cons (pe_callB call_sortT rfl G.sorted boot_sorted (pa_cons (pe_compF (tt := (tB (tCall spIsNeedless [] E0 (tCons (tVar 1) (tCons (tVar 0) tNil))))) (te := (tOp (rIxT K) (tVar 0) (tC (.int 0)))) (xs := ["rule"]) (ys := ["rules"]) (js := [0]) rfl (by decide +kernel) (by decide +kernel) rfl (by decide +kernel) ⟨rfl, .inl rfl, rfl, trivial⟩
      (pi_tup (pv 0)) (fun _ _ _ _ _ => (pg_name (i := 0) ndNL0 rfl (Or.inl rfl) (.inr rfl))) (fun _ _ _ _ _ => pts_one (pt_val (pe_callH hIsN hr rfl (pa_cons (pv 1) (pa_cons (pv 0) pa_nil))))) (fun _ _ _ _ _ => (pe_ix ix_tup (pv 0) (pe_glob rfl m0 (v := .int 0) ⟨_, rfl⟩) fun _ _ => rfl))) pa_nil)) pa_nil)))), ?_⟩
  refine ⟨_, rfl, p, rfl, ⟨_, SqT.of hp⟩, fun D hD => ?_⟩
  refine compF_gen (fun x : Rx => V.ref x.1) (fr := [some (.ref p)]) (fun x => .ref x.2.1) (fun x => needs R x.2.2.2) D hD (tells_tup (SqT.of hp)) (bigl _ (by omega)) ?_ ?_ ?_
  · intro x H1 Rr hx s1 hR1
    have hxR : x.2.2.2 ∈ R := by rw [← eR]; exact List.mem_map.mpr ⟨x, hx, rfl⟩
    refine ⟨_, rfl, _, rfl, p, rs, x, rfl, .inl (s1 _ _ hp), hrs.ts s1.ts, (hrs x hx).ts s1.ts, by rw [eR]; exact nd, by omega, fun r hr' => (hl r (by rw [← eR]; exact hr')).1, (hl _ hxR).2, fun H2 s2 => ⟨_, rfl, ?_⟩⟩
    rw [eR]
    exact hR1 H2 s2
  · intro x H1 Rr hx _ s1 hR1
    exact ⟨_, rfl, x.1, _, _, V.ref x.2.1, rfl, rfl, SqT.of (s1 _ _ (hrs x hx).1), rfl, hR1 H1 (Same.refl _)⟩
  intro H1 s1 hD1
  have eB : ((rs.filter fun x => needs R x.2.2.2).map fun x => V.ref x.2.1) = (((rs.filter fun x => needs R x.2.2.2).map fun x => (x.2.1, x.2.2.2.1)).map fun r => V.ref r.1) := by rw [List.map_map]; rfl
  rw [eB] at hD1
  have hfl : (rs.filter fun x => needs R x.2.2.2).length ≤ rs.length := List.length_filter_le _ _
  have hall : ∀ r ∈ (rs.filter fun x => needs R x.2.2.2).map fun x => (x.2.1, x.2.2.2.1), H1 r.1 = some (.tup (r.2.map V.str)) ∧ r.2 ≠ [] := fun r hr' => by
    obtain ⟨x, hx, rfl⟩ := List.mem_map.mp hr'
    have hx' := List.mem_filter.mp hx
    exact ⟨s1 _ _ (hrs x hx'.1).2.1, needs_ne hx'.2⟩
  refine ⟨D, _, rfl, .inl (SqL.of hD1), by rw [List.length_map]; omega, (fun r hr' => ⟨SqT.of (hall r hr').1, (hall r hr').2⟩), fun l rs' nl hp' hs' => ?_⟩
  have s2 := Same.new nl (.lst (rs'.map fun r => V.ref r.1))
  refine ⟨l, _, rfl, .inl ⟨SqL.of upd_same, fun q2 nq2 => ?_⟩⟩
  have s3 := Same.new nq2 (.tup (rs'.map fun r => V.ref r.1))
  have s13 := s2.trans s3
  have ndm : (((rs.filter fun x => needs R x.2.2.2).map fun x => (x.2.1, x.2.2.2.1)).map (·.2)).Nodup := by
    rw [List.map_map]
    have e2 : (rs.filter fun x => needs R x.2.2.2).map ((fun x => x.2) ∘ fun x : Rx => (x.2.1, x.2.2.2.1)) = ((rs.filter fun x => needs R x.2.2.2).map (·.2.2.2)).map (·.1) := by rw [List.map_map]; rfl
    rw [e2, filter_rls rs (needs R), eR]
    exact nd.sublist (List.filter_sublist.map _)
  refine q q2 (rs'.map (·.2)) _ (s1.trans s13) ⟨rs', upd_same, fun r hr' => s13 _ _ (hall r (hp'.mem_iff.mp hr')).1, rfl⟩ (rise_of_sort ndm (hp'.map _) hs') fun u => ?_
  rw [(hp'.map (·.2)).mem_iff, List.map_map]
  constructor
  · intro h
    obtain ⟨x, hx, rfl⟩ := List.mem_map.mp h
    have hx' := List.mem_filter.mp hx
    exact ⟨x.2.2.2, by rw [← eR]; exact List.mem_map.mpr ⟨x, hx'.1, rfl⟩, hx'.2, rfl⟩
  · rintro ⟨r, hr', hn, rfl⟩
    rw [← eR] at hr'
    obtain ⟨x, hx, rfl⟩ := List.mem_map.mp hr'
    exact List.mem_map.mpr ⟨x, List.mem_filter.mpr ⟨hx, hn⟩, rfl⟩
end
end LW
namespace LW
open PySem L2 Mi Co
section
variable {P : Program} {w : World} {K : PySem.W.Frag} {mg : Str → Option Value} {base : Heap} {f : Addr} {fd : FuncData}
theorem scDraw : FnScope ["_law_script", "_law_town", "_law_many", "_law_k", "_law_cell", "_law_number", "_law_more"] ["_law_script", "_law_town", "_law_many"] (defScope sDraw) := ⟨rfl, rfl, rfl, by decide +kernel, rfl, by decide +kernel, by decide +kernel⟩
theorem ok_draw {k : Nat} (F : Fun K "_law_draw" "_law_draw" sDraw f fd) (G : Blt mg) : FnOk P w K mg base CX0 (k + 1) f fd ["_law_script", "_law_town", "_law_many"] (spDraw K) := by
  refine F.ok scDraw (fun vs H Q E h => ?_) (fun cdv A outer s H vs Q E hr h => ?_)
  · obtain ⟨a, t, ns, zs, m, rfl, _⟩ := h
    rfl
  obtain ⟨a, t, ns, zs, m, rfl, hS, h63, hT, hz, hm, q⟩ := h
  refine ⟨_, pss_cons (ps_expr (pe_bm PySem.F.plainAttrs_list PySem.F.slot_list_append PySem.F.type_list_append mt_append (pv 1) (pa_cons pe_int pa_nil)))
    (pss_cons (ps_set (i := 3) scDraw.nd rfl (Or.inl rfl) (pe_callB call_len_seq rfl G.len PySem.boot_len (pa_cons (pv 1) pa_nil)))
    (pss_cons (ps_set (i := 4) scDraw.nd rfl (Or.inl rfl) pe_int)
    (pss_cons (ps_if (pt_truth (pv 0) (fun _ => rfl)) (pss_one (ps_set (i := 4) scDraw.nd rfl (Or.inl rfl) (pe_ix ix_list (pv 0) (pe_op op_mod (pv 3) (pe_callB call_len_seq rfl G.len PySem.boot_len (pa_cons (pv 0) pa_nil))) (fun _ _ => rfl)))) pss_nil)
    (pss_cons (ps_set (i := 5) scDraw.nd rfl (Or.inl rfl) (pe_op op_mod (pe_op op_add (pv 4) (pe_op op_mul pe_int (pv 3))) pe_int))
    (pss_cons (ps_set (i := 5) scDraw.nd rfl (Or.inl rfl) (pe_op op_mod (pe_op op_mul (pe_op op_mod (pe_op op_mul (pv 5) (pv 5)) pe_int) pe_int) pe_int))
    (pss_cons (ps_set (i := 6) scDraw.nd rfl (Or.inl rfl) (pe_op op_mod (pe_op op_mul (pe_op op_mod (pe_op op_mul (pv 5) (pv 5)) pe_int) pe_int) pe_int))
    (pss_one (ps_ret (pe_op op_mod (pe_op op_add (pe_op op_mul (pe_op op_fdiv (pv 5) pe_int) pe_int) (pe_op op_fdiv (pv 6) pe_int)) (pv 2)))))))))), ?_⟩
  refine ⟨_, rfl, .inl ⟨rfl, _, SqL.of hT⟩, t, zs, _, rfl, rfl, hT, bigl _ (by omega), ?_⟩
  have hT' : (upd H t (.lst (zs ++ [V.int 0])) : Hp) t = some (.lst (zs ++ [V.int 0])) := upd_same
  have st : Stp t H (upd H t (.lst (zs ++ [V.int 0]))) := Stp.upd _
  have hS' := hS.stp hT st
  refine ⟨_, rfl, t, _, rfl, .inl (SqL.of hT'), ?_⟩
  refine ⟨_, rfl, _, .inl ⟨_, hS'.sq, rfl⟩, ?_⟩
  have rest : ∀ e : Int, Q (.int (e % m)) (upd H t (.lst (zs ++ [V.int 0]))) := fun e =>
    q _ _ (Int.emod_nonneg _ (by omega)) (Int.emod_lt_of_pos _ hm) hT' st
  refine ite2 (fun c => ?_) (fun c => ?_)
  · have hne : ns ≠ [] := fun e => by subst e; simp at c
    have hlen : 0 < (ns.map V.int).length := by rw [List.length_map]; exact List.length_pos_iff.mpr hne
    obtain ⟨v, hv⟩ := at_mod hne (((zs ++ [V.int 0]).length : Nat) : Int)
    refine ⟨_, rfl, _, rfl, _, rfl, a, _, rfl, .inl hS'.sq, _, _, rfl, rfl, by omega, a, _, _, _, rfl, rfl, hS'.sq, hv, ?_⟩
    refine ⟨_, rfl, _, rfl, _, _, rfl, rfl, .inl ⟨by decide, by decide⟩, _, _, rfl, rfl, _, _, rfl, rfl, (show (0 : Int) < 4294967291 by decide), ?_⟩
    refine ⟨_, rfl, _, rfl, _, _, rfl, rfl, .inl ⟨by omega, by omega⟩, _, _, rfl, rfl, (show (0 : Int) < 4294967279 by decide), _, _, rfl, rfl, .inl ⟨by omega, by omega⟩, _, _, rfl, rfl, (show (0 : Int) < 4294967291 by decide), ?_⟩
    refine ⟨_, rfl, _, rfl, _, _, rfl, rfl, .inl ⟨by omega, by omega⟩, _, _, rfl, rfl, (show (0 : Int) < 4294967279 by decide), _, _, rfl, rfl, .inl ⟨by omega, by omega⟩, _, _, rfl, rfl, (show (0 : Int) < 4294967291 by decide), ?_⟩
    exact ⟨_, rfl, _, _, rfl, rfl, ⟨by decide, by decide⟩, _, _, rfl, rfl, .inl ⟨by omega, by omega⟩, _, rfl, _, _, rfl, rfl, ⟨by decide, by decide⟩, _, _, rfl, rfl, _, rfl, _, _, rfl, rfl, hm, rest _⟩
  · refine ⟨_, rfl, _, rfl, _, _, rfl, rfl, .inl ⟨by decide, by decide⟩, _, _, rfl, rfl, _, _, rfl, rfl, (show (0 : Int) < 4294967291 by decide), ?_⟩
    refine ⟨_, rfl, _, rfl, _, _, rfl, rfl, .inl ⟨by omega, by omega⟩, _, _, rfl, rfl, (show (0 : Int) < 4294967279 by decide), _, _, rfl, rfl, .inl ⟨by omega, by omega⟩, _, _, rfl, rfl, (show (0 : Int) < 4294967291 by decide), ?_⟩
    refine ⟨_, rfl, _, rfl, _, _, rfl, rfl, .inl ⟨by omega, by omega⟩, _, _, rfl, rfl, (show (0 : Int) < 4294967279 by decide), _, _, rfl, rfl, .inl ⟨by omega, by omega⟩, _, _, rfl, rfl, (show (0 : Int) < 4294967291 by decide), ?_⟩
    exact ⟨_, rfl, _, _, rfl, rfl, ⟨by decide, by decide⟩, _, _, rfl, rfl, .inl ⟨by omega, by omega⟩, _, rfl, _, _, rfl, rfl, ⟨by decide, by decide⟩, _, _, rfl, rfl, _, rfl, _, _, rfl, rfl, hm, rest _⟩
end
end LW
namespace LW
open PySem L2 Mi Co
section
variable {P : Program} {w : World} {K : PySem.W.Frag} {mg : Str → Option Value} {base : Heap} {f : Addr} {fd : FuncData}
theorem scPick : FnScope ["_law_script", "_law_town", "_law_some"] ["_law_script", "_law_town", "_law_some"] (defScope sPick) := ⟨rfl, rfl, rfl, by decide +kernel, rfl, by decide +kernel, by decide +kernel⟩
theorem ok_pick {k : Nat} (F : Fun K "_law_pick" "_law_pick" sPick f fd) (G : Blt mg) (hD : Has P w K mg base "_law_draw" k ["_law_script", "_law_town", "_law_many"] (spDraw K)) : FnOk P w K mg base CX0 (k + 1) f fd ["_law_script", "_law_town", "_law_some"] (spPick K) := by
  refine F.ok scPick (fun vs H Q E h => ?_) (fun cdv A outer s H vs Q E hr h => ?_)
  · obtain ⟨a, t, ns, zs, _, _, _, _, ⟨l, xs, rfl, _⟩ | ⟨z, rfl, _⟩⟩ := h <;> rfl
  obtain ⟨a, t, ns, zs, hS, h63, hT, hz, h⟩ := h
  refine ⟨_, pss_one (ps_ret (pe_ix ix_seq (pv 2) (pe_callH hD hr rfl (pa_cons (pv 0) (pa_cons (pv 1) (pa_cons (pe_callB (call_len_seq.or call_len_str) rfl G.len PySem.boot_len (pa_cons (pv 2) pa_nil)) pa_nil)))) (fun _ _ => rfl))), ?_⟩
  rcases h with ⟨l, xs, rfl, hl, hne, hx, q⟩ | ⟨z, rfl, hz0, hz1, q⟩
  · refine ⟨_, rfl, _, rfl, _, rfl, _, rfl, .inl ⟨l, _, rfl, .inl (SqL.of hl), a, t, ns, zs, _, rfl, hS, h63, hT, hz, by omega, fun r H' h0 h1 hT' st => ?_⟩⟩
    obtain ⟨v, hv, hm⟩ := at_place h0 h1
    exact .inl ⟨l, xs, r, v, rfl, rfl, SqL.of (st l _ hne hl), hv, q v H' hm hT' st⟩
  · refine ⟨_, rfl, _, rfl, _, rfl, _, rfl, .inr ⟨z, rfl, big _ (by omega), a, t, ns, zs, _, rfl, hS, h63, hT, hz, by omega, fun r H' h0 h1 hT' st => ?_⟩⟩
    have hl : z.cps.toList.length = z.length := by simp [Str.length]
    obtain ⟨v, hv, hm⟩ := at_place (xs := z.cps.toList) h0 (by rw [hl]; exact h1)
    exact .inr (.inr ⟨z, r, v, rfl, rfl, big _ (by omega), hv, q v H' hm hT' st⟩)
end
end LW
namespace LW
open PySem L2 Mi Co
structure Gr (R : List Rl) : Prop where
  nd : (R.map (·.1)).Nodup
  len : ∀ r ∈ R, r.1.length ≤ 4 ∧ r.2.length ≤ 4
def spAddr (K : PySem.W.Frag) : Sp := fun vs H Q _ => ∃ (a t : Addr) (ns : List Int) (zs : List V) (m : Nat), vs = [.ref a, .ref t, .int m] ∧ Scr K H a ns ∧ ns.length ≤ 63 ∧ H t = some (.lst zs) ∧ zs.length < 40000 ∧ m ≤ 10 ∧
  ∀ (q : Addr) (u : List Str) (zs' : List V) (H' : Hp), H' t = some (.lst zs') → zs'.length ≤ zs.length + 12 → Stp t H H' → TupA H' q u → u.length ≤ m → Q (.ref q) H'
def spRules (K : PySem.W.Frag) : Sp := fun vs H Q _ => ∃ (a t : Addr) (ns : List Int) (zs : List V), vs = [.ref a, .ref t] ∧ Scr K H a ns ∧ ns.length ≤ 63 ∧ H t = some (.lst zs) ∧ zs.length < 30000 ∧
  ∀ (p : Addr) (R : List Rl) (zs' : List V) (H' : Hp), H' t = some (.lst zs') → zs'.length ≤ zs.length + 200 → Stp t H H' → RlsAt H' p R → Gr R → R.length ≤ 7 → Q (.ref p) H'
def spLOnce : Sp := fun vs H Q _ => ∃ (p a : Addr) (R : List Rl) (u : List Str), vs = [.ref p, .ref a] ∧ RlsAt H p R ∧ (R.map (·.1)).Nodup ∧ R.length < 64 ∧ (∀ r ∈ R, r.2.length ≤ 1000) ∧ TupA H a u ∧ u.length ≤ 900 ∧ (onceF R u = none → ∀ H', Same H H' → Q .non H') ∧ (∀ x, onceF R u = some x → ∀ q H', Same H H' → TupA H' q x → Q (.ref q) H')
def spLedN : Sp := fun vs H Q _ => ∃ (p a : Addr) (R : List Rl) (u : List Str), vs = [.ref p, .ref a] ∧ RlsAt H p R ∧ (R.map (·.1)).Nodup ∧ R.length ≤ 100 ∧ (∀ r ∈ R, r.2.length ≤ 50) ∧ TupA H a u ∧ u.length ≤ 50 ∧ (∀ x, ledN 8 R u = some x → ∀ q H', Same H H' → TupA H' q x → Q (.ref q) H') ∧ (ledN 8 R u = none → ∀ H', Same H H' → Q .non H')
section
variable {P : Program} {w : World} {K : PySem.W.Frag} {mg : Str → Option Value} {base : Heap} {f : Addr} {fd : FuncData}
theorem scAddr : FnScope ["_law_script", "_law_town", "_law_most"] ["_law_script", "_law_town", "_law_most"] (defScope sAddr) := ⟨rfl, rfl, rfl, by decide +kernel, rfl, by decide +kernel, by decide +kernel⟩
theorem ndA0 : (["_law_k", "_law_script", "_law_town"] : List Str).Nodup := by decide +kernel
theorem ok_addr {k : Nat} (F : Fun K "_law_address" "_law_address" sAddr f fd) (G : Blt mg) (hDraw : Has P w K mg base "_law_draw" k ["_law_script", "_law_town", "_law_many"] (spDraw K)) (hPick : Has P w K mg base "_law_pick" k ["_law_script", "_law_town", "_law_some"] (spPick K)) :
    FnOk P w K mg base CX0 (k + 1) f fd ["_law_script", "_law_town", "_law_most"] (spAddr K) := by
  refine F.ok scAddr (fun vs H Q E h => ?_) (fun cdv A outer s H vs Q E hr h => ?_)
  · obtain ⟨a, t, ns, zs, m, rfl, _⟩ := h
    rfl
  obtain ⟨a, t, ns, zs, m, rfl, hS, h63, hT, hz, hm, q⟩ := h
  refine ⟨_, (pss_one (ps_ret (pe_callTy call_tuple_of rfl G.tuple boot_tuple (pa_cons (pe_compF (te := (tCall (spPick K) [] E0 (tCons (tVar 1) (tCons (tVar 2) (tCons (tC (.str "ab")) tNil))))) (xs := ["_law_k"]) (ys := ["_law_script", "_law_town"]) (js := [0, 1]) rfl (by decide +kernel) (by decide +kernel) rfl (by decide +kernel) ⟨rfl, .inl rfl, rfl, rfl, .inl rfl, rfl, trivial⟩
      (pi_range1 rfl G.range (pa_cons (pe_callH hDraw hr rfl (pa_cons (pv 0) (pa_cons (pv 1) (pa_cons (pe_op op_add (pv 2) pe_int) pa_nil)))) pa_nil)) (fun _ _ _ _ _ => (pg_name (i := 0) ndA0 rfl (Or.inl rfl) (.inr rfl))) (fun _ _ _ _ _ => pts_nil) (fun _ _ _ _ _ => (pe_callH hPick hr rfl (pa_cons (pv 1) (pa_cons (pv 2) (pa_cons pe_str pa_nil)))))) pa_nil)))), ?_⟩
  refine ⟨_, rfl, _, rfl, _, rfl, _, _, rfl, rfl, a, t, ns, zs, _, rfl, hS, h63, hT, by omega, by omega, fun n1 H1 hn0 hn1 hT1 st1 => ?_⟩
  have hS1 := hS.stp hT st1
  refine ⟨n1, rfl, by omega, by omega, fun D hD => ?_⟩
  refine compF_draws ["a", "b"] D hD hS1 hT1 (by omega) (by simp; omega) (fun x H5 R5 zs5 hS5 hT5 hz5 hR5 => ?_) fun u zs2 H2 hul _ hT2 hl2 st2 hD2 => ?_
  · refine ⟨_, rfl, _, rfl, a, t, ns, zs5, hS5, h63, hT5, by omega, .inr ⟨"ab", rfl, by decide +kernel, by decide +kernel, fun c H6 hc hT6 st6 => ?_⟩⟩
    have e : (("ab" : Str).cps.toList) = [97, 98] := by decide +kernel
    rw [e] at hc
    have hmem : (⟨#[c]⟩ : Str) ∈ (["a", "b"] : List Str) := by
      simp only [List.mem_cons, List.not_mem_nil, or_false] at hc
      rcases hc with rfl | rfl
      · have : (⟨#[97]⟩ : Str) = "a" := by decide +kernel
        rw [this]; exact List.mem_cons_self ..
      · have : (⟨#[98]⟩ : Str) = "b" := by decide +kernel
        rw [this]; exact List.mem_cons_of_mem _ (List.mem_cons_self ..)
    exact hR5 _ H6 hmem hT6 st6
  refine ⟨D, _, rfl, .inl ⟨SqL.of hD2, fun tb ntb => ?_⟩⟩
  have s3 := Same.new ntb (.tup (u.map V.str))
  exact q tb u zs2 _ (s3 _ _ hT2) (by rw [hl2]; simp; omega) ((st1.trans st2).trans (s3.stp (t := t))) upd_same (by omega)
theorem scRules : FnScope ["_law_script", "_law_town", "_law_found", "_law_k"] ["_law_script", "_law_town"] (defScope sRules) := ⟨rfl, rfl, rfl, by decide +kernel, rfl, by decide +kernel, by decide +kernel⟩
theorem ok_rules {k : Nat} (F : Fun K "_law_rules" "_law_rules" sRules f fd) (G : Blt mg) (hDraw : Has P w K mg base "_law_draw" k ["_law_script", "_law_town", "_law_many"] (spDraw K)) (hAddr : Has P w K mg base "_law_address" k ["_law_script", "_law_town", "_law_most"] (spAddr K)) :
    FnOk P w K mg base CX0 (k + 1) f fd ["_law_script", "_law_town"] (spRules K) := by
  refine F.ok scRules (fun vs H Q E h => ?_) (fun cdv A outer s H vs Q E hr h => ?_)
  · obtain ⟨a, t, ns, zs, rfl, _⟩ := h
    rfl
  obtain ⟨a, t, ns, zs, rfl, hS, h63, hT, hz, q⟩ := h
  have hu := hu_of hr
  refine ⟨_, (pss_cons (ps_set (i := 2) scRules.nd rfl (Or.inl rfl) pe_dnewT)
    (pss_cons (ps_for PassesOwn.never rfl (pi_range1 rfl G.range (pa_cons (pe_callH hDraw hr rfl (pa_cons (pv 0) (pa_cons (pv 1) (pa_cons pe_int pa_nil)))) pa_nil)) (pg_name (i := 3) scRules.nd rfl (Or.inl rfl))
      (pss_one (ps_dput hu (pv 2) (pe_callH hAddr hr rfl (pa_cons (pv 0) (pa_cons (pv 1) (pa_cons pe_int pa_nil)))) (pe_callH hAddr hr rfl (pa_cons (pv 0) (pa_cons (pv 1) (pa_cons pe_int pa_nil)))) rfl)))
    (pss_one (ps_ret (pe_tupItems rfl rfl G.tuple (pv 2)))))), ?_⟩
  intro g ng
  have s0 := Same.new ng (.dT [])
  have hg0 : (upd H g (.dT []) : Hp) g = some (.dT []) := upd_same
  have hgt : g ≠ t := (ne_of_none hT ng).symm
  generalize (upd H g (.dT []) : Hp) = H0 at *
  have hT0 := s0 _ _ hT
  refine ⟨_, rfl, _, rfl, a, t, ns, zs, 7, rfl, hS.same s0, h63, hT0, by omega, by decide, fun mm H2 hm0 hm1 hT2 st2 => ?_⟩
  refine ⟨mm, rfl, by omega, by omega, ?_⟩
  refine for_range (n := mm.toNat) (fun j σ H' => ∃ (v3 : Option V) (kvs : List (List Key × V)) (us : List (List Str)) (zs' : List V), σ = [some (.ref a), some (.ref t), some (.ref g), v3] ∧ H' t = some (.lst zs') ∧ zs'.length ≤ zs.length + 1 + 24 * j ∧ Scr K H' a ns ∧ (∀ b o, b ≠ t → H b = some o → H' b = some o) ∧ H' g = some (.dT kvs) ∧ DRls j 4 H' kvs us)
    ⟨_, [], [], _, rfl, hT2, by simp, (hS.same s0).stp hT0 st2, (fun b o hb e => st2 b o hb (s0 b o e)), st2 _ _ hgt hg0, ⟨rfl, List.nodup_nil, Nat.le_refl _, (fun u hu' => nomatch hu'), fun z hz' => nomatch hz'⟩⟩ ?_ ?_
  · rintro j σ H3 hj ⟨v3, kvs, us, zs3, rfl, hT3, hz3, hS3, kp3, hg3, hd3⟩
    refine ⟨_, rfl, _, rfl, a, t, ns, zs3, 4, rfl, hS3, h63, hT3, by omega, by decide, fun q1 v1 zs4 H4 hT4 hl4 st4 hq4 hv4 => ?_⟩
    have hS4 := hS3.stp hT3 st4
    have ts4 := st4.ts hT3
    refine ⟨_, rfl, _, rfl, _, rfl, a, t, ns, zs4, 4, rfl, hS4, h63, hT4, by omega, by decide, fun q2 u2 zs5 H5 hT5 hl5 st5 hq5 hu5 => ?_⟩
    have ts5 := st5.ts hT4
    have hg5 := st5 _ _ hgt (st4 _ _ hgt hg3)
    have hd5 := hd3.ts (ts4.trans ts5)
    have hkl : kvs.length ≤ j := by have := congrArg List.length hd3.keys; rw [List.length_map, List.length_map] at this; have := hd3.len; omega
    refine ⟨g, _, rfl, DPut.t (k := u2.map Sum.inr) hg5 (by rw [List.map_map]; exact hq5) (bigl _ (by omega)), ?_⟩
    obtain ⟨us', hd6⟩ := hd5.put (v := v1) (q := q1) hu5 (ts5 _ _ hq4) hv4
    have t6 : TS' H5 (upd H5 g (.dT (putK kvs (u2.map Sum.inr) (.ref q1)))) := fun b xs e => by
      rw [upd_ne (fun z => by rw [z, hg5] at e; cases e)]
      exact e
    have kp5 : ∀ b o, b ≠ t → H b = some o → H5 b = some o := fun b o hb e => st5 b o hb (st4 b o hb (kp3 b o hb e))
    refine ⟨_, _, us', zs5, rfl, by rw [upd_ne (Ne.symm hgt)]; exact hT5, by omega, ?_, fun b o hb e => ?_, upd_same, hd6.ts t6⟩
    · have hS5 := hS4.stp hT4 st5
      exact hS5.updD hg5
    · rw [upd_ne (ne_of_none e ng)]
      exact kp5 b o hb e
  · rintro σ H3 ⟨v3, kvs, us, zs3, rfl, hT3, hz3, hS3, kp3, hg3, hd3⟩
    refine ⟨_, rfl, g, kvs, rfl, hg3, fun l as H4 s4 hl eas hall => ?_⟩
    have hd4 := hd3.ts s4.ts
    obtain ⟨rs, e1, e2, e3, e4⟩ := rls_of (m := 4) (H := H4) as us (by rw [← hd4.keys, ← eas, List.map_map]; rfl) hall fun r hr' => hd4.vals r.2.2 (by rw [← eas]; exact List.mem_map.mpr ⟨r, hr', rfl⟩)
    have eU : (rs.map (·.2.2.2)).map (·.1) = us := by rw [List.map_map]; exact e3
    have hlR : (rs.map (·.2.2.2)).length ≤ 7 := by
      have := congrArg List.length eU
      rw [List.length_map] at this
      have := hd4.len
      omega
    refine q l (rs.map (·.2.2.2)) zs3 H4 (s4 _ _ hT3) (by omega) (fun b o hb e => s4 b o (kp3 b o hb e)) ⟨rs, by rw [hl, e1], e2, rfl⟩ ⟨by rw [eU]; exact hd4.nd, fun r hr' => ?_⟩ hlR
    obtain ⟨x, hx, rfl⟩ := List.mem_map.mp hr'
    exact ⟨hd4.short _ (by rw [← eU]; exact List.mem_map.mpr ⟨_, hr', rfl⟩), e4 x hx⟩
theorem scLLed : FnScope ["_law_rules_here", "_law_address_here"] ["_law_rules_here", "_law_address_here"] (defScope sLLed) := ⟨rfl, rfl, rfl, by decide +kernel, rfl, by decide +kernel, by decide +kernel⟩
theorem ok_lled {k : Nat} {C : Addr} (F : Fun K "_law_led" "_law_led" sLLed f fd) (O : PyProof.Rows.OwnCls "TooMany" C VE "ValueError.__new__" mg base) (hLed : HasE P w K mg base "led" k ["rules", "address"] (spLed C)) : FnOk P w K mg base CX0 (k + 1) f fd ["_law_rules_here", "_law_address_here"] spLedN := by
  refine F.ok scLLed (fun vs H Q E h => ?_) (fun cdv A outer s H vs Q E hr h => ?_)
  · obtain ⟨p, a, R, u, rfl, _⟩ := h
    rfl
  obtain ⟨p, a, R, u, rfl, ⟨rs, hp, hrs, eR⟩, nd, hz, hgl, ha, hul, qs, qn⟩ := h
  obtain ⟨f', fd', F', b', k', m'⟩ := hLed
  refine ⟨_, (pss_one (ps_try O rfl rfl rfl rfl (psx_ret F' hr rfl m' k' b' (fun _ => pa_cons (pv 0) (pa_cons (pv 1) pa_nil))) (fun _ _ => pss_one (ps_ret pe_non)))), ?_⟩
  have lrs : rs.length = R.length := by rw [← eR, List.length_map]
  subst eR
  exact ⟨_, rfl, _, rfl, p, a, rs, u, rfl, .inl hp, hrs, nd, by omega, (fun r hr' => by have := hgl r hr'; omega), ha, by omega, fun x h q' H' s' hq' => qs x h q' H' s' hq', fun h H' s' => ⟨rfl, qn h H' s'⟩⟩
theorem scSteps : FnScope ["_law_rules_here", "_law_address_here", "_law_turn", "_law_after"] ["_law_rules_here", "_law_address_here"] (defScope sSteps) := ⟨rfl, rfl, rfl, by decide +kernel, rfl, by decide +kernel, by decide +kernel⟩
theorem ok_steps {k : Nat} (F : Fun K "_law_steps" "_law_steps" sSteps f fd) (G : Blt mg) (hOnce : Has P w K mg base "once" k ["rules", "address"] spOnce) : FnOk P w K mg base CX0 (k + 1) f fd ["_law_rules_here", "_law_address_here"] spLedN := by
  refine F.ok scSteps (fun vs H Q E h => ?_) (fun cdv A outer s H vs Q E hr h => ?_)
  · obtain ⟨p, a, R, u, rfl, _⟩ := h
    rfl
  obtain ⟨p, a, R, u, rfl, ⟨rs, hp, hrs, eR⟩, nd, hz, hgl, ha, hul, qs, qn⟩ := h
  have lrs : rs.length = R.length := by rw [← eR, List.length_map]
  subst eR
  have grow : ∀ {v w : List Str}, onceF (rs.map (·.2.2.2)) v = some w → w.length ≤ v.length + 50 := fun {v w} h => by
    unfold onceF at h
    cases hb : best v (rs.map (·.2.2.2)) with
    | none => rw [hb] at h; cases h
    | some r =>
      rw [hb] at h
      obtain rfl := Option.some.inj h
      have := hgl r (best_some hb).1
      show (r.2 ++ v.drop r.1.length).length ≤ _
      rw [List.length_append, List.length_drop]
      omega
  refine ⟨_, (pss_cons (ps_for PassesOwn.never rfl (pi_range1 rfl G.range (pa_cons pe_int pa_nil)) (pg_name (i := 2) scSteps.nd rfl (Or.inl rfl))
      (pss_cons (ps_set (i := 3) scSteps.nd rfl (Or.inl rfl) (pe_callH hOnce hr rfl (pa_cons (pv 0) (pa_cons (pv 1) pa_nil))))
      (pss_cons (ps_if (pt_cmp (pc_isN (pv 3))) (pss_one (ps_ret (pv 1))) pss_nil)
      (pss_one (ps_set (i := 1) scSteps.nd rfl (Or.inl rfl) (pv 3))))))
    (pss_one (ps_ret pe_non))), ?_⟩
  refine ⟨9, rfl, by decide, by decide, ?_⟩
  refine for_range (n := 9) (fun j σ H' => ∃ (v2 v3 : Option V) (a' : Addr) (v : List Str), σ = [some (.ref p), some (.ref a'), v2, v3] ∧ Same H H' ∧ TupA H' a' v ∧ v.length ≤ 50 + 50 * j ∧ ((j ≤ 8 ∧ ledN (8 - j) (rs.map (·.2.2.2)) v = ledN 8 (rs.map (·.2.2.2)) u) ∨ (j = 9 ∧ ledN 8 (rs.map (·.2.2.2)) u = none)))
    ⟨_, _, a, u, rfl, Same.refl _, ha, by omega, .inl ⟨by omega, rfl⟩⟩ ?_ ?_
  · rintro j σ H1 hj ⟨v2, v3, a', v, rfl, s1, ha1, hvl, hled⟩
    have hled : ledN (8 - j) (rs.map (·.2.2.2)) v = ledN 8 (rs.map (·.2.2.2)) u := hled.elim (fun h => h.2) fun h => by omega
    refine ⟨_, rfl, _, rfl, p, a', rs, v, rfl, .inl (s1 _ _ hp), hrs.ts s1.ts, nd, by omega, (fun r hr' => by have := hgl r hr'; omega), ha1, by omega, fun ho H2 s2 => ?_, fun x ho q2 H2 s2 hq2 => ?_⟩
    · refine ⟨_, rfl, _, rfl, iteY rfl ?_⟩
      exact ⟨_, rfl, qs v (by rw [← hled]; exact led_none ho) a' H2 (s1.trans s2) (s2 _ _ ha1)⟩
    · refine ⟨_, rfl, _, rfl, iteN (fun e => nomatch e) ?_⟩
      have hxl := grow ho
      refine ⟨_, rfl, _, _, q2, x, rfl, s1.trans s2, hq2, by omega, ?_⟩
      by_cases h8 : j = 8
      · subst h8
        exact .inr ⟨rfl, by rw [← hled]; exact led_zero ho⟩
      · refine .inl ⟨by omega, ?_⟩
        rw [← hled]
        have : 8 - j = (8 - (j + 1)) + 1 := by omega
        rw [this, led_succ ho]
  · rintro σ H1 ⟨v2, v3, a', v, rfl, s1, ha1, hvl, hled⟩
    exact qn (hled.elim (fun h => absurd h.1 (by decide)) fun h => h.2) H1 s1
theorem scLOnce : FnScope ["_law_rules_here", "_law_address_here", "_law_fits"] ["_law_rules_here", "_law_address_here"] (defScope sLOnce) := ⟨rfl, rfl, rfl, by decide +kernel, rfl, by decide +kernel, by decide +kernel⟩
theorem ndE0 : (["_law_begin", "_law_goal", "_law_address_here"] : List Str).Nodup := by decide +kernel
theorem ok_lonce {k : Nat} (F : Fun K "_law_once" "_law_once" sLOnce f fd) (G : Blt mg) : FnOk P w K mg base CX0 (k + 1) f fd ["_law_rules_here", "_law_address_here"] spLOnce := by
  refine F.ok scLOnce (fun vs H Q E h => ?_) (fun cdv A outer s H vs Q E hr h => ?_)
  · obtain ⟨p, a, R, u, rfl, _⟩ := h
    rfl
  obtain ⟨p, a, R, u, rfl, ⟨rs, hp, hrs, eR⟩, nd, hz, hgl, ha, hul, qn, qs⟩ := h
  have hu0 : (A.deeper (PyProof.Rows.envOfC "_law_once" (defScope sLOnce) s.heap.objs.size f cdv)).units < cLine := by have := hu8 hr; omega
  have lrs : rs.length = R.length := by rw [← eR, List.length_map]
  refine ⟨_, (pss_cons (ps_set (i := 2) scLOnce.nd rfl (Or.inl rfl) (pe_callB call_sortI rfl G.sorted boot_sorted (pa_cons (pe_compF (tt := (tTest (tOp (rEqD K) (tSl rSlH (tVar 2) tNoPart (tPart (tCB (rLen K) (tCons (tVar 0) tNil)))) (tVar 0)))) (te := (tTup (tCons (tCB (rLen K) (tCons (tVar 0) tNil)) (tCons (tVar 0) (tCons (tVar 1) tNil))))) (xs := ["_law_begin", "_law_goal"]) (ys := ["_law_address_here"]) (js := [1]) (g := (gTup K 2 (gCons (gName 0) (gCons (gName 1) gNil)))) rfl (by decide +kernel) (by decide +kernel) rfl (by decide +kernel) ⟨rfl, .inl rfl, rfl, trivial⟩
      (pi_tup (pv 0)) (fun _ _ _ _ _ => (pg_tup rfl (pgs_cons (pg_name (i := 0) ndE0 rfl (Or.inl rfl) (.inr rfl)) (pgs_cons (pg_name (i := 1) ndE0 rfl (Or.inl rfl) (.inr rfl)) pgs_nil)))) (fun _ _ _ _ _ => pts_one (pt_cmpR (op_eqD (hu8 hr)) (pe_slice sl_tupS (pv 2) po_none (po_some (pe_callB call_lenS rfl G.len PySem.boot_len (pa_cons (pv 0) pa_nil)))) (pv 0) (nomark _))) (fun _ _ _ _ _ => (pe_tup (pa_cons (pe_callB call_lenS rfl G.len PySem.boot_len (pa_cons (pv 0) pa_nil)) (pa_cons (pv 0) (pa_cons (pv 1) pa_nil)))))) pa_nil)))
    (pss_cons (ps_if (pt_cmpR (op_eqNil hu0) (pv 2) (pe_lst pa_nil) (nomark _)) (pss_one (ps_ret pe_non)) pss_nil)
    (pss_one (ps_ret (pe_op op_catH (pe_ix ix_tup (pe_ix ix_list (pv 2) (pe_un un_neg pe_int) fun _ _ => rfl) pe_int fun _ _ => rfl) (pe_slice sl_tupH (pv 1) (po_some (pe_ix ix_tup (pe_ix ix_list (pv 2) (pe_un un_neg pe_int) fun _ _ => rfl) pe_int fun _ _ => rfl)) po_none)))))), ?_⟩
  refine ⟨_, rfl, p, rfl, ⟨_, SqT.of hp⟩, fun D hD => ?_⟩
  refine compF_gen2R (K := K) (fun x : Rx => x.1) (fun x => V.ref x.2.1) (fun x => V.ref x.2.2.1) (fr := [some (.ref a)]) (fun x v H' => ∃ c, v = .ref c ∧ H' c = some (.tup [.int (x.2.2.2.1.length : Int), .ref x.2.1, .ref x.2.2.1])) (fun x v H1 H2 t h => let ⟨c, e, hc⟩ := h; ⟨c, e, t _ _ hc⟩) (fun x => fits u x.2.2.2) D hD (tells_tup (SqT.of hp)) (fun x hx => (hrs x hx).1) (bigl _ (by omega)) ?_ ?_ ?_
  · intro x H1 Rr hx s1 hR1
    have hx1 := (hrs x hx).ts s1.ts
    refine ⟨_, rfl, _, rfl, x.2.1, _, rfl, .inr (SqT.of hx1.2.1), _, rfl, a, _, rfl, s1 _ _ ha, fun t2 H2 s2 ht2 => ?_⟩
    rw [List.length_map, cut_toS] at ht2
    refine ⟨_, rfl, _, _, str_dat ht2, str_dat (s2 _ _ hx1.2.1), by rw [deeps0']; decide, _, rfl, ?_⟩
    rw [tup_beq]
    exact hR1 H2 s2
  · intro x H1 Rr hx _ s1 hR1
    have hx1 := (hrs x hx).ts s1.ts
    refine ⟨_, rfl, x.2.1, _, rfl, .inr (SqT.of hx1.2.1), _, rfl, _, rfl, big _ (by simp), fun c nc => ?_⟩
    rw [List.length_map] at *
    exact hR1 _ _ (Same.new nc _) ⟨c, rfl, upd_same⟩
  intro H1 ys s1 hD1 hpr
  obtain ⟨ts, ets, hts, efs⟩ := ti_of hpr
  have hfl : (rs.filter fun x => fits u x.2.2.2).length ≤ rs.length := List.length_filter_le _ _
  have ltl : ts.length ≤ rs.length := by have := congrArg List.length efs; rw [List.length_map, List.length_map] at this; omega
  have hndl : (ts.map (·.2.1)).Nodup := by
    have e0 := fits_lens (a := u) nd
    rw [← eR, ← filter_rls rs (fits u), List.map_map] at e0
    have e1 : ts.map (·.2.1) = ((rs.filter fun x => fits u x.2.2.2).map ((fun r : Rl => r.1.length) ∘ fun x : Rx => x.2.2.2)).map fun n : Nat => (n : Int) := by
      have := congrArg (List.map Prod.fst) efs
      rw [List.map_map, List.map_map] at this
      rw [List.map_map]
      exact this
    rw [e1]
    exact e0.map _ (fun a b h e => h (by omega))
  rw [ets] at hD1
  refine ⟨D, ts, rfl, SqL.of hD1, by omega, (fun r hr' => SqT.of (hts r hr')), hndl, fun l ts' nl hp' hs' => ?_⟩
  have s2 := Same.new nl (.lst (ts'.map fun r => V.ref r.1))
  have hl2 : (upd H1 l (.lst (ts'.map fun r => V.ref r.1)) : Hp) l = some (.lst (ts'.map fun r => V.ref r.1)) := upd_same
  generalize (upd H1 l (.lst (ts'.map fun r => V.ref r.1)) : Hp) = H2 at *
  have s12 := s1.trans s2
  have memT : ∀ r, r ∈ ts' → ∃ x ∈ rs, fits u x.2.2.2 = true ∧ r.2.1 = (x.2.2.2.1.length : Int) ∧ r.2.2.1 = x.2.1 ∧ r.2.2.2 = x.2.2.1 := fun r hr' => by
    have h1 : r.2 ∈ ts.map (·.2) := List.mem_map.mpr ⟨r, hp'.mem_iff.mp hr', rfl⟩
    rw [efs] at h1
    obtain ⟨x, hx, e⟩ := List.mem_map.mp h1
    have hx' := List.mem_filter.mp hx
    exact ⟨x, hx'.1, hx'.2, by rw [← e], by rw [← e], by rw [← e]⟩
  have memF : ∀ x ∈ rs, fits u x.2.2.2 = true → ∃ r ∈ ts', r.2.1 = (x.2.2.2.1.length : Int) := fun x hx hf => by
    have h1 : (((x.2.2.2.1.length : Int), x.2.1, x.2.2.1) : Int × Addr × Addr) ∈ ts.map (·.2) := by
      rw [efs]
      exact List.mem_map.mpr ⟨x, List.mem_filter.mpr ⟨hx, hf⟩, rfl⟩
    obtain ⟨r, hr', e⟩ := List.mem_map.mp h1
    exact ⟨r, hp'.mem_iff.mpr hr', by rw [e]⟩
  refine ⟨_, rfl, big _ (by simp), fun e0 ne0 => ?_⟩
  have s3 := Same.new ne0 (.lst ([] : List V))
  have he0 : (upd H2 e0 (.lst ([] : List V)) : Hp) e0 = some (.lst []) := upd_same
  generalize (upd H2 e0 (.lst ([] : List V)) : Hp) = H3 at *
  refine ⟨l, e0, _, rfl, rfl, SqL.of (s3 _ _ hl2), SqL.of he0, _, rfl, ?_⟩
  rcases List.eq_nil_or_concat ts' with e | ⟨ini, r, e⟩
  · subst e
    refine iteT (qn (once_none.mpr fun r hr' => ?_) H3 (s12.trans s3))
    rw [← eR] at hr'
    obtain ⟨x, hx, rfl⟩ := List.mem_map.mp hr'
    cases hf : fits u x.2.2.2 with
    | false => rfl
    | true =>
      obtain ⟨r, hr2, _⟩ := memF x hx hf
      cases hr2
  · rw [List.concat_eq_append] at e
    subst e
    have hem : ((ini ++ [r]).map fun r => V.ref r.1).isEmpty = false := by simp
    rw [hem]
    have hr' : r ∈ ini ++ [r] := List.mem_append_right _ (List.mem_singleton.mpr rfl)
    have hlast : atI ((ini ++ [r]).map fun r => V.ref r.1) (-1) = some (V.ref r.1) := by rw [List.map_append]; exact at_last _ _
    obtain ⟨x, hx, hf, e1, e2, e3⟩ := memT r hr'
    have hx3 := (hrs x hx).ts (s12.trans s3).ts
    have hxR : x.2.2.2 ∈ R := by rw [← eR]; exact List.mem_map.mpr ⟨x, hx, rfl⟩
    have hr3 : H3 r.1 = some (.tup [.int r.2.1, .ref r.2.2.1, .ref r.2.2.2]) := s3 _ _ (s2 _ _ (hts r (hp'.mem_iff.mp hr')))
    have hB : Best R u x.2.2.2 := ⟨hxR, hf, fun z hz' hfz => by
      rw [← eR] at hz'
      obtain ⟨y, hy, rfl⟩ := List.mem_map.mp hz'
      obtain ⟨r2, hr2, e4⟩ := memF y hy hfz
      have hle : r2.2.1 ≤ r.2.1 := by
        rcases List.mem_append.mp hr2 with h2 | h2
        · exact (List.pairwise_append.mp hs').2.2 r2 h2 r (List.mem_singleton.mpr rfl)
        · rw [List.mem_singleton.mp h2]; exact Int.le_refl _
      omega⟩
    refine iteF ⟨_, rfl, _, rfl, l, _, _, V.ref r.1, rfl, rfl, SqL.of (s3 _ _ hl2), hlast, r.1, _, _, V.ref r.2.2.2, rfl, rfl, SqT.of hr3, rfl, _, rfl, _, rfl, _, rfl, l, _, _, V.ref r.1, rfl, rfl, SqL.of (s3 _ _ hl2), hlast, r.1, _, _, V.int r.2.1, rfl, rfl, SqT.of hr3, rfl, _, rfl, a, _, rfl, (s12.trans s3) _ _ ha, fun t4 H4 s4 ht4 => ?_⟩
    rw [e1, cut_fromS] at ht4
    have hgx := hgl _ hxR
    have hg4 : TupA H4 r.2.2.2 x.2.2.2.2 := by rw [e3]; exact s4 _ _ hx3.2.2
    refine ⟨r.2.2.2, t4, _, _, rfl, rfl, hg4, ht4, big _ (by rw [List.length_map, List.length_map, List.length_drop]; omega), fun q5 H5 s5 hq5 => ?_⟩
    rw [← List.map_append] at hq5
    exact qs _ (once_of nd hB) q5 H5 (((s12.trans s3).trans s4).trans s5) hq5
end
end LW
namespace LW
open PySem L2 Mi Co
def OV (H : Hp) (v : V) (o : Option (List Str)) : Prop := (o = none ∧ v = .non) ∨ ∃ x q, o = some x ∧ v = .ref q ∧ TupA H q x
theorem OV.same {H H' : Hp} {v : V} {o : Option (List Str)} (h : OV H v o) (s : Same H H') : OV H' v o := by
  rcases h with h | ⟨x, q, e1, e2, hq⟩
  · exact .inl h
  · exact .inr ⟨x, q, e1, e2, s _ _ hq⟩
def datO : Option (List Str) → Dat
  | none => .non
  | some x => tupD x
theorem OV.dat {K : PySem.W.Frag} {H : Hp} {v : V} {o : Option (List Str)} (h : OV H v o) : IsDat K H (datO o) v := by
  rcases h with ⟨rfl, rfl⟩ | ⟨x, q, rfl, rfl, hq⟩
  · exact rfl
  · exact str_dat hq
theorem datO_nt (o : Option (List Str)) : NT (datO o) := by cases o <;> exact trivial
theorem datO_deep (o : Option (List Str)) : Dat.deep (datO o) ≤ 6 := by
  cases o with
  | none => exact Nat.zero_le _
  | some x => show Dat.deeps _ + 1 ≤ 6; rw [deeps0']; decide
theorem datO_beq (o o' : Option (List Str)) : Dat.beq (datO o) (datO o') = decide (o = o') := by
  cases o with
  | none => cases o' <;> rfl
  | some x => cases o' with
    | none => rfl
    | some y =>
      show Dat.beqs _ _ = _
      rw [tup_beq]
      by_cases h : x = y
      · rw [h, decide_eq_true rfl, decide_eq_true rfl]
      · rw [decide_eq_false h, decide_eq_false fun e => h (by injection e)]
theorem neM_of {K : PySem.W.Frag} {H : Hp} {v v' : V} {o o' : Option (List Str)} {Q : VK} (h : OV H v o) (h' : OV H v' o') (q : Q (.bl (!decide (o = o'))) H) : rNeM K v v' H Q := ⟨datO o, datO o', h.dat, h'.dat, datO_nt o, datO_nt o', datO_deep o, by rw [datO_beq]; exact q⟩
theorem eqM_of {K : PySem.W.Frag} {H : Hp} {v v' : V} {o o' : Option (List Str)} {Q : VK} (h : OV H v o) (h' : OV H v' o') (q : Q (.bl (decide (o = o'))) H) : rEqM K v v' H Q := ⟨datO o, datO o', h.dat, h'.dat, datO_nt o, datO_nt o', datO_deep o, by rw [datO_beq]; exact q⟩
theorem neM_same {K : PySem.W.Frag} {H : Hp} {v v' : V} {o : Option (List Str)} {Q : VK} (h : OV H v o) (h' : OV H v' o) (q : Q (.bl false) H) : rNeM K v v' H Q := neM_of h h' (by rw [decide_eq_true rfl]; exact q)
theorem once_use {H : Hp} {p ta : Addr} {R : List Rl} {u : List Str} {Q : VK} {E : XK} (hR : RlsAt H p R) (nd : (R.map (·.1)).Nodup) (hz : R.length ≤ 100) (hg : ∀ r ∈ R, r.2.length ≤ 1000) (ha : TupA H ta u) (hu : u.length ≤ 900) (h : ∀ v H', Same H H' → OV H' v (onceF R u) → Q v H') : spOnce [.ref p, .ref ta] H Q E := by
  obtain ⟨rs, hp, hrs, rfl⟩ := hR
  rw [List.length_map] at hz
  exact ⟨p, ta, rs, u, rfl, .inl hp, hrs, nd, hz, hg, ha, by omega, fun ho H' s => h _ H' s (.inl ⟨ho, rfl⟩), fun x ho q H' s hq => h _ H' s (.inr ⟨x, q, ho, rfl, hq⟩)⟩
theorem lonce_use {H : Hp} {p ta : Addr} {R : List Rl} {u : List Str} {Q : VK} {E : XK} (hR : RlsAt H p R) (nd : (R.map (·.1)).Nodup) (hz : R.length < 64) (hg : ∀ r ∈ R, r.2.length ≤ 1000) (ha : TupA H ta u) (hu : u.length ≤ 900) (h : ∀ v H', Same H H' → OV H' v (onceF R u) → Q v H') : spLOnce [.ref p, .ref ta] H Q E :=
  ⟨p, ta, R, u, rfl, hR, nd, hz, hg, ha, hu, fun ho H' s => h _ H' s (.inl ⟨ho, rfl⟩), fun x ho q H' s hq => h _ H' s (.inr ⟨x, q, ho, rfl, hq⟩)⟩
theorem led_use {H : Hp} {p ta : Addr} {R : List Rl} {u : List Str} {Q : VK} {E : XK} (hR : RlsAt H p R) (nd : (R.map (·.1)).Nodup) (hz : R.length ≤ 100) (hg : ∀ r ∈ R, r.2.length ≤ 50) (ha : TupA H ta u) (hu : u.length ≤ 50) (h : ∀ v H', Same H H' → OV H' v (ledN 8 R u) → Q v H') : spLedN [.ref p, .ref ta] H Q E :=
  ⟨p, ta, R, u, rfl, hR, nd, hz, hg, ha, hu, fun x ho q H' s hq => h _ H' s (.inr ⟨x, q, ho, rfl, hq⟩), fun ho H' s => h _ H' s (.inl ⟨ho, rfl⟩)⟩
structure Als (H : Hp) (l : Addr) (als : List (Addr × List Str)) : Prop where
  at_ : H l = some (.lst (als.map fun r => V.ref r.1))
  all : ∀ r ∈ als, TupA H r.1 r.2
theorem Als.same {H H' : Hp} {l : Addr} {als : List (Addr × List Str)} (h : Als H l als) (s : Same H H') : Als H' l als := ⟨s _ _ h.at_, fun r hr => s _ _ (h.all r hr)⟩
theorem in_idle {K : PySem.W.Frag} {H : Hp} {pi b : Addr} {T : List (List Str)} {u : List Str} {Q : VK} (hpi : TupsH H pi T) (hb : TupA H b u) (q : Q (.bl (decide (u ∈ T))) H) : rInD K false (.ref b) (.ref pi) H Q := by
  obtain ⟨ps, hps, hall, e⟩ := hpi
  have dR : AreDat K H (T.map tupD) (ps.map fun x => V.ref x.1) := by
    rw [← e, List.map_map]
    exact are_map fun x hx => str_dat (hall x hx)
  refine ⟨pi, _, _, _, str_dat hb, rfl, .inr (SqT.of hps), dR, Nat.le_trans (deep_tups _) (by decide), ?_⟩
  have hany : (T.map tupD).any (fun d => Dat.beq d (tupD u)) = decide (u ∈ T) := by
    rw [Bool.eq_iff_iff, List.any_eq_true, decide_eq_true_eq]
    constructor
    · rintro ⟨d, hd, e⟩
      obtain ⟨x, hx, rfl⟩ := List.mem_map.mp hd
      have e' : Dat.beqs (x.map Dat.str) (u.map Dat.str) = true := e
      rw [tup_beq] at e'
      rw [← of_decide_eq_true e']
      exact hx
    · intro h
      exact ⟨_, List.mem_map.mpr ⟨u, h, rfl⟩, beq_refl _⟩
  show Q (.bl ((T.map tupD).any fun d => Dat.beq d (tupD u))) H
  rw [hany]
  exact q
theorem val_merge : ∀ (more kvs : List (List Key × V)) (k : List Key), (valV kvs k).isSome = true ∨ k ∈ more.map (·.1) → (valV (mergeT kvs more) k).isSome = true
  | [], kvs, k, h => h.elim id fun h => by cases h
  | m :: more, kvs, k, h => by
    refine val_merge more (putK kvs m.1 m.2) k ?_
    rw [valV_put]
    by_cases e : k = m.1
    · rw [if_pos e]; exact .inl rfl
    · rw [if_neg e]
      rcases h with h | h
      · exact .inl h
      · rw [List.map_cons, List.mem_cons] at h
        exact .inr (h.resolve_left e)
theorem pairsT_of {K : PySem.W.Frag} {H : Hp} : ∀ {rs : List Rx}, RlsIn H rs → PairsT K H (rrefs rs) (rs.map fun x => (x.2.2.2.1.map Sum.inr, V.ref x.2.2.1))
  | [], _ => .nil
  | x :: rs, h => .cons ⟨x.1, x.2.1, rfl, SqT.of (h x (List.mem_cons_self ..)).1, by rw [List.map_map]; exact (h x (List.mem_cons_self ..)).2.1⟩ (pairsT_of fun y hy => h y (List.mem_cons_of_mem _ hy))
abbrev abcS : List Str := ["a", "b", "c"]
theorem nodup_len : ∀ {A B : List (List Str)}, A.Nodup → A ⊆ B → A.length ≤ B.length
  | [], _, _, _ => Nat.zero_le _
  | a :: A, B, hn, hs => by
    rw [List.nodup_cons] at hn
    have ha : a ∈ B := hs (List.mem_cons_self ..)
    have h2 : A ⊆ B.erase a := fun x hx => (List.mem_erase_of_ne (fun e : x = a => hn.1 (e ▸ hx))).mpr (hs (List.mem_cons_of_mem _ hx))
    have := nodup_len hn.2 h2
    rw [List.length_erase_of_mem ha] at this
    have hp : 0 < B.length := List.length_pos_of_mem ha
    rw [List.length_cons]
    omega
def nS (i : Nat) : Str := ("n" : Str) ++ (toString (i : Int) : Str)
theorem ch_nd : ∀ n ∈ [7, 8, 9], ((chN nS n).map (·.1)).Nodup := by decide +kernel
theorem ch7 : ledN 8 (chN nS 7) ["n0", "z"] = some [nS 7, "z"] := by decide +kernel
theorem ch8 : ledN 8 (chN nS 8) ["n0", "z"] = some [nS 8, "z"] := by decide +kernel
theorem ch9 : ledN 8 (chN nS 9) ["n0", "z"] = none := by decide +kernel
end LW
namespace LW
open PySem L2 Mi Co
section
variable {P : Program} {w : World} {K : PySem.W.Frag} {mg : Str → Option Value} {base : Heap} {f : Addr} {fd : FuncData}
theorem scLaw : FnScope ["_law_script", "_law_town", "_law_k", "_law_rules_here", "_law_some", "_law_address_here", "_law_idle", "_law_begin", "_law_goal", "_law_rest", "_law_same", "_law_many", "_law_row"] ["_law_script"] (defScope sLaw) := ⟨rfl, rfl, rfl, by decide +kernel, rfl, by decide +kernel, by decide +kernel⟩
theorem ndL0 : (["_law_j", "_law_script", "_law_town"] : List Str).Nodup := by decide +kernel
theorem ndL1 : (["_law_begin", "_law_goal"] : List Str).Nodup := by decide +kernel
theorem ndL2 : (["_law_begin", "_law_rules_here"] : List Str).Nodup := by decide +kernel
theorem ndL3 : (["_law_rule", "_law_begin"] : List Str).Nodup := by decide +kernel
theorem ndL4 : (["_law_address_here", "_law_rest", "_law_rules_here"] : List Str).Nodup := by decide +kernel
theorem ndL5 : (["_law_at"] : List Str).Nodup := by decide +kernel
theorem ok_law {k : Nat} (F : Fun K "law" "law" sLaw f fd) (G : Blt mg) (hAddr : Has P w K mg base "_law_address" k ["_law_script", "_law_town", "_law_most"] (spAddr K)) (hRules : Has P w K mg base "_law_rules" k ["_law_script", "_law_town"] (spRules K)) (hNeedless : Has P w K mg base "needless" k ["rules"] spNeedless) (hOnce : Has P w K mg base "once" k ["rules", "address"] spOnce)
    (hLOnce : Has P w K mg base "_law_once" k ["_law_rules_here", "_law_address_here"] spLOnce) (hLLed : Has P w K mg base "_law_led" k ["_law_rules_here", "_law_address_here"] spLedN) (hSteps : Has P w K mg base "_law_steps" k ["_law_rules_here", "_law_address_here"] spLedN) :
    FnOk P w K mg base CX0 (k + 1) f fd ["_law_script"] (spLaw K) := by
  refine F.ok scLaw (fun vs H Q E h => ?_) (fun cdv A outer s H vs Q E hr h => ?_)
  · obtain ⟨a, ns, rfl, _⟩ := h
    rfl
  obtain ⟨a, ns, rfl, hS, h63, q⟩ := h
  have hu := hu_of hr
  refine ⟨_, (pss_cons (ps_set (i := 1) scLaw.nd rfl (Or.inr rfl) (pe_lst pa_nil))
    (pss_cons (ps_for PassesOwn.never rfl (pi_range1 rfl G.range (pa_cons pe_int pa_nil)) (pg_name (i := 2) scLaw.nd rfl (Or.inl rfl))
      (pss_cons (ps_set (i := 3) scLaw.nd rfl (Or.inr rfl) (pe_callH hRules hr rfl (pa_cons (pv 0) (pa_cons (pv 1) pa_nil))))
      (pss_cons (ps_set (i := 4) scLaw.nd rfl (Or.inl rfl) (pe_op op_cat (pe_op op_cat (pe_compF (te := (tCall (spAddr K) [] E0 (tCons (tVar 1) (tCons (tVar 2) (tCons (tC (.int 6)) tNil))))) (xs := ["_law_j"]) (ys := ["_law_script", "_law_town"]) (js := [0, 1]) rfl (by decide +kernel) (by decide +kernel) rfl (by decide +kernel) ⟨rfl, .inl rfl, rfl, rfl, .inl rfl, rfl, trivial⟩
      (pi_range1 rfl G.range (pa_cons pe_int pa_nil)) (fun _ _ _ _ _ => (pg_name (i := 0) ndL0 rfl (Or.inl rfl) (.inr rfl))) (fun _ _ _ _ _ => pts_nil) (fun _ _ _ _ _ => (pe_callH hAddr hr rfl (pa_cons (pv 1) (pa_cons (pv 2) (pa_cons pe_int pa_nil)))))) (pe_lst (pa_cons (pe_tup pa_nil) pa_nil))) (pe_compF (te := (tVar 0)) (xs := ["_law_begin", "_law_goal"]) (ys := []) (js := []) (g := (gTup K 2 (gCons (gName 0) (gCons (gName 1) gNil)))) rfl (by decide +kernel) (by decide +kernel) rfl (by decide +kernel) trivial
      (pi_tup (pv 3)) (fun _ _ _ _ _ => (pg_tup rfl (pgs_cons (pg_name (i := 0) ndL1 rfl (Or.inl rfl) (.inr rfl)) (pgs_cons (pg_name (i := 1) ndL1 rfl (Or.inl rfl) (.inr rfl)) pgs_nil)))) (fun _ _ _ _ _ => pts_nil) (fun _ _ _ _ _ => (pv 0)))))
      (pss_cons (ps_for PassesOwn.never rfl (pi_list (pv 4)) (pg_name (i := 5) scLaw.nd rfl (Or.inl rfl))
        (pss_cons (ps_if (pt_cmpR (op_neM (hu8 hr)) (pe_callH hOnce hr rfl (pa_cons (pv 3) (pa_cons (pv 5) pa_nil))) (pe_callH hLOnce hr rfl (pa_cons (pv 3) (pa_cons (pv 5) pa_nil))) (nomark _)) pss_never pss_nil)
        (pss_cons (ps_if (pt_cmpR (op_neM (hu8 hr)) (pe_callH hLLed hr rfl (pa_cons (pv 3) (pa_cons (pv 5) pa_nil))) (pe_callH hSteps hr rfl (pa_cons (pv 3) (pa_cons (pv 5) pa_nil))) (nomark _)) pss_never pss_nil)
        (pss_one (ps_if (PW.pt (pw_or (pt_cmpR (op_neM (hu8 hr)) (pe_callH hOnce hr rfl (pa_cons (pe_rev (pv 3)) (pa_cons (pv 5) pa_nil))) (pe_callH hOnce hr rfl (pa_cons (pv 3) (pa_cons (pv 5) pa_nil))) (nomark _)) (pw_or1 (pt_cmp (pc_notN (pe_callH hOnce hr rfl (pa_cons (pe_tup pa_nil) (pa_cons (pv 5) pa_nil)))))))) pss_never pss_nil)))))
      (pss_cons (ps_set (i := 6) scLaw.nd rfl (Or.inl rfl) (pe_callH hNeedless hr rfl (pa_cons (pv 3) pa_nil)))
      (pss_cons (ps_if (PW.pt (pw_or (pt_cmpR (op_neLS (hu8 hr)) (pe_callTy call_list_of rfl G.list boot_list (pa_cons (pv 6) pa_nil)) (pe_callB call_sortT rfl G.sorted boot_sorted (pa_cons (pv 6) pa_nil)) (nomark _)) (pw_or1 (pt_not (pt_val (pe_callB (call_all rfl) rfl G.all boot_all (pa_cons (pe_compF (te := (tDIn (tVar 0) (tCB (rDictTT K) (tCons (tVar 1) tNil)))) (xs := ["_law_begin"]) (ys := ["_law_rules_here"]) (js := [3]) rfl (by decide +kernel) (by decide +kernel) rfl (by decide +kernel) ⟨rfl, .inl rfl, rfl, trivial⟩
      (pi_tup (pv 6)) (fun _ _ _ _ _ => (pg_name (i := 0) ndL2 rfl (Or.inl rfl) (.inr rfl))) (fun _ _ _ _ _ => pts_nil) (fun _ _ _ _ _ => (pe_cmp (pc_din hu (pv 0) (pe_callTy (call_dictTS rfl (hu8 hr)) rfl G.dict boot_dict (pa_cons (pv 1) pa_nil)))))) pa_nil))))))) pss_never pss_nil)
      (pss_cons (ps_for PassesOwn.never rfl (pi_tup (pv 3)) (pg_tup rfl (pgs_cons (pg_name (i := 7) scLaw.nd rfl (Or.inr rfl)) (pgs_cons (pg_name (i := 8) scLaw.nd rfl (Or.inl rfl)) pgs_nil)))
        (pss_cons (ps_set (i := 9) scLaw.nd rfl (Or.inr rfl) (pe_callTy call_tuple_of rfl G.tuple boot_tuple (pa_cons (pe_compF (tt := (tTest (tOp (rNeD K) (tOp (rIxT K) (tVar 0) (tC (.int 0))) (tVar 1)))) (te := (tVar 0)) (xs := ["_law_rule"]) (ys := ["_law_begin"]) (js := [7]) rfl (by decide +kernel) (by decide +kernel) rfl (by decide +kernel) ⟨rfl, .inl rfl, rfl, trivial⟩
      (pi_tup (pv 3)) (fun _ _ _ _ _ => (pg_name (i := 0) ndL3 rfl (Or.inl rfl) (.inr rfl))) (fun _ _ _ _ _ => pts_one (pt_cmpR (op_neD (hu8 hr)) (pe_ix ix_tup (pv 0) pe_int fun _ _ => rfl) (pv 1) (nomark _))) (fun _ _ _ _ _ => (pv 0))) pa_nil)))
        (pss_cons (ps_compF (ix := 10) (te := (tOp (rEqM K) (tCall spOnce [] E0 (tCons (tVar 1) (tCons (tVar 0) tNil))) (tCall spOnce [] E0 (tCons (tVar 2) (tCons (tVar 0) tNil))))) (xs := ["_law_address_here"]) (ys := ["_law_rest", "_law_rules_here"]) (js := [9, 3]) rfl (by decide +kernel) (by decide +kernel) rfl (by decide +kernel) ⟨rfl, .inl rfl, rfl, rfl, .inl rfl, rfl, trivial⟩
      (pi_list (pe_op op_cat (pv 4) (pe_lst (pa_cons (pe_op op_catH (pv 7) (pe_tup (pa_cons pe_str (pa_cons pe_str (pa_cons pe_str pa_nil))))) pa_nil)))) (fun _ _ _ _ _ => (pg_name (i := 0) ndL4 rfl (Or.inl rfl) (.inr rfl))) (fun _ _ _ _ _ => pts_nil) (fun _ _ _ _ _ => (pe_cmpR (op_eqM (hu8 hr)) (pe_callH hOnce hr rfl (pa_cons (pv 1) (pa_cons (pv 0) pa_nil))) (pe_callH hOnce hr rfl (pa_cons (pv 2) (pa_cons (pv 0) pa_nil))) (nomark _))) scLaw.nd rfl (Or.inl rfl))
        (pss_one (ps_if (PW.pt (pw_or (pt_cmpR op_ne (pe_cmpR (op_inD (hu8 hr)) (pv 7) (pv 6) rfl) (pe_cmpR (op_eqM (hu8 hr)) (pe_callH hOnce hr rfl (pa_cons (pv 9) (pa_cons (pv 7) pa_nil))) (pe_callH hOnce hr rfl (pa_cons (pv 3) (pa_cons (pv 7) pa_nil))) (nomark _)) (nomark _)) (pw_or1 (PW.pt (pw_and (pt_cmpR (op_inD (hu8 hr)) (pv 7) (pv 6) (by with_unfolding_all rfl)) (pw_and1 (pt_not (pt_val (pe_callB (call_all rfl) rfl G.all boot_all (pa_cons (pv 10) pa_nil)))))))))) pss_never pss_nil)))))
      (pss_one (ps_if (PW.pt (pw_or (pt_cmpR (op_neD (hu8 hr)) (pe_callH hNeedless hr rfl (pa_cons (pe_tup pa_nil) pa_nil)) (pe_tup pa_nil) (nomark _)) (pw_or1 (pt_cmpR (op_neM (hu8 hr)) (pe_callH hLLed hr rfl (pa_cons (pe_tup pa_nil) (pa_cons (pe_tup (pa_cons pe_str pa_nil)) pa_nil))) (pe_tup (pa_cons pe_str pa_nil)) (nomark _))))) pss_never pss_nil)))))))))
    (pss_cons (ps_for PassesOwn.never rfl (pi_tup (pe_tup (pa_cons pe_int (pa_cons pe_int (pa_cons pe_int pa_nil))))) (pg_name (i := 11) scLaw.nd rfl (Or.inl rfl))
      (pss_cons (ps_set (i := 12) scLaw.nd rfl (Or.inl rfl) (pe_callTy call_tuple_of rfl G.tuple boot_tuple (pa_cons (pe_compF (xs := ["_law_at"]) (ys := []) (js := []) rfl (by decide +kernel) (by decide +kernel) rfl (by decide +kernel) trivial
      (pi_range1 rfl G.range (pa_cons (pv 11) pa_nil)) (fun _ _ _ _ _ => (pg_name (i := 0) ndL5 rfl (Or.inl rfl) (.inr rfl))) (fun _ _ _ _ _ => pts_nil) (fun _ _ _ _ _ => (pe_tup (pa_cons (pe_tup (pa_cons (pe_op op_add_str pe_str (pe_callTy call_str_int rfl G.str boot_str (pa_cons (pv 0) pa_nil))) pa_nil)) (pa_cons (pe_tup (pa_cons (pe_op op_add_str pe_str (pe_callTy call_str_int rfl G.str boot_str (pa_cons (pe_op op_add (pv 0) pe_int) pa_nil))) pa_nil)) pa_nil))))) pa_nil)))
      (pss_one (ps_if (pt_cmpR (op_neM (hu8 hr)) (pe_callH hLLed hr rfl (pa_cons (pv 12) (pa_cons (pe_tup (pa_cons pe_str (pa_cons pe_str pa_nil))) pa_nil))) (pe_ifExp (pt_cmpR op_lt (pv 11) pe_int (nomark _)) (pe_tup (pa_cons (pe_op op_add_str pe_str (pe_callTy call_str_int rfl G.str boot_str (pa_cons (pv 11) pa_nil))) (pa_cons pe_str pa_nil))) pe_non) (nomark _)) pss_never pss_nil))))
    (pss_one (ps_ret pe_bl))))), ?_⟩
  refine ⟨big _ (by simp), fun t nt => ?_⟩
  have s0 := Same.new nt (.lst ([] : List V))
  have ht : (upd H t (.lst ([] : List V)) : Hp) t = some (.lst []) := upd_same
  refine ⟨8, rfl, by decide, by decide, ?_⟩
  refine for_range (n := 8) (fun i σ H' => ∃ v2 v3 v4 v5 v6 v7 v8 v9 v10 : Option V, σ = [some (.ref a), some (.ref t), v2, v3, v4, v5, v6, v7, v8, v9, v10, none, none] ∧ St1 K a t ns (400 * i) H')
    ⟨_, _, _, _, _, _, _, _, _, rfl, ⟨[], ht, by simp⟩, hS.same s0⟩ ?_ ?_
  · rintro i σ H1 hi ⟨v2, v3, v4, v5, v6, v7, v8, v9, v10, rfl, hW1⟩
    obtain ⟨zs1, hz1, hy1⟩ := hW1.1
    refine ⟨_, rfl, _, rfl, a, t, ns, zs1, rfl, hW1.2, h63, hz1, by omega, fun p R zs2 H2 hT2 hl2 st2 hR2 gR hRl => ?_⟩
    obtain ⟨hW2, _⟩ := hW1.drawn (m := 400 * i + 200) hz1 hT2 (by omega) st2
    have hg4 : ∀ r ∈ R, r.2.length ≤ 4 := fun r hr' => (gR.len r hr').2
    have hgK : ∀ r ∈ R, r.2.length ≤ 1000 := fun r hr' => by have := hg4 r hr'; omega
    have hg5 : ∀ r ∈ R, r.2.length ≤ 50 := fun r hr' => by have := hg4 r hr'; omega
    -- the addresses
    refine ⟨12, rfl, by decide, by decide, fun D hD => ?_⟩
    have hDt : D ≠ t := (ne_of_none hT2 hD).symm
    refine compF_drw (J := Itr 0 12) (n := 12) (fr := [some (.ref a), some (.ref t)]) D (fun _ _ => True)
      (fun j ys H' => ∃ (as : List (Addr × List Str)) (zs' : List V), ys = (as.map fun r => V.ref r.1) ∧ as.length = j ∧ (∀ r ∈ as, TupA H' r.1 r.2 ∧ r.2.length ≤ 6) ∧ H' t = some (.lst zs') ∧ zs'.length ≤ zs2.length + 12 * j ∧ Stp t H2 H') (bigl _ (by omega))
      (fun i H' h => h) (fun i H' x H'' _ y => ⟨y.1, trivial⟩) (fun H' => Nat.le_refl _)
      ⟨[], zs2, rfl, rfl, (fun r hr' => nomatch hr'), by rw [upd_ne hDt.symm]; exact hT2, by omega, (Same.new hD _).stp⟩ ?_ ?_
    · rintro j x ys H3 Rr hj _ ⟨as, zs3, rfl, hl, hall, hT3, hz3, st3⟩ hD3 hR
      refine ⟨_, rfl, _, rfl, a, t, ns, zs3, 6, rfl, hW2.2.stp hT2 st3, h63, hT3, by omega, by decide, fun q4 u4 zs4 H4 hT4 hl4 st4 hq4 hu4 => ?_⟩
      have hD4 := st4 _ _ hDt hD3
      have t4 : TS' H4 (upd H4 D (.lst ((as.map fun r => V.ref r.1) ++ [V.ref q4]))) := TS'.lst hD4
      have ts4 := (st4.ts hT3).trans t4
      refine hR _ _ hD4 ⟨as ++ [(q4, u4)], zs4, by rw [List.map_append]; rfl, by rw [List.length_append, hl]; rfl, fun r hr' => ?_, by rw [upd_ne hDt.symm]; exact hT4, by omega, fun b o hb e => ?_⟩
      · rcases List.mem_append.mp hr' with hr' | hr'
        · exact ⟨ts4 _ _ (hall r hr').1, (hall r hr').2⟩
        · rw [List.mem_singleton.mp hr']
          exact ⟨t4 _ _ hq4, hu4⟩
      · rw [upd_ne (ne_of_none e hD)]
        exact (st3.trans st4) b o hb e
    rintro ys H3 ⟨as, zs3, rfl, las, hall3, hT3, hz3, st3⟩ hD3
    obtain ⟨hW3, ts3⟩ := hW2.drawn (m := 400 * i + 400) hT2 hT3 (by omega) st3
    have hR3 := hR2.ts ts3
    -- [()]
    refine ⟨big _ (by simp), fun e0 ne0 => ?_⟩
    have s4 := Same.new ne0 (.tup ([] : List V))
    have he4 : (upd H3 e0 (.tup ([] : List V)) : Hp) e0 = some (.tup []) := upd_same
    generalize (upd H3 e0 (.tup ([] : List V)) : Hp) = H4 at *
    refine ⟨big _ (by simp), fun l0 nl0 => ?_⟩
    have s5 := Same.new nl0 (.lst [V.ref e0])
    have hl5 : (upd H4 l0 (.lst [V.ref e0]) : Hp) l0 = some (.lst [V.ref e0]) := upd_same
    generalize (upd H4 l0 (.lst [V.ref e0]) : Hp) = H5 at *
    have s35 := s4.trans s5
    refine ⟨D, l0, _, _, rfl, rfl, s35 _ _ hD3, hl5, big _ (by simp; omega), fun l6 nl6 => ?_⟩
    have s6 := Same.new nl6 (.lst ((as.map fun r => V.ref r.1) ++ [V.ref e0]))
    have hl6 : (upd H5 l6 (.lst ((as.map fun r => V.ref r.1) ++ [V.ref e0])) : Hp) l6 = some (.lst ((as.map fun r => V.ref r.1) ++ [V.ref e0])) := upd_same
    generalize (upd H5 l6 (.lst ((as.map fun r => V.ref r.1) ++ [V.ref e0])) : Hp) = H6 at *
    have s36 := s35.trans s6
    obtain ⟨rs, hp6, hrs6, eR⟩ := hR3.same s36
    have lrs : rs.length = R.length := by rw [← eR, List.length_map]
    -- the beginnings
    refine ⟨_, rfl, p, rfl, ⟨_, SqT.of hp6⟩, fun D2 hD2 => ?_⟩
    refine compF_gen2 (K := K) (fun x : Rx => x.1) (fun x => V.ref x.2.1) (fun x => V.ref x.2.2.1) (fr := []) (fun x => .ref x.2.1) (fun _ => true) D2 hD2 (tells_tup (SqT.of hp6)) (fun x hx => (hrs6 x hx).1) (bigl _ (by omega)) (fun x H10 Rr hx s10 hR10 => hR10 H10 (Same.refl _)) (fun x H10 Rr hx _ s10 hR10 => ⟨_, rfl, hR10 H10 (Same.refl _)⟩) ?_
    intro H7 s7 hD7
    have ef : (rs.filter fun _ => true) = rs := List.filter_eq_self.mpr fun _ _ => rfl
    rw [ef] at hD7
    refine ⟨l6, D2, _, _, rfl, rfl, s7 _ _ hl6, hD7, big _ (by simp; omega), fun sl nsl => ?_⟩
    have s8 := Same.new nsl (.lst (((as.map fun r => V.ref r.1) ++ [V.ref e0]) ++ rs.map fun x => V.ref x.2.1))
    have hA8 : ∃ als, Als (upd H7 sl (.lst (((as.map fun r => V.ref r.1) ++ [V.ref e0]) ++ rs.map fun x => V.ref x.2.1))) sl als ∧ (∀ r ∈ als, r.2.length ≤ 6) ∧ als.length ≤ 30 := by
      have s38 := (s36.trans s7).trans s8
      refine ⟨(as ++ [(e0, [])]) ++ rs.map fun x => (x.2.1, x.2.2.2.1), ⟨?_, fun r hr' => ?_⟩, fun r hr' => ?_, by simp; omega⟩
      · rw [upd_same, List.map_append, List.map_append, List.map_map]
        rfl
      · rcases List.mem_append.mp hr' with hr' | hr'
        · rcases List.mem_append.mp hr' with hr' | hr'
          · exact s38 _ _ (hall3 r hr').1
          · rw [List.mem_singleton.mp hr']
            exact s8 _ _ (s7 _ _ (s6 _ _ (s5 _ _ he4)))
        · obtain ⟨x, hx, rfl⟩ := List.mem_map.mp hr'
          exact s8 _ _ (s7 _ _ (hrs6 x hx).2.1)
      · rcases List.mem_append.mp hr' with hr' | hr'
        · rcases List.mem_append.mp hr' with hr' | hr'
          · exact (hall3 r hr').2
          · rw [List.mem_singleton.mp hr']; exact Nat.zero_le _
        · obtain ⟨x, hx, rfl⟩ := List.mem_map.mp hr'
          have := (gR.len x.2.2.2 (by rw [← eR]; exact List.mem_map.mpr ⟨x, hx, rfl⟩)).1
          show x.2.2.2.1.length ≤ 6
          omega
    obtain ⟨als, hA8, hA6, hA30⟩ := hA8
    have hR8 : RlsAt _ p R := ⟨rs, s8 _ _ (s7 _ _ hp6), hrs6.ts (s7.trans s8).ts, eR⟩
    have hW8 := hW3.same ((s36.trans s7).trans s8)
    generalize (upd H7 sl (.lst (((as.map fun r => V.ref r.1) ++ [V.ref e0]) ++ rs.map fun x => V.ref x.2.1)) : Hp) = H8 at *
    clear s7 s8 hD7 hp6 hrs6 nsl hD2 s36 hl6 nl6 s6 s35 hl5 nl0 s5 he4 ne0 s4 hR3 hW3 ts3 hD3 hall3 st3
    obtain ⟨rs, hp8, hrs8, eR⟩ := id hR8
    have lrs : rs.length = R.length := by rw [← eR, List.length_map]
    -- each address
    refine ⟨_, rfl, sl, rfl, ⟨_, SqL.of hA8.at_⟩, ?_⟩
    refine for_list (xs := als.map fun r => V.ref r.1) (fun j σ H' => ∃ v5 : Option V, σ = [some (.ref a), some (.ref t), some (.int (0 + (i : Int))), some (.ref p), some (.ref sl), v5, v6, v7, v8, v9, v10, none, none] ∧ Same H8 H')
      ⟨_, rfl, Same.refl _⟩ (fun j σ H' _ h => by obtain ⟨_, _, s⟩ := h; exact SqL.of (s _ _ hA8.at_)) ?_ ?_
    · rintro j x σ H9 hx ⟨v5', rfl, s9⟩
      rw [List.getElem?_map] at hx
      obtain ⟨r, hri, rfl⟩ : ∃ r, als[j]? = some r ∧ V.ref r.1 = x := by
        cases hh : als[j]? with
        | none => rw [hh] at hx; cases hx
        | some y => rw [hh] at hx; injection hx with hx; exact ⟨y, rfl, hx⟩
      have hrm := List.mem_of_getElem? hri
      have hr6 := hA6 r hrm
      have ha8 := hA8.all r hrm
      have onceP : ∀ (H' : Hp) (Q' : VK), Same H8 H' → (∀ v H'', Same H' H'' → OV H'' v (onceF R r.2) → Q' v H'') → spOnce [.ref p, .ref r.1] H' Q' E0 := fun H' Q' s' h' => once_use (hR8.same s') gR.nd (by omega) hgK (s' _ _ ha8) (by omega) h'
      refine ⟨_, rfl, _, rfl, ?_⟩
      dsimp only [tNil, List.cons_append, List.nil_append, List.append_nil]
      refine onceP H9 _ s9 fun w1 H10 s10 hw1 => ?_
      refine ⟨_, rfl, _, rfl, ?_⟩
      dsimp only [tNil, List.cons_append, List.nil_append, List.append_nil]
      refine lonce_use ((hR8.same s9).same s10) gR.nd (by omega) hgK (s10 _ _ (s9 _ _ ha8)) (by omega) fun w2 H11 s11 hw2 => neM_same (hw1.same s11) hw2 ⟨_, rfl, iteF ?_⟩
      have s811 := (s9.trans s10).trans s11
      refine ⟨_, rfl, _, rfl, ?_⟩
      dsimp only [tNil, List.cons_append, List.nil_append, List.append_nil]
      refine led_use (hR8.same s811) gR.nd (by omega) hg5 (s811 _ _ ha8) (by omega) fun w3 H12 s12 hw3 => ?_
      refine ⟨_, rfl, _, rfl, ?_⟩
      dsimp only [tNil, List.cons_append, List.nil_append, List.append_nil]
      refine led_use ((hR8.same s811).same s12) gR.nd (by omega) hg5 (s12 _ _ (s811 _ _ ha8)) (by omega) fun w4 H13 s13 hw4 => neM_same (hw3.same s13) hw4 ⟨_, rfl, iteF ?_⟩
      have s813 := (s811.trans s12).trans s13
      -- turned round
      refine ⟨_, rfl, p, _, rfl, SqT.of (s813 _ _ hp8), fun pv npv => ?_⟩
      have s14 := Same.new npv (.tup (rrefs rs).reverse)
      have hRv : RlsAt (upd H13 pv (.tup (rrefs rs).reverse)) pv R.reverse := ⟨rs.reverse, by rw [upd_same]; unfold rrefs; rw [List.map_reverse], fun y hy => (hrs8 y (List.mem_reverse.mp hy)).ts (s813.trans s14).ts, by rw [List.map_reverse, eR]⟩
      generalize (upd H13 pv (.tup (rrefs rs).reverse) : Hp) = H14 at *
      have s814 := s813.trans s14
      refine ⟨_, rfl, ?_⟩
      dsimp only [tNil, List.cons_append, List.nil_append, List.append_nil]
      refine once_use hRv (by rw [List.map_reverse]; exact List.pairwise_reverse.mpr (gR.nd.imp fun h => Ne.symm h)) (by rw [List.length_reverse]; omega) (fun r hr' => hgK r (List.mem_reverse.mp hr')) (s814 _ _ ha8) (by omega) fun w5 H15 s15 hw5 => ?_
      rw [once_rev gR.nd] at hw5
      refine ⟨_, rfl, _, rfl, ?_⟩
      dsimp only [tNil, List.cons_append, List.nil_append, List.append_nil]
      refine onceP H15 _ (s814.trans s15) fun w6 H16 s16 hw6 => neM_same (hw5.same s16) hw6 ⟨_, rfl, iteF ?_⟩
      have s816 := (s814.trans s15).trans s16
      refine ⟨big _ (by simp), fun e17 ne17 => ?_⟩
      have s17 := Same.new ne17 (.tup ([] : List V))
      have hE : RlsAt (upd H16 e17 (.tup ([] : List V))) e17 [] := ⟨[], upd_same, (fun x hx => nomatch hx), rfl⟩
      generalize (upd H16 e17 (.tup ([] : List V)) : Hp) = H17 at *
      refine ⟨_, rfl, ?_⟩
      dsimp only [tNil, List.cons_append, List.nil_append, List.append_nil]
      refine once_use hE List.nodup_nil (by simp) (fun r hr' => nomatch hr') ((s816.trans s17) _ _ ha8) (by omega) fun w7 H18 s18 hw7 => ?_
      obtain ⟨_, rfl⟩ : onceF [] r.2 = none ∧ w7 = .non := hw7.elim id fun ⟨x, _, e, _⟩ => by cases e
      exact ⟨_, rfl, iteF ⟨_, rfl, (s816.trans s17).trans s18⟩⟩
    rintro σ H9 ⟨v5', rfl, s9⟩
    -- needless
    refine ⟨_, rfl, p, R, rfl, hR8.same s9, gR.nd, by omega, (fun r hr' => ⟨hgK r hr', by have := (gR.len r hr').1; omega⟩), fun pi T H10 s10 hpi hTr hTm => ?_⟩
    have s810 := s9.trans s10
    have hTl : ∀ u ∈ T, u ≠ [] ∧ u ∈ R.map (·.1) := fun u hu' => by
      obtain ⟨r, hr', hn, e⟩ := (hTm u).mp hu'
      rw [← e]
      exact ⟨needs_ne hn, List.mem_map.mpr ⟨r, hr', rfl⟩⟩
    obtain ⟨ps, hps, hpss, ePs⟩ := id hpi
    have hTnd : T.Nodup := hTr.imp fun {a b} h e => by subst e; have h2 := HS.ltT_tot _ _ h; rw [h] at h2; cases h2
    have hT7 : T.length ≤ 7 := by
      have h1 : T ⊆ R.map (·.1) := fun u hu' => (hTl u hu').2
      have := nodup_len hTnd h1
      rw [List.length_map] at this
      omega
    have lps : ps.length = T.length := by rw [← ePs, List.length_map]
    refine ⟨_, rfl, pi, _, rfl, .inr (SqT.of hps), fun l11 nl11 => ?_⟩
    have s11 := Same.new nl11 (.lst (ps.map fun r => V.ref r.1))
    have hl11 : (upd H10 l11 (.lst (ps.map fun r => V.ref r.1)) : Hp) l11 = some (.lst (ps.map fun r => V.ref r.1)) := upd_same
    generalize (upd H10 l11 (.lst (ps.map fun r => V.ref r.1)) : Hp) = H11 at *
    refine ⟨_, rfl, pi, ps, rfl, .inr (SqT.of (s11 _ _ hps)), by omega, (fun r hr' => ⟨SqT.of (s11 _ _ (hpss r hr')), (hTl r.2 (by rw [← ePs]; exact List.mem_map.mpr ⟨r, hr', rfl⟩)).1⟩), fun l12 ps' nl12 hp' hs' => ?_⟩
    have s12 := Same.new nl12 (.lst (ps'.map fun r => V.ref r.1))
    have hl12 : (upd H11 l12 (.lst (ps'.map fun r => V.ref r.1)) : Hp) l12 = some (.lst (ps'.map fun r => V.ref r.1)) := upd_same
    generalize (upd H11 l12 (.lst (ps'.map fun r => V.ref r.1)) : Hp) = H12 at *
    have eT' : ps'.map (·.2) = T := by
      have hpT : (ps'.map (·.2)).Perm T := by rw [← ePs]; exact hp'.map _
      exact tups_eq (rise_of_sort hTnd hpT hs') hTr fun u => hpT.mem_iff
    have s1012 := s11.trans s12
    have d1 : AreDat K H12 (T.map tupD) (ps.map fun r => V.ref r.1) := by rw [← ePs, List.map_map]; exact are_map fun x hx => str_dat (s1012 _ _ (hpss x hx))
    have d2 : AreDat K H12 (T.map tupD) (ps'.map fun r => V.ref r.1) := by rw [← eT', List.map_map]; exact are_map fun x hx => str_dat (s1012 _ _ (hpss x (hp'.mem_iff.mp hx)))
    refine ⟨l11, l12, _, _, _, rfl, rfl, SqL.of (s12 _ _ hl11), SqL.of hl12, d1, d2, deep_tups _, _, rfl, iteF ?_⟩
    have s812 := s810.trans s1012
    have hp12 := s812 _ _ hp8
    have hrs12 := hrs8.ts s812.ts
    -- all of them are rules
    refine ⟨_, rfl, pi, rfl, ⟨_, SqT.of (s1012 _ _ hps)⟩, fun D13 hD13 => ?_⟩
    refine compF_gen (fun r : Addr × List Str => V.ref r.1) (fr := [some (.ref p)]) (fun _ => .bl true) (fun _ => true) D13 hD13 (tells_tup (SqT.of (s1012 _ _ hps))) (bigl _ (by omega)) (fun r H14 Rr hr' s14 hR14 => hR14 H14 (Same.refl _)) (fun r H14 Rr hr' _ s14 hR14 => ?_) ?_
    · refine ⟨_, rfl, _, rfl, p, _, _, rfl, s14 _ _ hp12, pairsT_of (hrs12.ts s14.ts), by unfold rrefs; rw [List.length_map]; omega, fun dd ndd => ?_⟩
      have s15 := Same.new ndd (.dT (mergeT [] (rs.map fun x => (x.2.2.2.1.map Sum.inr, V.ref x.2.2.1))))
      refine ⟨dd, _, rfl, DGet.t (k := r.2.map Sum.inr) upd_same (by rw [List.map_map]; exact s15 _ _ (s14 _ _ (s1012 _ _ (hpss r hr')))), ?_⟩
      have hsome : (valV (mergeT [] (rs.map fun x => ((x.2.2.2.1.map Sum.inr : List Key), V.ref x.2.2.1))) (r.2.map Sum.inr)).isSome = true := by
        refine val_merge _ _ _ (.inr ?_)
        have h1 := (hTl r.2 (by rw [← ePs]; exact List.mem_map.mpr ⟨r, hr', rfl⟩)).2
        rw [← eR, List.map_map] at h1
        obtain ⟨x, hx, e⟩ := List.mem_map.mp h1
        rw [List.map_map]
        exact List.mem_map.mpr ⟨x, hx, by rw [← e]; rfl⟩
      rw [hsome]
      exact hR14 _ s15
    intro H13 s13 hD13'
    have ef2 : (ps.filter fun _ => true) = ps := List.filter_eq_self.mpr fun _ _ => rfl
    rw [ef2] at hD13'
    have eB : (ps.map fun _ => V.bl true) = (ps.map fun _ => true).map V.bl := by rw [List.map_map]; rfl
    rw [eB] at hD13'
    refine ⟨D13, _, rfl, SqL.of hD13', ?_⟩
    have hallT : (ps.map fun _ => true).all id = true := by rw [List.all_eq_true]; intro b hb; obtain ⟨_, _, rfl⟩ := List.mem_map.mp hb; rfl
    rw [hallT]
    refine ⟨_, rfl, iteF ?_⟩
    have s813 := s812.trans s13
    have hpi13 := (hpi.same s1012).same s13
    -- each rule
    refine ⟨_, rfl, p, rfl, ⟨_, SqT.of (s813 _ _ hp8)⟩, ?_⟩
    refine for_tup (xs := rrefs rs) (fun j σ H' => ∃ v7 v8 v9 v10 : Option V, σ = [some (.ref a), some (.ref t), some (.int (0 + (i : Int))), some (.ref p), some (.ref sl), v5', some (.ref pi), v7, v8, v9, v10, none, none] ∧ Same H13 H')
      ⟨_, _, _, _, rfl, Same.refl _⟩ (fun j σ H' _ h => by obtain ⟨_, _, _, _, _, s⟩ := h; exact SqT.of (s _ _ (s813 _ _ hp8))) ?_ ?_
    · rintro j x σ H14 hx ⟨v7', v8', v9', v10', rfl, s14⟩
      rw [List.getElem?_map] at hx
      obtain ⟨r, hri, rfl⟩ : ∃ r, rs[j]? = some r ∧ V.ref r.1 = x := by
        cases hh : rs[j]? with
        | none => rw [hh] at hx; cases hx
        | some y => rw [hh] at hx; injection hx with hx; exact ⟨y, rfl, hx⟩
      have hrm := List.mem_of_getElem? hri
      have s814 := s813.trans s14
      have hr14 := (hrs8 r hrm).ts s814.ts
      have hrR : r.2.2.2 ∈ R := by rw [← eR]; exact List.mem_map.mpr ⟨r, hrm, rfl⟩
      have hrl := (gR.len _ hrR).1
      have hp14 := s814 _ _ hp8
      have hrs14 := hrs8.ts s814.ts
      refine ⟨r.1, _, rfl, SqT.of hr14.1, rfl, _, _, rfl, _, _, rfl, rfl, ?_⟩
      refine ⟨_, rfl, p, rfl, ⟨_, SqT.of hp14⟩, fun D15 hD15 => ?_⟩
      refine compF_gen (J := Itt K p) (tt := tTest (tOp (rNeD K) (tOp (rIxT K) (tVar 0) (tC (.int 0))) (tVar 1))) (te := tVar 0) (fun x : Rx => V.ref x.1) (fr := [some (.ref r.2.1)]) (fun x => .ref x.1) (fun y => !decide (y.2.2.2.1 = r.2.2.2.1)) D15 hD15 (tells_tup (SqT.of hp14)) (bigl _ (by omega))
        (fun y H2 Rr hy s2 hR2 => by
          have hy1 := (hrs14 y hy).ts s2.ts
          refine ⟨_, rfl, y.1, _, _, V.ref y.2.1, rfl, rfl, SqT.of hy1.1, rfl, _, rfl, _, _, str_dat hy1.2.1, str_dat (s2 _ _ hr14.2.1), by rw [deeps0']; decide, _, rfl, ?_⟩
          rw [tup_beq]
          exact hR2 H2 (Same.refl _))
        (fun y H2 Rr hy _ s2 hR2 => ⟨_, rfl, hR2 H2 (Same.refl _)⟩) ?_
      intro H15 s15 hD15'
      have eF : (rs.filter fun y => !decide (y.2.2.2.1 = r.2.2.2.1)).map (·.2.2.2) = rest R r.2.2.2.1 := by rw [filter_rls rs fun q => !decide (q.1 = r.2.2.2.1), eR]; rfl
      refine ⟨D15, _, rfl, .inl ⟨SqL.of hD15', fun pr npr => ?_⟩⟩
      have s16 := Same.new npr (.tup ((rs.filter fun y => !decide (y.2.2.2.1 = r.2.2.2.1)).map fun x => V.ref x.1))
      have hpr : RlsAt (upd H15 pr (.tup ((rs.filter fun y => !decide (y.2.2.2.1 = r.2.2.2.1)).map fun x => V.ref x.1))) pr (rest R r.2.2.2.1) := ⟨_, upd_same, fun y hy => (hrs14 y (List.mem_filter.mp hy).1).ts (s15.trans s16).ts, eF⟩
      generalize (upd H15 pr (.tup ((rs.filter fun y => !decide (y.2.2.2.1 = r.2.2.2.1)).map fun x => V.ref x.1)) : Hp) = H16 at *
      have s816 := (s814.trans s15).trans s16
      have hb16 : TupA H16 r.2.1 r.2.2.2.1 := (s15.trans s16) _ _ hr14.2.1
      have lR : (rest R r.2.2.2.1).length ≤ 100 := by have : (rest R r.2.2.2.1).length ≤ R.length := List.length_filter_le _ _; omega
      have ndr := rest_nd gR.nd r.2.2.2.1
      have hgr : ∀ z ∈ rest R r.2.2.2.1, z.2.length ≤ 1000 := fun z hz => hgK z (rest_mem.mp hz).1
      -- all the addresses, and one more
      refine ⟨_, rfl, _, rfl, big _ (by simp), fun abc nabc => ?_⟩
      have s17 := Same.new nabc (.tup [V.str "a", V.str "b", V.str "c"])
      have habc : (upd H16 abc (.tup [V.str "a", V.str "b", V.str "c"]) : Hp) abc = some (.tup [V.str "a", V.str "b", V.str "c"]) := upd_same
      generalize (upd H16 abc (.tup [V.str "a", V.str "b", V.str "c"]) : Hp) = H17 at *
      refine ⟨r.2.1, abc, _, _, rfl, rfl, s17 _ _ hb16, habc, big _ (by simp; omega), fun bb H18 s18 hbb => ?_⟩
      have hbb' : TupA H18 bb (r.2.2.2.1 ++ abcS) := by rw [TupA, hbb, List.map_append]; rfl
      refine ⟨big _ (by simp), fun l19 nl19 => ?_⟩
      have s19 := Same.new nl19 (.lst [V.ref bb])
      have hl19 : (upd H18 l19 (.lst [V.ref bb]) : Hp) l19 = some (.lst [V.ref bb]) := upd_same
      generalize (upd H18 l19 (.lst [V.ref bb]) : Hp) = H19 at *
      have s1619 := (s17.trans s18).trans s19
      have s819 := s816.trans s1619
      refine ⟨sl, l19, _, _, rfl, rfl, s819 _ _ hA8.at_, hl19, big _ (by simp; omega), fun l20 nl20 => ?_⟩
      have s20 := Same.new nl20 (.lst ((als.map fun r => V.ref r.1) ++ [V.ref bb]))
      have hA20 : Als (upd H19 l20 (.lst ((als.map fun r => V.ref r.1) ++ [V.ref bb]))) l20 (als ++ [(bb, r.2.2.2.1 ++ abcS)]) := by
        refine ⟨by rw [upd_same, List.map_append]; rfl, fun z hz => ?_⟩
        rcases List.mem_append.mp hz with hz | hz
        · exact (s819.trans s20) _ _ (hA8.all z hz)
        · rw [List.mem_singleton.mp hz]
          exact (s19.trans s20) _ _ hbb'
      have hA9 : ∀ z ∈ als ++ [(bb, r.2.2.2.1 ++ abcS)], z.2.length ≤ 10 := fun z hz => by
        rcases List.mem_append.mp hz with hz | hz
        · have := hA6 z hz; omega
        · rw [List.mem_singleton.mp hz]
          show (r.2.2.2.1 ++ abcS).length ≤ 10
          simp; omega
      generalize (upd H19 l20 (.lst ((als.map fun r => V.ref r.1) ++ [V.ref bb])) : Hp) = H20 at *
      have s1620 := s1619.trans s20
      have s820 := s816.trans s1620
      refine ⟨l20, rfl, ⟨_, SqL.of hA20.at_⟩, fun D21 hD21 => ?_⟩
      refine compF_gen (fun z : Addr × List Str => V.ref z.1) (fr := [some (.ref pr), some (.ref p)]) (fun z => .bl (decide (onceF (rest R r.2.2.2.1) z.2 = onceF R z.2))) (fun _ => true) D21 hD21 (tells_list (SqL.of hA20.at_)) (bigl _ (by simp; omega)) (fun z H22 Rr hz s22 hR22 => hR22 H22 (Same.refl _)) (fun z H22 Rr hz _ s22 hR22 => ?_) ?_
      · have hz9 := hA9 z hz
        refine ⟨_, rfl, _, rfl, ?_⟩
        dsimp only [tNil, List.cons_append, List.nil_append, List.append_nil]
        refine once_use ((hpr.same s1620).same s22) ndr lR hgr (s22 _ _ (hA20.all z hz)) (by omega) fun w1 H23 s23 hw1 => ?_
        refine ⟨_, rfl, _, rfl, ?_⟩
        dsimp only [tNil, List.cons_append, List.nil_append, List.append_nil]
        refine once_use ((hR8.same s820).same (s22.trans s23)) gR.nd (by omega) hgK ((s22.trans s23) _ _ (hA20.all z hz)) (by omega) fun w2 H24 s24 hw2 => eqM_of (hw1.same s24) hw2 (hR22 H24 (s23.trans s24))
      intro H21 s21 hD21'
      have ef3 : ((als ++ [(bb, r.2.2.2.1 ++ abcS)]).filter fun _ => true) = als ++ [(bb, r.2.2.2.1 ++ abcS)] := List.filter_eq_self.mpr fun _ _ => rfl
      rw [ef3] at hD21'
      have eB3 : ((als ++ [(bb, r.2.2.2.1 ++ abcS)]).map fun z => V.bl (decide (onceF (rest R r.2.2.2.1) z.2 = onceF R z.2))) = ((als ++ [(bb, r.2.2.2.1 ++ abcS)]).map fun z => decide (onceF (rest R r.2.2.2.1) z.2 = onceF R z.2)).map V.bl := by rw [List.map_map]; rfl
      rw [eB3] at hD21'
      have s1621 := s1620.trans s21
      have s821 := s816.trans s1621
      have hb21 := s1621 _ _ hb16
      have hpi21 := ((hpi13.same s14).same (s15.trans s16)).same s1621
      -- is it needless
      have hneed : decide (r.2.2.2.1 ∈ T) = needs R r.2.2.2 := by
        rw [Bool.eq_iff_iff, decide_eq_true_eq, hTm]
        constructor
        · rintro ⟨z, hz, hn, e⟩
          have : z = r.2.2.2 := by
            have h1 := once_own gR.nd (b := z.1) (g := z.2) hz
            have h2 := once_own gR.nd (b := r.2.2.2.1) (g := r.2.2.2.2) hrR
            rw [e, h2] at h1
            injection h1 with h1
            exact Prod.ext e h1.symm
          rw [← this]; exact hn
        · exact fun hn => ⟨_, hrR, hn, rfl⟩
      have hnd2 : decide (onceF (rest R r.2.2.2.1) r.2.2.2.1 = onceF R r.2.2.2.1) = needs R r.2.2.2 := (needs_iff gR.nd (b := r.2.2.2.1) (g := r.2.2.2.2) hrR).symm
      refine ⟨_, rfl, _, rfl, ?_⟩
      dsimp only [tNil, List.cons_append, List.nil_append, List.append_nil]
      refine in_idle hpi21 hb21 ?_
      refine ⟨_, rfl, _, rfl, ?_⟩
      dsimp only [tNil, List.cons_append, List.nil_append, List.append_nil]
      refine once_use (hpr.same s1621) ndr lR hgr hb21 (by omega) fun w1 H22 s22 hw1 => ?_
      refine ⟨_, rfl, _, rfl, ?_⟩
      dsimp only [tNil, List.cons_append, List.nil_append, List.append_nil]
      refine once_use ((hR8.same s821).same s22) gR.nd (by omega) hgK (s22 _ _ hb21) (by omega) fun w2 H23 s23 hw2 => eqM_of (hw1.same s23) hw2 ⟨rfl, ?_⟩
      rw [hneed, hnd2, decide_eq_true rfl]
      refine ⟨_, rfl, iteF ?_⟩
      have s2123 := s22.trans s23
      refine ⟨_, rfl, _, rfl, ?_⟩
      dsimp only [tNil, List.cons_append, List.nil_append, List.append_nil]
      refine in_idle (hpi21.same s2123) (s2123 _ _ hb21) ⟨_, rfl, ?_⟩
      rw [hneed]
      cases hn : needs R r.2.2.2 with
      | false => exact iteF (iteF ⟨_, _, _, _, rfl, ((s14.trans (s15.trans s16)).trans s1621).trans s2123⟩)
      | true =>
        refine iteT ⟨_, rfl, D21, _, rfl, SqL.of (s2123 _ _ hD21'), ?_⟩
        have hallB : ((als ++ [(bb, r.2.2.2.1 ++ abcS)]).map fun z => decide (onceF (rest R r.2.2.2.1) z.2 = onceF R z.2)).all id = true := by
          rw [List.all_eq_true]
          intro b hb
          obtain ⟨z, _, rfl⟩ := List.mem_map.mp hb
          exact decide_eq_true (needless_same gR.nd (b := r.2.2.2.1) (g := r.2.2.2.2) hrR hn z.2)
        rw [hallB]
        exact ⟨_, rfl, iteF ⟨_, _, _, _, rfl, ((s14.trans (s15.trans s16)).trans s1621).trans s2123⟩⟩
    rintro σ H14 ⟨v7', v8', v9', v10', rfl, s14⟩
    -- nothing
    refine ⟨big _ (by simp), fun e15 ne15 => ?_⟩
    have s15 := Same.new ne15 (.tup ([] : List V))
    have hE : RlsAt (upd H14 e15 (.tup ([] : List V))) e15 [] := ⟨[], upd_same, (fun x hx => nomatch hx), rfl⟩
    generalize (upd H14 e15 (.tup ([] : List V)) : Hp) = H15 at *
    refine ⟨e15, [], rfl, hE, List.nodup_nil, by simp, (fun r hr' => nomatch hr'), fun q16 T16 H16 s16 hq16 _ hT16 => ?_⟩
    have eT16 : T16 = [] := List.eq_nil_iff_forall_not_mem.mpr fun u hu' => by obtain ⟨r, hr', _⟩ := (hT16 u).mp hu'; cases hr'
    subst eT16
    refine ⟨big _ (by simp), fun e17 ne17 => ?_⟩
    have s17 := Same.new ne17 (.tup ([] : List V))
    have hE17 : (upd H16 e17 (.tup ([] : List V)) : Hp) e17 = some (.tup (([] : List Str).map V.str)) := upd_same
    generalize (upd H16 e17 (.tup ([] : List V)) : Hp) = H17 at *
    refine ⟨[], [], tups_dat (T := []) (hq16.same s17), str_dat (u := []) hE17, Nat.zero_le _, _, rfl, iteF ?_⟩
    refine ⟨big _ (by simp), fun e18 ne18 => ?_⟩
    have s18 := Same.new ne18 (.tup ([] : List V))
    have hE18 : RlsAt (upd H17 e18 (.tup ([] : List V))) e18 [] := ⟨[], upd_same, (fun x hx => nomatch hx), rfl⟩
    generalize (upd H17 e18 (.tup ([] : List V)) : Hp) = H18 at *
    refine ⟨big _ (by simp), fun a19 na19 => ?_⟩
    have s19 := Same.new na19 (.tup [V.str "a"])
    have ha19 : TupA (upd H18 a19 (.tup [V.str "a"])) a19 ["a"] := upd_same
    generalize (upd H18 a19 (.tup [V.str "a"]) : Hp) = H19 at *
    dsimp only [tNil, List.cons_append, List.nil_append, List.append_nil]
    refine led_use (hE18.same s19) List.nodup_nil (by simp) (fun r hr' => nomatch hr') ha19 (by simp) fun w20 H20 s20 hw20 => ?_
    rw [led_none (show onceF [] ["a"] = none from rfl)] at hw20
    refine ⟨big _ (by simp), fun a21 na21 => ?_⟩
    have s21 := Same.new na21 (.tup [V.str "a"])
    have ha21 : TupA (upd H20 a21 (.tup [V.str "a"])) a21 ["a"] := upd_same
    refine neM_same (hw20.same s21) (.inr ⟨_, _, rfl, rfl, ha21⟩) ⟨_, rfl, iteF ⟨_, _, _, _, _, _, _, _, _, rfl, ?_⟩⟩
    exact ((hW8.same ((s813.trans s14).trans s15)).same (((((s16.trans s17).trans s18).trans s19).trans s20).trans s21)).up (by omega)
  · rintro σ H1 ⟨v2, v3, v4, v5, v6, v7, v8, v9, v10, rfl, hW1⟩
    refine ⟨big _ (by simp), fun t3 nt3 => ?_⟩
    have s2 := Same.new nt3 (.tup [V.int 7, V.int 8, V.int 9])
    have ht3 : (upd H1 t3 (.tup [V.int 7, V.int 8, V.int 9]) : Hp) t3 = some (.tup [V.int 7, V.int 8, V.int 9]) := upd_same
    generalize (upd H1 t3 (.tup [V.int 7, V.int 8, V.int 9]) : Hp) = H2 at *
    refine ⟨t3, rfl, ⟨_, SqT.of ht3⟩, ?_⟩
    refine for_tup (xs := [V.int 7, V.int 8, V.int 9]) (fun j σ H' => ∃ v11 v12 : Option V, σ = [some (.ref a), some (.ref t), v2, v3, v4, v5, v6, v7, v8, v9, v10, v11, v12] ∧ Same H2 H')
      ⟨_, _, rfl, Same.refl _⟩ (fun j σ H' _ h => by obtain ⟨_, _, _, s⟩ := h; exact SqT.of (s _ _ ht3)) ?_ (fun σ H' _ => q H')
    rintro j x σ H3 hx ⟨v11', v12', rfl, s3⟩
    obtain ⟨n, hn, rfl⟩ : ∃ n : Nat, n ∈ [7, 8, 9] ∧ x = V.int (n : Int) := by
      have := List.mem_of_getElem? hx
      simp only [List.mem_cons, List.not_mem_nil, or_false] at this
      rcases this with rfl | rfl | rfl
      · exact ⟨7, by simp, rfl⟩
      · exact ⟨8, by simp, rfl⟩
      · exact ⟨9, by simp, rfl⟩
    have hn9 : n ≤ 9 := by
      simp only [List.mem_cons, List.not_mem_nil, or_false] at hn
      omega
    have short : ∀ i : Nat, i ≤ 10 → ((i : Int).natAbs.log2 < 1920 ∧ ("n" : Str).length + (toString (i : Int) : Str).length ≤ 100) := by decide +kernel
    refine ⟨_, rfl, (n : Int), rfl, by omega, by omega, fun D hD => ?_⟩
    refine compF_drw (J := Itr 0 n) (n := n) (fr := []) D (fun i x => x = V.int (0 + (i : Int))) (fun i ys H' => ∃ rs : List Rx, ys = rrefs rs ∧ RlsIn H' rs ∧ rs.map (·.2.2.2) = chN nS i ∧ Same H3 H') (bigl _ (by omega))
      (fun i H' h => h) (fun i H' x H'' _ y => y) (fun H' => Nat.le_refl _) ⟨[], rfl, (fun x hx => by cases hx), rfl, Same.new hD _⟩ ?_ ?_
    · rintro j' x ys H4 Rr hjn rfl ⟨rs, rfl, hrs4, eR, s4⟩ hD4 hR4
      have e1 : (0 + (j' : Int)) = ((j' : Nat) : Int) := by omega
      have e2 : (0 + (j' : Int)) + 1 = ((j' + 1 : Nat) : Int) := by omega
      obtain ⟨a1, a2⟩ := short j' (by omega)
      obtain ⟨b1, b2⟩ := short (j' + 1) (by omega)
      refine ⟨_, rfl, _, rfl, by rw [e1]; exact a1, _, _, rfl, rfl, big _ (by rw [e1]; omega), big _ (by simp), fun b nb => ?_⟩
      have s5 := Same.new nb (.tup [V.str (("n" : Str) ++ (toString (0 + (j' : Int)) : Str))])
      have hb5 : (upd H4 b (.tup [V.str (("n" : Str) ++ (toString (0 + (j' : Int)) : Str))]) : Hp) b = some (.tup [V.str (nS j')]) := by rw [upd_same, e1]; rfl
      generalize (upd H4 b (.tup [V.str (("n" : Str) ++ (toString (0 + (j' : Int)) : Str))]) : Hp) = H5 at *
      refine ⟨_, rfl, _, _, rfl, rfl, _, rfl, by rw [e2]; exact b1, _, _, rfl, rfl, big _ (by rw [e2]; omega), big _ (by simp), fun g ng => ?_⟩
      have s6 := Same.new ng (.tup [V.str (("n" : Str) ++ (toString (0 + (j' : Int) + 1) : Str))])
      have hg6 : (upd H5 g (.tup [V.str (("n" : Str) ++ (toString (0 + (j' : Int) + 1) : Str))]) : Hp) g = some (.tup [V.str (nS (j' + 1))]) := by rw [upd_same, e2]; rfl
      generalize (upd H5 g (.tup [V.str (("n" : Str) ++ (toString (0 + (j' : Int) + 1) : Str))]) : Hp) = H6 at *
      refine ⟨big _ (by simp), fun pr npr => ?_⟩
      have s7 := Same.new npr (.tup [V.ref b, V.ref g])
      have hpr7 : (upd H6 pr (.tup [V.ref b, V.ref g]) : Hp) pr = some (.tup [V.ref b, V.ref g]) := upd_same
      generalize (upd H6 pr (.tup [V.ref b, V.ref g]) : Hp) = H7 at *
      have s47 := (s5.trans s6).trans s7
      have hD7 := s47 _ _ hD4
      have ts8 : TS' H7 (upd H7 D (.lst (rrefs rs ++ [V.ref pr]))) := TS'.lst hD7
      refine hR4 _ _ hD7 ⟨rs ++ [(pr, b, g, ([nS j'], [nS (j' + 1)]))], by unfold rrefs; rw [List.map_append]; rfl, fun x hx => ?_, by rw [List.map_append, eR]; unfold chN; rw [List.range_succ, List.map_append]; rfl, fun c o ec => ?_⟩
      · rcases List.mem_append.mp hx with hx | hx
        · exact (hrs4 x hx).ts (s47.ts.trans ts8)
        · rw [List.mem_singleton.mp hx]
          exact ⟨ts8 _ _ hpr7, ts8 _ _ (s7 _ _ (s6 _ _ hb5)), ts8 _ _ (s7 _ _ hg6)⟩
      · rw [upd_ne (ne_of_none ec hD)]
        exact (s4.trans s47) _ _ ec
    rintro ys H4 ⟨rs, rfl, hrs4, eR, s4⟩ hD4
    refine ⟨D, _, rfl, .inl ⟨SqL.of hD4, fun pr npr => ?_⟩⟩
    have s5 := Same.new npr (.tup (rrefs rs))
    have hR5 : RlsAt (upd H4 pr (.tup (rrefs rs))) pr (chN nS n) := ⟨rs, upd_same, hrs4.ts s5.ts, eR⟩
    generalize (upd H4 pr (.tup (rrefs rs)) : Hp) = H5 at *
    refine ⟨_, rfl, big _ (by simp), fun ad nad => ?_⟩
    have s6 := Same.new nad (.tup [V.str "n0", V.str "z"])
    have had : TupA (upd H5 ad (.tup [V.str "n0", V.str "z"])) ad ["n0", "z"] := upd_same
    generalize (upd H5 ad (.tup [V.str "n0", V.str "z"]) : Hp) = H6 at *
    have lch : (chN nS n).length = n := by unfold chN; simp
    have s36 := (s4.trans s5).trans s6
    have led : (n < 9 ∧ ledN 8 (chN nS n) ["n0", "z"] = some [nS n, "z"]) ∨ (n = 9 ∧ ledN 8 (chN nS n) ["n0", "z"] = none) := by
      simp only [List.mem_cons, List.not_mem_nil, or_false] at hn
      rcases hn with rfl | rfl | rfl
      · exact .inl ⟨by decide, ch7⟩
      · exact .inl ⟨by decide, ch8⟩
      · exact .inr ⟨rfl, ch9⟩
    dsimp only [tNil, List.cons_append, List.nil_append, List.append_nil]
    refine led_use (hR5.same s6) (ch_nd n hn) (by omega) (fun r hr' => ?_) had (by decide) fun w7 H7 s7 hw7 => ?_
    · unfold chN at hr'
      obtain ⟨j', _, rfl⟩ := List.mem_map.mp hr'
      show 1 ≤ 50
      decide
    refine ⟨_, rfl, _, _, rfl, rfl, _, rfl, ?_⟩
    rcases led with ⟨hlt, e⟩ | ⟨e9, e⟩
    · rw [decide_eq_true (show (n : Int) < 9 by omega)]
      rw [e] at hw7
      obtain ⟨a1, a2⟩ := short n (by omega)
      refine iteT ⟨_, rfl, _, rfl, a1, _, _, rfl, rfl, big _ (by omega), big _ (by simp), fun d8 nd8 => ?_⟩
      have s8 := Same.new nd8 (.tup [V.str (("n" : Str) ++ (toString (n : Int) : Str)), V.str "z"])
      have hd8 : TupA (upd H7 d8 (.tup [V.str (("n" : Str) ++ (toString (n : Int) : Str)), V.str "z"])) d8 [nS n, "z"] := upd_same
      exact neM_same (hw7.same s8) (.inr ⟨_, _, rfl, rfl, hd8⟩) ⟨_, rfl, iteF ⟨_, _, rfl, ((s3.trans s36).trans s7).trans s8⟩⟩
    · rw [decide_eq_false (show ¬ (n : Int) < 9 by omega)]
      rw [e] at hw7
      refine iteF ?_
      dsimp only [tC]
      exact neM_same hw7 (.inl ⟨rfl, rfl⟩) ⟨_, rfl, iteF ⟨_, _, rfl, (s3.trans s36).trans s7⟩⟩
end
end LW
namespace LW
open PySem L2 Mi Co
theorem all_mk {l : PySem.W.OpenLaw} {w : World} {K : PySem.W.Frag} {h : Heap} {mg : Str → Option Value} {fa f1 f2 f3 f4 f5 f6 f7 f8 f9 f10 f11 f12 f13 f14 f15 : Addr} (X : K.In h) (G0 : h.Ns mainGlobals mg) (hfa : mg "law" = some (.ref fa))
    {od1 an1 od2 an2 od3 an3 od4 an4 od5 an5 od6 an6 od7 an7 od8 an8 od9 an9 od10 an10 od11 an11 od12 an12 od13 an13 od14 an14 od15 an15 : Option Addr} {sl1 sl2 sl3 sl4 sl5 sl6 sl7 sl8 sl9 sl10 sl11 sl12 sl13 sl14 sl15 : Array (Option Value)} {oc1 kV1 dc1 pm1 cd1 ct1 oc2 kV2 dc2 pm2 cd2 ct2 oc3 kV3 dc3 pm3 cd3 ct3 oc4 kV4 dc4 pm4 cd4 ct4 oc5 kV5 dc5 pm5 cd5 ct5 oc6 kV6 dc6 pm6 cd6 ct6 oc7 kV7 dc7 pm7 cd7 ct7 oc8 kV8 dc8 pm8 cd8 ct8 oc9 kV9 dc9 pm9 cd9 ct9 oc10 kV10 dc10 pm10 cd10 ct10 oc11 kV11 dc11 pm11 cd11 ct11 oc12 kV12 dc12 pm12 cd12 ct12 oc13 kV13 dc13 pm13 cd13 ct13 oc14 kV14 dc14 pm14 cd14 ct14 oc15 kV15 dc15 pm15 cd15 ct15 : Value} {t1 t2 t3 : Tok} {C1 : Addr}
    (a1 : PySem.W.nsIn K mainGlobals "begins_with" = some (some (.ref f1))) (l1 : K.lookup f1 = some ⟨oc1, od1, .func (PySem.W.fnOf "begins_with" "begins_with" (defArgs sBegins) (defBody sBegins) (defScope sBegins) .none kV1 dc1 pm1 an1 cd1 ct1), sl1⟩) (c1 : PySem.W.codeIn K cd1 "begins_with" = true) (k1 : PySem.W.keepIn K (.ref f1) = true)
    (a2 : PySem.W.nsIn K mainGlobals "length_of_beginning" = some (some (.ref f2))) (l2 : K.lookup f2 = some ⟨oc2, od2, .func (PySem.W.fnOf "length_of_beginning" "length_of_beginning" (defArgs sLenB) (defBody sLenB) (defScope sLenB) .none kV2 dc2 pm2 an2 cd2 ct2), sl2⟩) (c2 : PySem.W.codeIn K cd2 "length_of_beginning" = true) (k2 : PySem.W.keepIn K (.ref f2) = true)
    (a3 : PySem.W.nsIn K mainGlobals "longest_rule" = some (some (.ref f3))) (l3 : K.lookup f3 = some ⟨oc3, od3, .func (PySem.W.fnOf "longest_rule" "longest_rule" (defArgs sLongest) (defBody sLongest) (defScope sLongest) .none kV3 dc3 pm3 an3 cd3 ct3), sl3⟩) (c3 : PySem.W.codeIn K cd3 "longest_rule" = true) (k3 : PySem.W.keepIn K (.ref f3) = true)
    (a4 : PySem.W.nsIn K mainGlobals "once" = some (some (.ref f4))) (l4 : K.lookup f4 = some ⟨oc4, od4, .func (PySem.W.fnOf "once" "once" (defArgs sOnce) (defBody sOnce) (defScope sOnce) .none kV4 dc4 pm4 an4 cd4 ct4), sl4⟩) (c4 : PySem.W.codeIn K cd4 "once" = true) (k4 : PySem.W.keepIn K (.ref f4) = true)
    (a5 : PySem.W.nsIn K mainGlobals "led" = some (some (.ref f5))) (l5 : K.lookup f5 = some ⟨oc5, od5, .func (PySem.W.fnOf "led" "led" (defArgs sLed) (defBody sLed) (defScope sLed) .none kV5 dc5 pm5 an5 cd5 ct5), sl5⟩) (c5 : PySem.W.codeIn K cd5 "led" = true) (k5 : PySem.W.keepIn K (.ref f5) = true)
    (a6 : PySem.W.nsIn K mainGlobals "is_needless" = some (some (.ref f6))) (l6 : K.lookup f6 = some ⟨oc6, od6, .func (PySem.W.fnOf "is_needless" "is_needless" (defArgs sIsN) (defBody sIsN) (defScope sIsN) .none kV6 dc6 pm6 an6 cd6 ct6), sl6⟩) (c6 : PySem.W.codeIn K cd6 "is_needless" = true) (k6 : PySem.W.keepIn K (.ref f6) = true)
    (a7 : PySem.W.nsIn K mainGlobals "needless" = some (some (.ref f7))) (l7 : K.lookup f7 = some ⟨oc7, od7, .func (PySem.W.fnOf "needless" "needless" (defArgs sNeedless) (defBody sNeedless) (defScope sNeedless) .none kV7 dc7 pm7 an7 cd7 ct7), sl7⟩) (c7 : PySem.W.codeIn K cd7 "needless" = true) (k7 : PySem.W.keepIn K (.ref f7) = true)
    (a8 : PySem.W.nsIn K mainGlobals "_law_draw" = some (some (.ref f8))) (l8 : K.lookup f8 = some ⟨oc8, od8, .func (PySem.W.fnOf "_law_draw" "_law_draw" (defArgs sDraw) (defBody sDraw) (defScope sDraw) .none kV8 dc8 pm8 an8 cd8 ct8), sl8⟩) (c8 : PySem.W.codeIn K cd8 "_law_draw" = true) (k8 : PySem.W.keepIn K (.ref f8) = true)
    (a9 : PySem.W.nsIn K mainGlobals "_law_pick" = some (some (.ref f9))) (l9 : K.lookup f9 = some ⟨oc9, od9, .func (PySem.W.fnOf "_law_pick" "_law_pick" (defArgs sPick) (defBody sPick) (defScope sPick) .none kV9 dc9 pm9 an9 cd9 ct9), sl9⟩) (c9 : PySem.W.codeIn K cd9 "_law_pick" = true) (k9 : PySem.W.keepIn K (.ref f9) = true)
    (a10 : PySem.W.nsIn K mainGlobals "_law_address" = some (some (.ref f10))) (l10 : K.lookup f10 = some ⟨oc10, od10, .func (PySem.W.fnOf "_law_address" "_law_address" (defArgs sAddr) (defBody sAddr) (defScope sAddr) .none kV10 dc10 pm10 an10 cd10 ct10), sl10⟩) (c10 : PySem.W.codeIn K cd10 "_law_address" = true) (k10 : PySem.W.keepIn K (.ref f10) = true)
    (a11 : PySem.W.nsIn K mainGlobals "_law_rules" = some (some (.ref f11))) (l11 : K.lookup f11 = some ⟨oc11, od11, .func (PySem.W.fnOf "_law_rules" "_law_rules" (defArgs sRules) (defBody sRules) (defScope sRules) .none kV11 dc11 pm11 an11 cd11 ct11), sl11⟩) (c11 : PySem.W.codeIn K cd11 "_law_rules" = true) (k11 : PySem.W.keepIn K (.ref f11) = true)
    (a12 : PySem.W.nsIn K mainGlobals "_law_led" = some (some (.ref f12))) (l12 : K.lookup f12 = some ⟨oc12, od12, .func (PySem.W.fnOf "_law_led" "_law_led" (defArgs sLLed) (defBody sLLed) (defScope sLLed) .none kV12 dc12 pm12 an12 cd12 ct12), sl12⟩) (c12 : PySem.W.codeIn K cd12 "_law_led" = true) (k12 : PySem.W.keepIn K (.ref f12) = true)
    (a13 : PySem.W.nsIn K mainGlobals "_law_steps" = some (some (.ref f13))) (l13 : K.lookup f13 = some ⟨oc13, od13, .func (PySem.W.fnOf "_law_steps" "_law_steps" (defArgs sSteps) (defBody sSteps) (defScope sSteps) .none kV13 dc13 pm13 an13 cd13 ct13), sl13⟩) (c13 : PySem.W.codeIn K cd13 "_law_steps" = true) (k13 : PySem.W.keepIn K (.ref f13) = true)
    (a14 : PySem.W.nsIn K mainGlobals "_law_once" = some (some (.ref f14))) (l14 : K.lookup f14 = some ⟨oc14, od14, .func (PySem.W.fnOf "_law_once" "_law_once" (defArgs sLOnce) (defBody sLOnce) (defScope sLOnce) .none kV14 dc14 pm14 an14 cd14 ct14), sl14⟩) (c14 : PySem.W.codeIn K cd14 "_law_once" = true) (k14 : PySem.W.keepIn K (.ref f14) = true)
    (a15 : PySem.W.nsIn K mainGlobals "law" = some (some (.ref f15))) (l15 : K.lookup f15 = some ⟨oc15, od15, .func (PySem.W.fnOf "law" "law" (defArgs sLaw) (defBody sLaw) (defScope sLaw) .none kV15 dc15 pm15 an15 cd15 ct15), sl15⟩) (c15 : PySem.W.codeIn K cd15 "law" = true) (k15 : PySem.W.keepIn K (.ref f15) = true)
    (w1 : PySem.W.nsIn K mainGlobals "BEGINNING" = some (some (.int 0 t1)))
    (w2 : PySem.W.nsIn K mainGlobals "GOAL" = some (some (.int 1 t2)))
    (w3 : PySem.W.nsIn K mainGlobals "MOST_TIMES" = some (some (.int 8 t3)))
    (x1 : PySem.W.nsIn K mainGlobals "TooMany" = some (some (.ref C1))) (y1 : PySem.W.excIn K C1 VE "ValueError.__new__" = true)
    (z1 : PySem.W.nsIn K mainGlobals "len" = some none)
    (z2 : PySem.W.nsIn K mainGlobals "all" = some none)
    (z3 : PySem.W.nsIn K mainGlobals "isinstance" = some none)
    (z4 : PySem.W.nsIn K mainGlobals "str" = some none)
    (z5 : PySem.W.nsIn K mainGlobals "int" = some none)
    (z6 : PySem.W.nsIn K mainGlobals "bool" = some none)
    (z7 : PySem.W.nsIn K mainGlobals "tuple" = some none)
    (z8 : PySem.W.nsIn K mainGlobals "list" = some none)
    (z9 : PySem.W.nsIn K mainGlobals "range" = some none)
    (z10 : PySem.W.nsIn K mainGlobals "zip" = some none)
    (z11 : PySem.W.nsIn K mainGlobals "any" = some none)
    (z12 : PySem.W.nsIn K mainGlobals "sorted" = some none)
    (z13 : PySem.W.nsIn K mainGlobals "dict" = some none)
    (z14 : PySem.W.nsIn K mainGlobals "enumerate" = some none)
    (z15 : PySem.W.nsIn K mainGlobals "max" = some none)
    : ∃ fd : FuncData, (∀ (s : Shared) (v : Value), BindsTo s fd ⟨[v], []⟩ [("_law_script", v)]) ∧ ∀ base : Heap, K.In base → base.Ns mainGlobals mg → FnOk l.prog w K mg base CX0 7 fa fd ["_law_script"] (spLaw K) := by
  have e := hfa.symm.trans (PySem.W.mg_of X G0 a15)
  cases e
  have F1 := fun_mk (st := sBegins) l1 c1 k1
  have F2 := fun_mk (st := sLenB) l2 c2 k2
  have F3 := fun_mk (st := sLongest) l3 c3 k3
  have F4 := fun_mk (st := sOnce) l4 c4 k4
  have F5 := fun_mk (st := sLed) l5 c5 k5
  have F6 := fun_mk (st := sIsN) l6 c6 k6
  have F7 := fun_mk (st := sNeedless) l7 c7 k7
  have F8 := fun_mk (st := sDraw) l8 c8 k8
  have F9 := fun_mk (st := sPick) l9 c9 k9
  have F10 := fun_mk (st := sAddr) l10 c10 k10
  have F11 := fun_mk (st := sRules) l11 c11 k11
  have F12 := fun_mk (st := sLLed) l12 c12 k12
  have F13 := fun_mk (st := sSteps) l13 c13 k13
  have F14 := fun_mk (st := sLOnce) l14 c14 k14
  have F15 := fun_mk (st := sLaw) l15 c15 k15
  have b1 := F1.binds (ps := ["address", "beginning"]) fun _ _ _ _ _ _ us hl => match us, hl with | [_, _], _ => rfl
  have b2 := F2.binds (ps := ["rule"]) fun _ _ _ _ _ _ us hl => match us, hl with | [_], _ => rfl
  have b3 := F3.binds (ps := ["rules", "address"]) fun _ _ _ _ _ _ us hl => match us, hl with | [_, _], _ => rfl
  have b4 := F4.binds (ps := ["rules", "address"]) fun _ _ _ _ _ _ us hl => match us, hl with | [_, _], _ => rfl
  have b5 := F5.binds (ps := ["rules", "address"]) fun _ _ _ _ _ _ us hl => match us, hl with | [_, _], _ => rfl
  have b6 := F6.binds (ps := ["rules", "rule"]) fun _ _ _ _ _ _ us hl => match us, hl with | [_, _], _ => rfl
  have b7 := F7.binds (ps := ["rules"]) fun _ _ _ _ _ _ us hl => match us, hl with | [_], _ => rfl
  have b8 := F8.binds (ps := ["_law_script", "_law_town", "_law_many"]) fun _ _ _ _ _ _ us hl => match us, hl with | [_, _, _], _ => rfl
  have b9 := F9.binds (ps := ["_law_script", "_law_town", "_law_some"]) fun _ _ _ _ _ _ us hl => match us, hl with | [_, _, _], _ => rfl
  have b10 := F10.binds (ps := ["_law_script", "_law_town", "_law_most"]) fun _ _ _ _ _ _ us hl => match us, hl with | [_, _, _], _ => rfl
  have b11 := F11.binds (ps := ["_law_script", "_law_town"]) fun _ _ _ _ _ _ us hl => match us, hl with | [_, _], _ => rfl
  have b12 := F12.binds (ps := ["_law_rules_here", "_law_address_here"]) fun _ _ _ _ _ _ us hl => match us, hl with | [_, _], _ => rfl
  have b13 := F13.binds (ps := ["_law_rules_here", "_law_address_here"]) fun _ _ _ _ _ _ us hl => match us, hl with | [_, _], _ => rfl
  have b14 := F14.binds (ps := ["_law_rules_here", "_law_address_here"]) fun _ _ _ _ _ _ us hl => match us, hl with | [_, _], _ => rfl
  have G : Blt mg := ⟨PySem.W.mg_none_of X G0 z1, PySem.W.mg_none_of X G0 z2, PySem.W.mg_none_of X G0 z3, PySem.W.mg_none_of X G0 z4, PySem.W.mg_none_of X G0 z5, PySem.W.mg_none_of X G0 z6, PySem.W.mg_none_of X G0 z7, PySem.W.mg_none_of X G0 z8, PySem.W.mg_none_of X G0 z9, PySem.W.mg_none_of X G0 z10, PySem.W.mg_none_of X G0 z11, PySem.W.mg_none_of X G0 z12, PySem.W.mg_none_of X G0 z13, PySem.W.mg_none_of X G0 z14⟩
  have Z_max : mg "max" = none := PySem.W.mg_none_of X G0 z15
  have W_BEGINNING : ∃ t, mg "BEGINNING" = some (.int 0 t) := ⟨_, PySem.W.mg_of X G0 w1⟩
  have W_GOAL : ∃ t, mg "GOAL" = some (.int 1 t) := ⟨_, PySem.W.mg_of X G0 w2⟩
  have W_MOST_TIMES : ∃ t, mg "MOST_TIMES" = some (.int 8 t) := ⟨_, PySem.W.mg_of X G0 w3⟩
  refine ⟨PySem.W.fnOf "law" "law" (defArgs sLaw) (defBody sLaw) (defScope sLaw) .none kV15 dc15 pm15 an15 cd15 ct15, fun s v => .of_eq rfl, fun base kb nb => ?_⟩
  have O_TooMany : PyProof.Rows.OwnCls "TooMany" C1 VE "ValueError.__new__" mg base := own_mk kb (PySem.W.mg_of X G0 x1) y1
  have H_begins_with : Has l.prog w K mg base "begins_with" 1 ["address", "beginning"] spBegins := ⟨f1, _, ok_begins (k := 0) F1 G, b1, k1, (PySem.W.mg_of X G0 a1)⟩
  have H_length_of_beginning : Has l.prog w K mg base "length_of_beginning" 1 ["rule"] spLenB := ⟨f2, _, ok_lenb (k := 0) F2 G W_BEGINNING, b2, k2, (PySem.W.mg_of X G0 a2)⟩
  have H_longest_rule : Has l.prog w K mg base "longest_rule" 3 ["rules", "address"] spLongest := ⟨f3, _, ok_longest (k := 1) F3 G W_BEGINNING Z_max (H_begins_with.mono (by decide)) H_length_of_beginning, b3, k3, (PySem.W.mg_of X G0 a3)⟩
  have H_once : Has l.prog w K mg base "once" 4 ["rules", "address"] spOnce := ⟨f4, _, ok_once F4 G W_BEGINNING W_GOAL H_longest_rule, b4, k4, (PySem.W.mg_of X G0 a4)⟩
  have H_led : HasE l.prog w K mg base "led" 5 ["rules", "address"] (spLed C1) := ⟨f5, _, ok_led F5 G W_MOST_TIMES O_TooMany H_once, b5, k5, (PySem.W.mg_of X G0 a5)⟩
  have H_is_needless : Has l.prog w K mg base "is_needless" 5 ["rules", "rule"] spIsNeedless := ⟨f6, _, ok_isneedless F6 G W_BEGINNING W_GOAL H_once, b6, k6, (PySem.W.mg_of X G0 a6)⟩
  have H_needless : Has l.prog w K mg base "needless" 6 ["rules"] spNeedless := ⟨f7, _, ok_needless F7 G W_BEGINNING H_is_needless, b7, k7, (PySem.W.mg_of X G0 a7)⟩
  have H__law_draw : Has l.prog w K mg base "_law_draw" 1 ["_law_script", "_law_town", "_law_many"] (spDraw K) := ⟨f8, _, ok_draw (k := 0) F8 G, b8, k8, (PySem.W.mg_of X G0 a8)⟩
  have H__law_pick : Has l.prog w K mg base "_law_pick" 2 ["_law_script", "_law_town", "_law_some"] (spPick K) := ⟨f9, _, ok_pick F9 G H__law_draw, b9, k9, (PySem.W.mg_of X G0 a9)⟩
  have H__law_address : Has l.prog w K mg base "_law_address" 3 ["_law_script", "_law_town", "_law_most"] (spAddr K) := ⟨f10, _, ok_addr F10 G (H__law_draw.mono (by decide)) H__law_pick, b10, k10, (PySem.W.mg_of X G0 a10)⟩
  have H__law_rules : Has l.prog w K mg base "_law_rules" 4 ["_law_script", "_law_town"] (spRules K) := ⟨f11, _, ok_rules F11 G (H__law_draw.mono (by decide)) H__law_address, b11, k11, (PySem.W.mg_of X G0 a11)⟩
  have H__law_led : Has l.prog w K mg base "_law_led" 6 ["_law_rules_here", "_law_address_here"] spLedN := ⟨f12, _, ok_lled F12 O_TooMany H_led, b12, k12, (PySem.W.mg_of X G0 a12)⟩
  have H__law_steps : Has l.prog w K mg base "_law_steps" 5 ["_law_rules_here", "_law_address_here"] spLedN := ⟨f13, _, ok_steps F13 G H_once, b13, k13, (PySem.W.mg_of X G0 a13)⟩
  have H__law_once : Has l.prog w K mg base "_law_once" 1 ["_law_rules_here", "_law_address_here"] spLOnce := ⟨f14, _, ok_lonce (k := 0) F14 G, b14, k14, (PySem.W.mg_of X G0 a14)⟩
  exact ok_law (k := 6) F15 G (H__law_address.mono (by decide)) (H__law_rules.mono (by decide)) (H_needless.mono (by decide)) (H_once.mono (by decide)) (H__law_once.mono (by decide)) (H__law_led.mono (by decide)) (H__law_steps.mono (by decide))
theorem walk {l : PySem.W.OpenLaw} {q : Program} {loose : List Str} {XP : (Str → Option Value) → Heap → Prop} {YP : World → Heap → Prop} {d : DefRec} {K : Params → PySem.W.Frag} (hn : l.most = some 63) (hdf : d.params.defaults = [])
    (hY : ∀ (w : World) (h : Heap), YP w h → (K w.params).In h)
    (F : ∀ (w : World) (mg : Str → Option Value) (fa : Addr) (h : Heap), (K w.params).In h → h.Ns mainGlobals mg → mg d.name = some (.ref fa) →
      ∃ fd : FuncData, (∀ (s : Shared) (u : Value), BindsTo s fd ⟨[u], []⟩ [("_law_script", u)]) ∧ ∀ base : Heap, (K w.params).In base → base.Ns mainGlobals mg → FnOk l.prog w (K w.params) mg base CX0 7 fa fd ["_law_script"] (spLaw (K w.params))) :
    PySem.W.WalkO q loose XP YP l.row.toRowW d [] (fun f vs => PySem.call f vs) :=
  L2.walk_of (n := 63) (k := 7) (x := "_law_script") (CX := fun _ => CX0) (sp := fun w => spLaw (K w.params)) hn (by decide) hdf ⟨rfl, by decide, by decide⟩ hY F (fun _ _ a ns hl hO hS => ⟨a, ns, rfl, scr_of hO hS, hl, fun _ => rfl⟩) fun _ _ _ _ _ z => z
end LW
open PySem PySem.W PyProof.Rows
set_option maxRecDepth 100000 in
set_option maxHeartbeats 0 in
theorem PySem.Challenge.cw_pagenames_k30_whole_beginnings_led_on_holds : PySem.Challenge.rw_pagenames_k30_whole_beginnings_led_on.Holds := by
  w_on; o_law; k_head; (case hw => w_witness2)
  k_fill
  refine LW.walk (l := PySem.Challenge.rw_pagenames_k30_whole_beginnings_led_on) rfl rfl (fun w h Y => PySem.W.kIn_of Y) ?F
  case F =>
    intro w mg fa h KX G hmg
    refine' LW.all_mk KX G hmg ?a1 ?l1 ?c1 ?k1 ?a2 ?l2 ?c2 ?k2 ?a3 ?l3 ?c3 ?k3 ?a4 ?l4 ?c4 ?k4 ?a5 ?l5 ?c5 ?k5 ?a6 ?l6 ?c6 ?k6 ?a7 ?l7 ?c7 ?k7 ?a8 ?l8 ?c8 ?k8 ?a9 ?l9 ?c9 ?k9 ?a10 ?l10 ?c10 ?k10 ?a11 ?l11 ?c11 ?k11 ?a12 ?l12 ?c12 ?k12 ?a13 ?l13 ?c13 ?k13 ?a14 ?l14 ?c14 ?k14 ?a15 ?l15 ?c15 ?k15 ?w1 ?w2 ?w3 ?x1 ?y1 ?z1 ?z2 ?z3 ?z4 ?z5 ?z6 ?z7 ?z8 ?z9 ?z10 ?z11 ?z12 ?z13 ?z14 ?z15
    (case a1 => k_is)
    (case l1 => k_is)
    (case c1 => k_is)
    (case k1 => k_is)
    (case a2 => k_is)
    (case l2 => k_is)
    (case c2 => k_is)
    (case k2 => k_is)
    (case a3 => k_is)
    (case l3 => k_is)
    (case c3 => k_is)
    (case k3 => k_is)
    (case a4 => k_is)
    (case l4 => k_is)
    (case c4 => k_is)
    (case k4 => k_is)
    (case a5 => k_is)
    (case l5 => k_is)
    (case c5 => k_is)
    (case k5 => k_is)
    (case a6 => k_is)
    (case l6 => k_is)
    (case c6 => k_is)
    (case k6 => k_is)
    (case a7 => k_is)
    (case l7 => k_is)
    (case c7 => k_is)
    (case k7 => k_is)
    (case a8 => k_is)
    (case l8 => k_is)
    (case c8 => k_is)
    (case k8 => k_is)
    (case a9 => k_is)
    (case l9 => k_is)
    (case c9 => k_is)
    (case k9 => k_is)
    (case a10 => k_is)
    (case l10 => k_is)
    (case c10 => k_is)
    (case k10 => k_is)
    (case a11 => k_is)
    (case l11 => k_is)
    (case c11 => k_is)
    (case k11 => k_is)
    (case a12 => k_is)
    (case l12 => k_is)
    (case c12 => k_is)
    (case k12 => k_is)
    (case a13 => k_is)
    (case l13 => k_is)
    (case c13 => k_is)
    (case k13 => k_is)
    (case a14 => k_is)
    (case l14 => k_is)
    (case c14 => k_is)
    (case k14 => k_is)
    (case a15 => k_is)
    (case l15 => k_is)
    (case c15 => k_is)
    (case k15 => k_is)
    (case w1 => k_is)
    (case w2 => k_is)
    (case w3 => k_is)
    (case x1 => k_is)
    (case y1 => k_exc)
    (case z1 => k_is)
    (case z2 => k_is)
    (case z3 => k_is)
    (case z4 => k_is)
    (case z5 => k_is)
    (case z6 => k_is)
    (case z7 => k_is)
    (case z8 => k_is)
    (case z9 => k_is)
    (case z10 => k_is)
    (case z11 => k_is)
    (case z12 => k_is)
    (case z13 => k_is)
    (case z14 => k_is)
    (case z15 => k_is)
