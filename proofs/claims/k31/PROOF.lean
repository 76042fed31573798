import PyProof.Rows.All
import Wide.All
import OpenK.AllK
import Wide.FinOn
import Lean
import PyProof.EqAt
import PyProof.EqKinds
import PyProof.TupleCall
import PySem.Challenge.RW_pagenames_k31_whole_hands_put_together
set_option Elab.async false
set_option linter.all false
set_option maxRecDepth 100000
namespace L2
open PySem PySem.Spec PyProof.Rows
abbrev Key := Sum Int Str
def keyIs : Key → Value → Bool
  | .inl k, v => Value.isInt k v
  | .inr x, v => Value.isStrOf x v
def keyH (w : World) : Key → Int
  | .inl k => hashInt k
  | .inr x => hashStr w x
theorem keyIs_shape : ∀ {k : Key} {v : Value}, keyIs k v = true → (∃ i t, k = Sum.inl i ∧ v = Value.int i t) ∨ (∃ x t, k = Sum.inr x ∧ v = Value.str x t)
  | .inl i, v, h => by
    obtain ⟨t, e⟩ := Value.isInt_shape (k := i) (v := v) h
    exact .inl ⟨i, t, rfl, e⟩
  | .inr x, v, h => by
    obtain ⟨t, e⟩ := Value.isStrOf_shape (x := x) (v := v) h
    exact .inr ⟨x, t, rfl, e⟩
theorem keyIs_int (i : Int) (t : Tok) : keyIs (.inl i) (.int i t) = true := by simp [keyIs, Value.isInt]
theorem keyIs_str (x : Str) (t : Tok) : keyIs (.inr x) (.str x t) = true := by simp [keyIs, Value.isStrOf]
theorem key_ll (a b : Int) : decide ((Sum.inl a : Key) = Sum.inl b) = (a == b) := by
  by_cases e : a = b
  · subst e; simp
  · have h : ¬ (Sum.inl a : Key) = Sum.inl b := fun q => e (Sum.inl.inj q)
    rw [decide_eq_false h]
    exact (beq_eq_false_iff_ne.mpr e).symm
theorem key_rr (a b : Str) : decide ((Sum.inr a : Key) = Sum.inr b) = decide (a = b) := by
  by_cases e : a = b
  · subst e; simp
  · have h : ¬ (Sum.inr a : Key) = Sum.inr b := fun q => e (Sum.inr.inj q)
    rw [decide_eq_false h, decide_eq_false e]
theorem key_lr (a : Int) (b : Str) : decide ((Sum.inl a : Key) = Sum.inr b) = false := decide_eq_false (fun q => nomatch q)
theorem key_rl (a : Str) (b : Int) : decide ((Sum.inr a : Key) = Sum.inl b) = false := decide_eq_false (fun q => nomatch q)
def mixKind (prog : Program) (w : World) : PySem.KeyKind prog w Key where
  is := keyIs
  hash := keyH w
  inj := fun v a b ha hb => by
    rcases keyIs_shape ha with ⟨i, t, rfl, rfl⟩ | ⟨x, t, rfl, rfl⟩
    · rcases keyIs_shape hb with ⟨j, u, rfl, e⟩ | ⟨y, u, rfl, e⟩
      · injection e with e1 _; rw [e1]
      · exact nomatch e
    · rcases keyIs_shape hb with ⟨j, u, rfl, e⟩ | ⟨y, u, rfl, e⟩
      · exact nomatch e
      · injection e with e1 _; rw [e1]
  byValue := fun k v h => by
    rcases keyIs_shape h with ⟨i, t, rfl, rfl⟩ | ⟨x, t, rfl, rfl⟩ <;> rfl
  pyHash := fun hv h => by
    rcases keyIs_shape hv with ⟨i, t, rfl, rfl⟩ | ⟨x, t, rfl, rfl⟩
    · exact wpAny_pyHash_int h
    · exact wpAny_pyHash_str h
  eqBool := fun hu hv h => by
    rcases keyIs_shape hu with ⟨i, t, rfl, rfl⟩ | ⟨x, t, rfl, rfl⟩
    · rcases keyIs_shape hv with ⟨j, u, rfl, rfl⟩ | ⟨y, u, rfl, rfl⟩
      · rw [key_ll] at h; exact wpAny_eqBool_int h
      · rw [key_lr] at h; exact SeqAt.EqAt.int_str i t y u _ _ _ _ h
    · rcases keyIs_shape hv with ⟨j, u, rfl, rfl⟩ | ⟨y, u, rfl, rfl⟩
      · rw [key_rl] at h; exact SeqAt.EqAt.str_int x t j u _ _ _ _ h
      · rw [key_rr] at h; exact wpAny_eqBool_str h
  «strs» := fun k x t v h => by
    rcases keyIs_shape h with ⟨i, u, rfl, e⟩ | ⟨y, u, rfl, e⟩
    · exact nomatch e
    · injection e with e1 _
      subst e1
      cases v <;> rfl
theorem mixKind_int (prog : Program) (w : World) (i : Int) (t : Tok) : (mixKind prog w).is (.inl i) (.int i t) = true := keyIs_int i t
theorem mixKind_str (prog : Program) (w : World) (x : Str) (t : Tok) : (mixKind prog w).is (.inr x) (.str x t) = true := keyIs_str x t
end L2
namespace L2
open PySem PySem.Spec PyProof.Rows
inductive V where
  | non | bl (b : Bool) | int (i : Int) | str (x : Str) | byt (b : Array UInt8) | flt (b : UInt64) | ref (a : Addr) | ty (n : String)
  deriving DecidableEq
def RelV : V → Value → Prop
  | .non, u => u = Value.none
  | .bl b, u => u = Value.bool b
  | .int i, u => ∃ t, u = Value.int i t
  | .str x, u => ∃ t, u = Value.str x t
  | .byt b, u => ∃ t, u = Value.bytes b t
  | .flt b, u => ∃ t, u = Value.float b t
  | .ref a, u => u = Value.ref a
  | .ty n, u => u = Value.type n
abbrev Vals : List V → List Value → Prop := Paired RelV
theorem Vals.length {xs : List V} {us : List Value} (r : Vals xs us) : xs.length = us.length := Paired.length r
theorem Vals.get : ∀ {xs : List V} {us : List Value} {i : Nat} {x : V}, Vals xs us → xs[i]? = some x → ∃ u, us[i]? = some u ∧ RelV x u
  | _, _, _, _, .nil, e => by simp at e
  | _, _, 0, _, .cons r _, e => by simp at e; subst e; exact ⟨_, rfl, r⟩
  | _, _, i + 1, x, .cons _ t, e => by
    obtain ⟨u, h1, h2⟩ := Vals.get (i := i) (x := x) t (by simpa using e)
    exact ⟨u, by simpa using h1, h2⟩
theorem Vals.set {x : V} {u : Value} (r : RelV x u) : ∀ {xs : List V} {us : List Value} (i : Nat), Vals xs us → Vals (xs.set i x) (us.set i u)
  | _, _, _, .nil => .nil
  | _, _, 0, .cons _ t => .cons r t
  | _, _, i + 1, .cons q t => .cons q (Vals.set r i t)
theorem Vals.append : ∀ {xs ys : List V} {us ws : List Value}, Vals xs us → Vals ys ws → Vals (xs ++ ys) (us ++ ws)
  | _, _, _, _, .nil, s => s
  | _, _, _, _, .cons r t, s => .cons r (Vals.append t s)
theorem Vals.take : ∀ {xs : List V} {us : List Value} (n : Nat), Vals xs us → Vals (xs.take n) (us.take n)
  | _, _, 0, _ => .nil
  | _, _, _ + 1, .nil => .nil
  | _, _, n + 1, .cons r t => .cons r (Vals.take n t)
theorem Vals.drop : ∀ {xs : List V} {us : List Value} (n : Nat), Vals xs us → Vals (xs.drop n) (us.drop n)
  | _, _, 0, r => r
  | _, _, _ + 1, .nil => .nil
  | _, _, n + 1, .cons _ t => Vals.drop n t
def RelO : Option V → Option Value → Prop
  | some v, some u => RelV v u
  | none, none => True
  | _, _ => False
def KV {κ : Type} : List (κ × V) → List (κ × Value) → Prop := Paired fun (p : κ × V) (q : κ × Value) => p.1 = q.1 ∧ RelV p.2 q.2
def kV : Key → V
  | .inl i => .int i
  | .inr x => .str x
inductive HO where
  /-- a list -/
  | lst (xs : List V)
  /-- a tuple (never changes) -/
  | tup (xs : List V)
  /-- a dict whose keys are ints and texts; one whose keys are tuples of ints and texts (the empty one is both) -/
  | dK (kvs : List (Key × V)) | dT (kvs : List (List Key × V))
  /-- a set of ints: its members, its size -/
  | set (S : Int → Bool) (n : Nat)
  /-- an instance of the class at C, its dict at dx, its attributes -/
  | ins (C dx : Addr) (fs : List (Str × V))
  /-- the dict of the instance at x -/
  | own (x : Addr)
  /-- the dict of an exception -/
  | xd (fs : List (Str × V))
  /-- a bound method, f of x -/
  | met (f x : Addr)
  /-- a range object lo, lo + 1, .. below hi -/
  | rng (lo hi : Int)
  /-- a thing that is known to the object (the script; a dict while a loop walks it): read, never written while it is so -/
  | frz (o : Obj) (u : HO)
  /-- a code object's table -/
  | tbl (ps : Array Value)
  /-- any other thing, by what is true of its one object (a def of one's own: SetO a S n := HO.ext fun h => ..) -/
  | ext (φ : Heap → Prop)
def IsTupN (h : Heap) (a : Addr) (items : Array Value) : Prop := IsTup h a items ∧ ∃ o, h.get? a = some o ∧ o.dict = none
theorem IsTupN.new (h : Heap) (xs : Array Value) : IsTupN (h.push { cls := .type "tuple", data := .seq xs }) h.objs.size xs := ⟨IsTup.new h xs, _, Heap.get?_push_size _ rfl, rfl⟩
abbrev Hp := Addr → Option HO
def upd (H : Hp) (a : Addr) (o : HO) : Hp := fun b => if b = a then some o else H b
theorem upd_same {H : Hp} {a : Addr} {o : HO} : upd H a o a = some o := by unfold upd; rw [if_pos rfl]
theorem upd_ne {H : Hp} {a b : Addr} {o : HO} (h : b ≠ a) : upd H a o b = H b := by unfold upd; rw [if_neg h]
theorem ne_of {H : Hp} {a b : Addr} {o u : HO} (h : H a = some o) (h' : H b = some u) (d : o ≠ u) : a ≠ b := by
  intro e; subst e; rw [h] at h'; exact d (Option.some.inj h')
theorem ne_of_none {H : Hp} {a b : Addr} {o : HO} (h : H a = some o) (h' : H b = none) : a ≠ b := by
  intro e; subst e; rw [h] at h'; cases h'
section
variable (P : Program) (w : World)
def ObjOk (H : Hp) (h : Heap) (a : Addr) : HO → Prop
  | .lst xs => xs.length ≤ sizeLine ∧ ∃ (its : List Value) (n : Nat), Vals xs its ∧ h.get? a = some { cls := .type "list", data := .seq its.toArray n }
  | .tup xs => xs.length ≤ sizeLine ∧ ∃ its : List Value, Vals xs its ∧ IsTupN h a its.toArray
  | .dK kvs => kvs.length ≤ sizeLine ∧ (a == sysModules) = false ∧ ∃ vs, KV kvs vs ∧ h.DictOf (mixKind P w) a vs
  | .dT kvs => kvs.length ≤ sizeLine ∧ (a == sysModules) = false ∧ ∃ xs : List (List Key × Addr × Value),
      Paired (fun (p : List Key × V) (q : List Key × Addr × Value) => p.1 = q.1 ∧ H q.2.1 = some (.tup (p.1.map kV)) ∧ RelV p.2 q.2.2) kvs xs ∧
      ∃ o es ep, h.get? a = some o ∧ o.ExactDict ∧ o.data = .dict es ep ∧ es.toList = xs.map (entryOfKey (tupleKind (mixKind P w))) ∧ (xs.map (·.1)).Nodup
  | .set S n => h.SetOf (intKind P w) a S n
  | .ins C dx fs => H dx = some (.own a) ∧ fs.length ≤ 1000 ∧ dx ≠ a ∧ h.get? a = some (PySem.W.instObj C dx) ∧
      ∃ mA, h.Ns1 dx mA ∧ (∀ f, RelO (fs.lookup f) (mA f)) ∧ PySem.Within mA (fs.map (·.1))
  | .own _ => ∃ o, h.get? a = some o
  | .xd fs => ∃ mA, h.Ns1 a mA ∧ ∀ f, RelO (fs.lookup f) (mA f)
  | .rng lo hi => ∃ t u v, h.get? a = some { cls := .type "range", data := .fields #[.int lo t, .int hi u, .int 1 v] }
  | .frz o u => h.get? a = some o ∧ ObjOk H h a u
  | .tbl ps => h.get? a = some { cls := .none, data := .fields ps }
  | .met f x => h.get? a = some (PySem.W.methodObj (.ref f) (.ref x))
  | .ext φ => φ h ∧ (∃ o, h.get? a = some o) ∧ ∀ h1 h2 : Heap, φ h1 → (∀ o, h1.get? a = some o → h2.get? a = some o) → φ h2
def HOk (H : Hp) (h : Heap) : Prop := ∀ a o, H a = some o → ObjOk P w H h a o
end
section
variable {P : Program} {w : World} {H H' : Hp} {h h' : Heap} {a : Addr} {o : HO}
theorem ObjOk.lt (x : ObjOk P w H h a o) : a < h.objs.size := by
  cases o with
  | lst xs => obtain ⟨_, _, _, _, e⟩ := x; exact Heap.lt_size e
  | tup xs => obtain ⟨_, _, _, p, _⟩ := x; exact p.lt
  | dK kvs => obtain ⟨_, _, _, _, o, _, _, e, _⟩ := x; exact Heap.lt_size e
  | dT kvs => obtain ⟨_, _, _, _, o, _, _, e, _⟩ := x; exact Heap.lt_size e
  | set S n => obtain ⟨o, _, _, _, e, _⟩ := x; exact Heap.lt_size e
  | ins C dx fs => obtain ⟨_, _, _, e, _⟩ := x; exact Heap.lt_size e
  | own y => obtain ⟨_, e⟩ := x; exact Heap.lt_size e
  | xd fs => obtain ⟨_, ⟨_, _, _, e, _⟩, _⟩ := x; exact Heap.lt_size e
  | rng lo hi => obtain ⟨_, _, _, e⟩ := x; exact Heap.lt_size e
  | frz ob u => obtain ⟨e, _⟩ := x; exact Heap.lt_size e
  | tbl ps => exact Heap.lt_size (show h.get? a = some _ from x)
  | met f y => exact Heap.lt_size (show h.get? a = some _ from x)
  | ext φ => obtain ⟨_, ⟨_, e⟩, _⟩ := x; exact Heap.lt_size e
theorem Paired.mapP {α β : Type} {F G : α → β → Prop} : ∀ {l₁ : List α} {l₂ : List β}, Paired F l₁ l₂ → (∀ a b, F a b → G a b) → Paired G l₁ l₂
  | _, _, .nil, _ => .nil
  | _, _, .cons r t, f => .cons (f _ _ r) (Paired.mapP t f)
theorem ObjOk.stay (x : ObjOk P w H h a o) (k : ∀ b u, (b = a ∨ H b = some (.own a)) → h.get? b = some u → h'.get? b = some u)
    (ho : ∀ b, H b = some (.own a) → H' b = some (.own a)) (ht : ∀ b xs, H b = some (.tup xs) → H' b = some (.tup xs)) : ObjOk P w H' h' a o := by
  induction o with
  | lst xs => obtain ⟨z, its, n, r, e⟩ := x; exact ⟨z, its, n, r, k _ _ (.inl rfl) e⟩
  | tup xs => obtain ⟨z, its, r, ⟨ob, e, c⟩, od, e', c'⟩ := x; exact ⟨z, its, r, ⟨ob, k _ _ (.inl rfl) e, c⟩, od, k _ _ (.inl rfl) e', c'⟩
  | dK kvs => obtain ⟨z, y, vs, r, ob, es, ep, e, c⟩ := x; exact ⟨z, y, vs, r, ob, es, ep, k _ _ (.inl rfl) e, c⟩
  | dT kvs =>
    obtain ⟨z, y, xs, r, ob, es, ep, e, c⟩ := x
    exact ⟨z, y, xs, Paired.mapP r fun p q z => ⟨z.1, ht _ _ z.2.1, z.2.2⟩, ob, es, ep, k _ _ (.inl rfl) e, c⟩
  | set S n => obtain ⟨ob, es, ep, t, e, c⟩ := x; exact ⟨ob, es, ep, t, k _ _ (.inl rfl) e, c⟩
  | ins C dx fs =>
    obtain ⟨d, z, ne, e, mA, ⟨od, es, ep, e2, c⟩, r⟩ := x
    exact ⟨ho _ d, z, ne, k _ _ (.inl rfl) e, mA, ⟨od, es, ep, k _ _ (.inr d) e2, c⟩, r⟩
  | own y => obtain ⟨ob, e⟩ := x; exact ⟨ob, k _ _ (.inl rfl) e⟩
  | xd fs => obtain ⟨mA, ⟨od, es, ep, e, c⟩, r⟩ := x; exact ⟨mA, ⟨od, es, ep, k _ _ (.inl rfl) e, c⟩, r⟩
  | rng lo hi => obtain ⟨t, u, v, e⟩ := x; exact ⟨t, u, v, k _ _ (.inl rfl) e⟩
  | frz ob u ih => obtain ⟨e, q⟩ := x; exact ⟨k _ _ (.inl rfl) e, ih q⟩
  | tbl ps =>
    have e : h.get? a = some { cls := .none, data := .fields ps } := x
    show h'.get? a = some { cls := .none, data := .fields ps }
    exact k a _ (.inl rfl) e
  | met f y =>
    have e : h.get? a = some (PySem.W.methodObj (.ref f) (.ref y)) := x
    show h'.get? a = some (PySem.W.methodObj (.ref f) (.ref y))
    exact k a _ (.inl rfl) e
  | ext φ => obtain ⟨p, ⟨o, e⟩, st⟩ := x; exact ⟨st _ _ p fun o q => k _ _ (.inl rfl) q, ⟨o, k _ _ (.inl rfl) e⟩, st⟩
theorem HOk.lt (x : HOk P w H h) (e : H a = some o) : a < h.objs.size := (x a o e).lt
theorem HOk.fresh (x : HOk P w H h) (e : h.objs.size ≤ a) : H a = none := by
  cases q : H a with
  | none => rfl
  | some u => exact absurd (Nat.lt_of_lt_of_le (x.lt q) e) (Nat.lt_irrefl _)
theorem HOk.kept (x : HOk P w H h) (k : ∀ b u, h.get? b = some u → h'.get? b = some u) : HOk P w H h' := fun a o e =>
  (x a o e).stay (fun b u _ q => k b u q) (fun _ q => q) fun _ _ q => q
theorem HOk.laid (x : HOk P w H h) (k : ∀ b u, h.get? b = some u → h'.get? b = some u) (hp : h.objs.size ≤ a) (new : ObjOk P w (upd H a o) h' a o) : HOk P w (upd H a o) h' := fun b u e => by
  have hn := x.fresh hp
  by_cases hb : b = a
  · subst hb; rw [upd_same] at e; cases e; exact new
  · rw [upd_ne hb] at e
    exact (x b u e).stay (fun c v _ q => k c v q) (fun c q => by rw [upd_ne (ne_of_none q hn)]; exact q) fun c xs q => by rw [upd_ne (ne_of_none q hn)]; exact q
end
def Rd (H : Hp) (a : Addr) (u : HO) : Prop := H a = some u ∨ ∃ o, H a = some (.frz o u)
theorem Rd.of {H : Hp} {a : Addr} {u : HO} (h : H a = some u) : Rd H a u := .inl h
theorem Rd.ok {P : Program} {w : World} {H : Hp} {h : Heap} {a : Addr} {u : HO} (r : Rd H a u) (x : HOk P w H h) : ObjOk P w H h a u := by
  rcases r with r | ⟨o, r⟩
  · exact x a u r
  · obtain ⟨_, q⟩ := x a _ r
    exact q
def Mut : Option HO → Prop
  | some (.lst _) => True
  | some (.dK _) => True
  | some (.dT _) => True
  | some (.set _ _) => True
  | some (.ins _ _ _) => True
  | some (.ext _) => True
  | _ => False
section
variable {P : Program} {w : World} {H : Hp} {h h' : Heap} {x e : Addr} {o' : HO}
theorem HOk.write (ok : HOk P w H h) (mu : Mut (H x)) (he : e = x ∨ H e = some (.own x)) (k : ∀ b u, b ≠ e → h.get? b = some u → h'.get? b = some u) (heo : ∃ u, h'.get? e = some u)
    (new : ObjOk P w (upd H x o') h' x o') : HOk P w (upd H x o') h' := fun b u q => by
  have nown : ∀ c y, H c = some (.own y) → c ≠ x := fun c y r z => by subst z; rw [r] at mu; exact mu
  have ntup : ∀ c xs, H c = some (.tup xs) → c ≠ x := fun c xs r z => by subst z; rw [r] at mu; exact mu
  by_cases hb : b = x
  · subst hb; rw [upd_same] at q; cases q; exact new
  · rw [upd_ne hb] at q
    by_cases hbe : b = e
    · have q' : H b = some (.own x) := by
        rcases he with z | z
        · exact absurd (hbe.trans z) hb
        · rw [hbe]; exact z
      rw [q] at q'; cases q'
      obtain ⟨v, hv⟩ := heo
      exact ⟨v, by rw [hbe]; exact hv⟩
    · refine (ok b u q).stay (fun c v hc r => k c v ?_ r) (fun c r => by rw [upd_ne (nown c b r)]; exact r) fun c xs r => by rw [upd_ne (ntup c xs r)]; exact r
      rcases hc with rfl | hc
      · exact hbe
      · rintro rfl
        rcases he with z | z
        · exact nown c b hc z
        · rw [hc] at z; cases z; exact hb rfl
end
structure Un (fs ex : List Addr) (H H' : Hp) (h h' : Heap) : Prop where
  keep : ∀ b o, h.get? b = some o → H b = none → b ∉ fs → b ∉ ex → h'.get? b = some o
  slot : ∀ b o, h.get? b = some o → H b = none → b ∈ fs → b ∉ ex → ∃ sl, h'.get? b = some { o with slots := sl }
  free : ∀ b o, h.get? b = some o → H b = none → b ∉ ex → H' b = none
  there : ∀ b o, h.get? b = some o → b ∉ ex → ∃ o', h'.get? b = some o'
  tups : ∀ b xs, H b = some (.tup xs) → H' b = some (.tup xs)
  frzs : ∀ b o u, H b = some (.frz o u) → H' b = some (.frz o u)
  tbls : ∀ b ps, H b = some (.tbl ps) → ∃ more, H' b = some (.tbl (ps ++ more))
section
variable {fs fs' ex ex' : List Addr} {H H1 H2 : Hp} {h h1 h2 h' : Heap} {a x e : Addr} {o : HO}
theorem Un.any (u : Un fs ex H H1 h h1) {b : Addr} {ob : Obj} (q : h.get? b = some ob) (n : H b = none) (hx : b ∉ ex) : ∃ sl, h1.get? b = some { ob with slots := sl } := by
  by_cases hb : b ∈ fs
  · exact u.slot b ob q n hb hx
  · exact ⟨ob.slots, u.keep b ob q n hb hx⟩
theorem Un.trans (a : Un fs ex H H1 h h1) (b : Un fs ex H1 H2 h1 h2) : Un fs ex H H2 h h2 where
  keep := fun c ob q n hc hx => b.keep c ob (a.keep c ob q n hc hx) (a.free c ob q n hx) hc hx
  slot := fun c ob q n hc hx => by
    obtain ⟨sl, e1⟩ := a.slot c ob q n hc hx
    obtain ⟨sl', e2⟩ := b.slot c _ e1 (a.free c ob q n hx) hc hx
    exact ⟨sl', e2⟩
  free := fun c ob q n hx => by
    obtain ⟨o', e1⟩ := a.there c ob q hx
    exact b.free c o' e1 (a.free c ob q n hx) hx
  there := fun c ob q hx => by
    obtain ⟨o', e1⟩ := a.there c ob q hx
    exact b.there c o' e1 hx
  tups := fun c xs q => b.tups c xs (a.tups c xs q)
  frzs := fun c ob xs q => b.frzs c ob xs (a.frzs c ob xs q)
  tbls := fun c ps q => by
    obtain ⟨m1, e1⟩ := a.tbls c ps q
    obtain ⟨m2, e2⟩ := b.tbls c _ e1
    exact ⟨m1 ++ m2, by rw [e2, Array.append_assoc]⟩
theorem Un.kept (k : ∀ b u, h.get? b = some u → h'.get? b = some u) : Un fs ex H H h h' :=
  ⟨fun b ob q _ _ _ => k b ob q, fun b ob q _ _ _ => ⟨ob.slots, k b ob q⟩, fun _ _ _ n _ => n, fun b ob q _ => ⟨ob, k b ob q⟩, fun _ _ q => q, fun _ _ _ q => q, fun _ ps q => ⟨#[], by rw [q]; simp⟩⟩
theorem Un.refl : Un fs ex H H h h := Un.kept fun _ _ q => q
theorem Un.laid (k : ∀ b u, h.get? b = some u → h'.get? b = some u) (hp : h.objs.size ≤ a) (hn : H a = none) : Un fs ex H (upd H a o) h h' where
  keep := fun b u q _ _ _ => k b u q
  slot := fun b u q _ _ _ => ⟨u.slots, k b u q⟩
  free := fun b u q n _ => by rw [upd_ne (Nat.ne_of_lt (Nat.lt_of_lt_of_le (Heap.lt_size q) hp))]; exact n
  there := fun b u q _ => ⟨u, k b u q⟩
  tups := fun b xs q => by rw [upd_ne (ne_of_none q hn)]; exact q
  frzs := fun b u xs q => by rw [upd_ne (ne_of_none q hn)]; exact q
  tbls := fun b ps q => ⟨#[], by rw [upd_ne (ne_of_none q hn), q]; simp⟩
theorem Un.write (mu : Mut (H x)) (he : e = x ∨ H e = some (.own x)) (k : ∀ b u, b ≠ e → h.get? b = some u → h'.get? b = some u) (heo : ∃ u, h'.get? e = some u) : Un fs ex H (upd H x o) h h' := by
  have hx : ∀ b, H b = none → b ≠ x := fun b n z => by subst z; rw [n] at mu; exact mu
  have hb : ∀ b, H b = none → b ≠ e := fun b n z => by
    subst z
    rcases he with r | r
    · exact hx b n r
    · rw [n] at r; cases r
  have hm : ∀ b u, H b = some u → ¬ Mut (some u) → b ≠ x := fun b u q nm z => by subst z; rw [q] at mu; exact nm mu
  refine ⟨fun b u q n _ _ => k b u (hb b n) q, fun b u q n _ _ => ⟨u.slots, k b u (hb b n) q⟩, fun b u q n _ => by rw [upd_ne (hx b n)]; exact n, fun b u q _ => ?_,
    fun b xs q => by rw [upd_ne (hm b _ q fun z => z)]; exact q, fun b u xs q => by rw [upd_ne (hm b _ q fun z => z)]; exact q, fun b ps q => ⟨#[], by rw [upd_ne (hm b _ q fun z => z), q]; simp⟩⟩
  by_cases hbe : b = e
  · subst hbe; exact heo
  · exact ⟨u, k b u hbe q⟩
theorem Un.mono (u : Un fs ex H H1 h h1) (hs : ∀ b ∈ fs, b ∈ fs') (hx : ∀ b ∈ ex, b ∈ ex') : Un fs' ex' H H1 h h1 :=
  ⟨fun b ob q n hb he => u.keep b ob q n (fun z => hb (hs b z)) fun z => he (hx b z), fun _ _ q n _ he => u.any q n fun z => he (hx _ z), fun b ob q n he => u.free b ob q n fun z => he (hx b z), fun b ob q he => u.there b ob q fun z => he (hx b z), u.tups, u.frzs, u.tbls⟩
end
def trk (h : Heap) (H : Hp) : List Addr := (List.range h.objs.size).filter fun a => (H a).isSome
def hidT (h : Heap) (H : Hp) : Heap := PySem.W.hideAll h (trk h H)
theorem hidT_size (h : Heap) (H : Hp) : (hidT h H).objs.size = h.objs.size := PySem.W.hideAll_size _ _
theorem hidT_get {h : Heap} {H : Hp} {b : Addr} {o : Obj} (e : h.get? b = some o) (n : H b = none) : (hidT h H).get? b = some o :=
  PySem.W.hideAll_get _ e fun hm => by
    have q : (H b).isSome = true := (List.mem_filter.mp hm).2
    rw [n] at q; simp at q
theorem of_hidT {h : Heap} {H : Hp} {b : Addr} {o : Obj} (e : (hidT h H).get? b = some o) : h.get? b = some o ∧ H b = none := by
  have e' : h.get? b = some o := PySem.W.of_hideAll (trk h H) e
  refine ⟨e', ?_⟩
  cases q : H b with
  | none => rfl
  | some x =>
    have hm : b ∈ trk h H := List.mem_filter.mpr ⟨List.mem_range.mpr (Heap.lt_size e'), by simp [q]⟩
    have z : (hidT h H).get? b = none := PySem.W.hideAll_none (trk h H) hm
    rw [z] at e; cases e
def allNews (g h : Heap) (L : Addr) : List (Addr × Obj) := (List.range h.objs.size).filterMap fun a => if a = L ∨ (g.get? a).isSome = true then none else (h.get? a).map fun o => (a, o)
def rest (g h : Heap) (L d : Addr) : List (Addr × Obj) := (allNews g h L).filter fun p => decide (p.1 ≠ d)
end L2
namespace L2
open PySem PySem.Spec PyProof.Rows
structure Mod (K : PySem.W.Frag) (mg : Str → Option Value) (base : Heap) : Prop where
  kin : K.In base
  glob : base.Ns mainGlobals mg
  blt : ∃ mb, base.Ns builtinsNs mb ∧ ∀ x : Str, x ≠ "__name__" → mb x = bootBuiltins x
  nolimit : base.NoLimit
structure Cx where
  prog : Program
  w : World
  K : PySem.W.Frag
  mg : Str → Option Value
  base : Heap
  A : Around
  N : List Str
  s₀ : Shared
  H₀ : Hp
  env : Env
  outer : List Env
  stack : List Env
  ex : List Addr
  fn : Str → Bool
  calm : Bool
  pn : List (Addr × Obj)
  xe : Value → Shared → Prop
def frs (l : List Env) : List Addr := l.filterMap (·.frame)
abbrev Cx.fs (X : Cx) : List Addr := frs X.outer
def Vis (sc : Scope) (x : Str) : Prop := sc.names.lookup x = some .local ∨ sc.names.lookup x = some .cell ∨ sc.names.lookup x = some .free
def Loc (sc : Scope) (x : Str) : Prop := sc.names.lookup x = some .local ∨ sc.names.lookup x = some .cell
def Look (env : Env) (h : Heap) (m : Str → Option Value) (x : Str) (u : Value) : Prop :=
  (env.kindOf x = some .local ∧ m x = some u) ∨ ((env.kindOf x = some .cell ∨ env.kindOf x = some .free) ∧ ∃ c, env.cells.lookup x = some c ∧ h.IsCell c (some u))
structure Cx.Ok (X : Cx) : Prop where
  mod : Mod X.K X.mg X.base
  kind : X.env.scope.kind = .function
  glob : X.env.globals = mainGlobals
  blt : X.env.builtins = builtinsNs
  above : X.s₀.heap.objs.size ≤ X.env.locals
  inj : ∀ x y c, X.env.cells.lookup x = some c → X.env.cells.lookup y = some c → x = y
  has : ∀ x, (X.env.kindOf x = some .cell ∨ X.env.kindOf x = some .free) → ∃ c, X.env.cells.lookup x = some c
  cab : ∀ x c, X.fn x = true → X.env.cells.lookup x = some c → X.s₀.heap.objs.size ≤ c
  hd : X.calm = true → X.A.handled = none
  frames : X.A.frames = some X.stack
  stk : X.stack = X.outer ∨ (X.stack = X.env :: X.outer ∧ X.env.frame = some X.env.locals)
  exf : ∀ b ∈ X.ex, b ≠ X.env.locals ∧ ∀ x c, X.env.cells.lookup x = some c → c ≠ b
  bs : ∀ b o, X.base.get? b = some o → X.s₀.heap.get? b = some o ∧ X.H₀ b = none
  bsz : X.base.objs.size ≤ X.s₀.heap.objs.size
  noex : ∀ b o, X.base.get? b = some o → b ∉ X.ex
  exfs : ∀ b ∈ X.ex, b ∉ X.fs
  funs : X.s₀.heap.FunFrames X.base X.outer
  frf : ∀ b ∈ X.fs, X.H₀ b = none
structure Inv (X : Cx) (pins : List (Addr × Obj)) (σ : List (Option V)) (H : Hp) (s : Shared) : Prop where
  ok : X.Ok
  os : s.os = X.s₀.os
  bare : AllBare s.gens
  base : Un X.fs X.ex X.H₀ H X.s₀.heap s.heap
  loc : ∃ m, s.heap.Ns X.env.locals m ∧ ∀ (i : Nat) (x : Str) (v : V), X.N[i]? = some x → σ[i]? = some (some v) → Vis X.env.scope x → ∃ u, RelV v u ∧ Look X.env s.heap m x u
  cell : ∀ x c, X.env.cells.lookup x = some c → ∃ v, s.heap.IsCell c v
  free : H X.env.locals = none
  freeC : ∀ x c, X.env.cells.lookup x = some c → H c = none
  pin : ∀ p ∈ X.pn ++ pins, s.heap.get? p.1 = some p.2 ∧ H p.1 = none ∧ p.1 ≠ X.env.locals ∧ p.1 ∉ X.fs ∧ ∀ v, p.2.data ≠ .cell v
  hok : HOk X.prog X.w H s.heap
  len : σ.length = X.N.length
section
variable {X : Cx} {pins : List (Addr × Obj)} {σ : List (Option V)} {H H' : Hp} {s : Shared} {h' : Heap}
theorem Cx.Ok.nofr (ok : X.Ok) {b : Addr} {o : Obj} (e : X.base.get? b = some o) : b ∉ X.fs := fun hb => by
  have := (ok.funs.mem hb).1
  rw [e] at this; cases this
theorem Inv.bs (I : Inv X pins σ H s) : ∀ b o, X.base.get? b = some o → s.heap.get? b = some o ∧ H b = none := fun b o e =>
  ⟨I.base.keep b o (I.ok.bs b o e).1 (I.ok.bs b o e).2 (I.ok.nofr e) (I.ok.noex b o e), I.base.free b o (I.ok.bs b o e).1 (I.ok.bs b o e).2 (I.ok.noex b o e)⟩
theorem Inv.bk (I : Inv X pins σ H s) : ∀ b o, X.base.get? b = some o → s.heap.get? b = some o := fun b o e => (I.bs b o e).1
theorem Inv.mod (I : Inv X pins σ H s) : Mod X.K X.mg X.base := I.ok.mod
theorem Inv.kIn (I : Inv X pins σ H s) : X.K.In s.heap := I.ok.mod.kin.keeps I.bk
theorem Inv.nolimit (I : Inv X pins σ H s) : s.heap.NoLimit := I.ok.mod.nolimit.keeps I.bk
theorem Inv.fr (I : Inv X pins σ H s) : ∃ m, Fr X.base X.env.locals s.heap m :=
  let ⟨m, hn, _⟩ := I.loc
  ⟨m, hn, I.bk, Nat.le_trans I.ok.bsz I.ok.above⟩
theorem Inv.lt (I : Inv X pins σ H s) : X.env.locals < s.heap.objs.size := let ⟨_, hn, _⟩ := I.loc; hn.lt
theorem Inv.sz (I : Inv X pins σ H s) : X.s₀.heap.objs.size ≤ s.heap.objs.size := Nat.le_trans I.ok.above (Nat.le_of_lt I.lt)
theorem Inv.nofs (I : Inv X pins σ H s) {a : Addr} (h : s.heap.objs.size ≤ a) : a ∉ X.fs := fun hb => by
  obtain ⟨_, o, ho, _⟩ := I.ok.funs.mem hb
  exact absurd (Nat.lt_of_lt_of_le (Heap.lt_size ho) (Nat.le_trans I.sz h)) (Nat.lt_irrefl _)
theorem Inv.cne (I : Inv X pins σ H s) : ∀ x c, X.env.cells.lookup x = some c → c ≠ X.env.locals := fun x c e z => by
  obtain ⟨v, o, ho, hd⟩ := I.cell x c e
  obtain ⟨m, ⟨o', es, ep, ho', hd', _⟩, _⟩ := I.loc
  rw [z, ho'] at ho; cases ho; rw [hd'] at hd; cases hd
theorem Inv.funs (I : Inv X pins σ H s) : s.heap.FunFrames X.base X.outer := by
  have all : ∀ (l : List Env), (∀ b ∈ frs l, b ∈ X.fs) → X.s₀.heap.FunFrames X.base l → s.heap.FunFrames X.base l := by
    intro l
    induction l with
    | nil => intro _ _; trivial
    | cons env r ih =>
      intro hs hl
      obtain ⟨hk, ⟨L, o, hf, hn, ho, hd⟩, hr⟩ := hl
      have hL : L ∈ X.fs := hs L (by unfold frs; rw [List.filterMap_cons, hf]; exact List.mem_cons_self)
      obtain ⟨sl, e⟩ := I.base.slot L o ho (I.ok.frf L hL) hL fun z => I.ok.exfs L z hL
      exact ⟨hk, ⟨L, _, hf, hn, e, hd⟩, ih (fun b hb => hs b (by unfold frs; rw [List.filterMap_cons, hf]; exact List.mem_cons_of_mem _ hb)) hr⟩
  exact all X.outer (fun _ hb => hb) I.ok.funs
theorem Inv.stack (I : Inv X pins σ H s) : s.heap.FunFrames X.base X.stack := by
  rcases I.ok.stk with e | ⟨e, hf⟩
  · rw [e]; exact I.funs
  · rw [e]
    obtain ⟨m, hn, _⟩ := I.loc
    refine .cons (by rw [I.ok.kind]; decide) hf hn ?_ I.funs
    exact Heap.get?_none_of_le (Nat.le_trans I.ok.bsz I.ok.above)
theorem Inv.stkSub (I : Inv X pins σ H s) : ∀ b ∈ frs X.stack, b ∈ X.env.locals :: X.fs := fun b hb => by
  rcases I.ok.stk with e | ⟨e, hf⟩
  · rw [e] at hb; exact List.mem_cons_of_mem _ hb
  · rw [e] at hb
    unfold frs at hb
    rw [List.filterMap_cons, hf] at hb
    exact hb
theorem Inv.stkFree (I : Inv X pins σ H s) : ∀ b ∈ frs X.stack, H b = none := fun b hb => by
  rcases List.mem_cons.mp (I.stkSub b hb) with e | hb
  · rw [e]; exact I.free
  · obtain ⟨_, o, ho, _⟩ := I.ok.funs.mem hb
    exact I.base.free b o ho (I.ok.frf b hb) fun z => I.ok.exfs b z hb
theorem Inv.step {g' : Array GenState} {t' : Nat} {d' : Drawn} {ch : List Addr} (I : Inv X pins σ H s)
    (hch : ∀ b ∈ ch, (b ∈ X.ex ∨ X.s₀.heap.objs.size ≤ b) ∧ b ≠ X.env.locals ∧ (∀ x c, X.env.cells.lookup x = some c → c ≠ b) ∧ ∀ p ∈ X.pn ++ pins, p.1 ≠ b)
    (keep : ∀ b o, b ≠ X.env.locals → b ∉ X.fs → b ∉ ch → s.heap.get? b = some o → H b = none → h'.get? b = some o)
    (slot : ∀ b o, b ≠ X.env.locals → b ∈ X.fs → b ∉ ch → s.heap.get? b = some o → H b = none → ∃ sl, h'.get? b = some { o with slots := sl }) (free : ∀ b o, b ∉ ch → s.heap.get? b = some o → H b = none → H' b = none)
    (there : ∀ b o, b ∉ ch → s.heap.get? b = some o → ∃ o', h'.get? b = some o')
    (tups : ∀ b xs, H b = some (.tup xs) → H' b = some (.tup xs)) (frzs : ∀ b o u, H b = some (.frz o u) → H' b = some (.frz o u)) (tbls : ∀ b ps, H b = some (.tbl ps) → ∃ more, H' b = some (.tbl (ps ++ more)))
    (ns : ∀ m, s.heap.Ns X.env.locals m → h'.Ns X.env.locals m) (hok : HOk X.prog X.w H' h') (hg : AllBare g') :
    Inv X pins σ H' { s with heap := h', gens := g', drawn := d', toks := t' } := by
  have neL : ∀ b o, X.s₀.heap.get? b = some o → b ≠ X.env.locals := fun b o e => Nat.ne_of_lt (Nat.lt_of_lt_of_le (Heap.lt_size e) I.ok.above)
  have neC : ∀ b o, X.s₀.heap.get? b = some o → b ∉ X.ex → b ∉ ch := fun b o e hx hb => by
    rcases (hch b hb).1 with z | z
    · exact hx z
    · exact absurd (Nat.lt_of_lt_of_le (Heap.lt_size e) z) (Nat.lt_irrefl _)
  have cellK : ∀ x c, X.env.cells.lookup x = some c → ∀ v, s.heap.IsCell c v → h'.IsCell c v := fun x c e v ⟨o, ho, hd⟩ => by
    have nch : c ∉ ch := fun z => (hch c z).2.2.1 x c e rfl
    by_cases hc : c ∈ X.fs
    · obtain ⟨sl, q⟩ := slot c o (I.cne x c e) hc nch ho (I.freeC x c e)
      exact ⟨_, q, hd⟩
    · exact ⟨o, keep c o (I.cne x c e) hc nch ho (I.freeC x c e), hd⟩
  refine ⟨I.ok, I.os, hg, ⟨fun b o e n hb hx => ?_, fun b o e n hb hx => ?_, fun b o e n hx => ?_, fun b o e hx => ?_, fun b xs e => tups b xs (I.base.tups b xs e), fun b o xs e => frzs b o xs (I.base.frzs b o xs e), fun b ps e => ?_⟩, ?_, fun x c e => ?_, ?_, fun x c e => ?_, fun p hp => ?_, hok, I.len⟩
  · exact keep b o (neL b o e) hb (neC b o e hx) (I.base.keep b o e n hb hx) (I.base.free b o e n hx)
  · obtain ⟨sl, e1⟩ := I.base.slot b o e n hb hx
    obtain ⟨sl', e2⟩ := slot b _ (neL b o e) hb (neC b o e hx) e1 (I.base.free b o e n hx)
    exact ⟨sl', e2⟩
  · obtain ⟨o', e1⟩ := I.base.there b o e hx
    exact free b o' (neC b o e hx) e1 (I.base.free b o e n hx)
  · obtain ⟨o', e1⟩ := I.base.there b o e hx
    exact there b o' (neC b o e hx) e1
  · obtain ⟨m1, e1⟩ := I.base.tbls b ps e
    obtain ⟨m2, e2⟩ := tbls b _ e1
    exact ⟨m1 ++ m2, by rw [e2, Array.append_assoc]⟩
  · obtain ⟨m, hn, hl⟩ := I.loc
    refine ⟨m, ns m hn, fun i x v e1 e2 e3 => ?_⟩
    obtain ⟨u, r, l⟩ := hl i x v e1 e2 e3
    refine ⟨u, r, ?_⟩
    rcases l with l | ⟨k, c, e, z⟩
    · exact .inl l
    · exact .inr ⟨k, c, e, cellK x c e _ z⟩
  · obtain ⟨v, z⟩ := I.cell x c e
    exact ⟨v, cellK x c e v z⟩
  · obtain ⟨m, ⟨o, _, _, ho, _⟩, _⟩ := I.loc
    exact free _ o (fun z => (hch _ z).2.1 rfl) ho I.free
  · obtain ⟨v, o, ho, hd⟩ := I.cell x c e
    exact free c o (fun z => (hch c z).2.2.1 x c e rfl) ho (I.freeC x c e)
  · obtain ⟨e, n, ne, nf, d⟩ := I.pin p hp
    have nch : p.1 ∉ ch := fun z => (hch p.1 z).2.2.2 p hp rfl
    exact ⟨keep p.1 p.2 ne nf nch e n, free p.1 p.2 nch e n, ne, nf, d⟩
theorem Inv.un {t' : Nat} (I : Inv X pins σ H s) (u : Un X.fs [] H H' s.heap h') (hok : HOk X.prog X.w H' h') : Inv X pins σ H' { s with heap := h', toks := t' } := by
  obtain ⟨m, ⟨o, es, ep, ho, r⟩, _⟩ := id I.loc
  obtain ⟨sl, hL⟩ := u.any ho I.free (by simp)
  exact I.step (g' := s.gens) (d' := s.drawn) (ch := []) (fun _ z => nomatch z) (fun b o _ hb _ e n => u.keep b o e n hb (by simp)) (fun b o _ hb _ e n => u.slot b o e n hb (by simp)) (fun b o _ e n => u.free b o e n (by simp)) (fun b o _ e => u.there b o e (by simp)) u.tups u.frzs u.tbls (fun m' hm => by
    obtain ⟨o', es', ep', ho', r'⟩ := hm
    rw [ho] at ho'; cases ho'
    exact ⟨_, es', ep', hL, r'⟩) hok I.bare
theorem Inv.call {g' : Array GenState} {t' : Nat} {d' : Drawn} {ch : List Addr} (I : Inv X pins σ H s) (u : Un (frs X.stack) ch H H' s.heap h') (hok : HOk X.prog X.w H' h') (hg : AllBare g')
    (hch : ∀ b ∈ ch, (b ∈ X.ex ∨ X.s₀.heap.objs.size ≤ b) ∧ b ≠ X.env.locals ∧ (∀ x c, X.env.cells.lookup x = some c → c ≠ b) ∧ ∀ p ∈ X.pn ++ pins, p.1 ≠ b) :
    Inv X pins σ H' { s with heap := h', gens := g', drawn := d', toks := t' } := by
  obtain ⟨m, ⟨o, es, ep, ho, r⟩, _⟩ := id I.loc
  obtain ⟨sl, hL⟩ := u.any ho I.free fun z => (hch _ z).2.1 rfl
  exact I.step (ch := ch) hch (fun b o hL hb hc e n => u.keep b o e n (fun z => (List.mem_cons.mp (I.stkSub b z)).elim hL hb) hc) (fun b o _ _ hc e n => u.any e n hc) (fun b o hc e n => u.free b o e n hc) (fun b o hc e => u.there b o e hc) u.tups u.frzs u.tbls (fun m' hm => by
    obtain ⟨o', es', ep', ho', r'⟩ := hm
    rw [ho] at ho'; cases ho'
    exact ⟨_, es', ep', hL, r'⟩) hok hg
theorem Inv.turned {t' : Nat} {it : Addr} (I : Inv X pins σ H s) (k : ∀ b o, b ≠ it → s.heap.get? b = some o → h'.get? b = some o) (hn : H it = none) (hL : it ≠ X.env.locals)
    (h1 : it ∈ X.ex ∨ X.s₀.heap.objs.size ≤ it) (h2 : ∀ x c, X.env.cells.lookup x = some c → c ≠ it) (h3 : ∀ p ∈ X.pn ++ pins, p.1 ≠ it) : Inv X pins σ H { s with heap := h', toks := t' } := by
  have nit : ∀ b u, H b = some u → b ≠ it := fun b u e z => by rw [z, hn] at e; cases e
  refine I.step (g' := s.gens) (d' := s.drawn) (ch := [it]) (fun b hb => ?_) (fun b o _ _ hc e _ => k b o (fun z => hc (by simp [z])) e) (fun b o _ _ hc e _ => ⟨o.slots, k b o (fun z => hc (by simp [z])) e⟩) (fun _ _ _ _ n => n)
    (fun b o hc e => ⟨o, k b o (fun z => hc (by simp [z])) e⟩) (fun _ _ e => e) (fun _ _ _ e => e) (fun b ps e => ⟨#[], by rw [e]; simp⟩) (fun m hm => ?_) (fun b u e => ?_) I.bare
  · have e : b = it := by simpa using hb
    subst e
    exact ⟨h1, hL, h2, h3⟩
  · obtain ⟨o, es, ep, ho, r⟩ := hm
    exact ⟨o, es, ep, k _ o (Ne.symm hL) ho, r⟩
  · refine (I.hok b u e).stay (fun c v hc q => k c v ?_ q) (fun _ q => q) fun _ _ q => q
    rcases hc with z | z
    · rw [z]; exact nit b u e
    · exact nit c _ z
theorem Inv.tok (I : Inv X pins σ H s) (t : Nat) : Inv X pins σ H { s with toks := t } := I.un (h' := s.heap) (t' := t) Un.refl I.hok
theorem Inv.kept {t' : Nat} (I : Inv X pins σ H s) (k : ∀ b u, s.heap.get? b = some u → h'.get? b = some u) : Inv X pins σ H { s with heap := h', toks := t' } := I.un (Un.kept k) (I.hok.kept k)
theorem Inv.laid {a : Addr} {o : HO} {t' : Nat} (I : Inv X pins σ H s) (k : ∀ b u, s.heap.get? b = some u → h'.get? b = some u) (hp : s.heap.objs.size ≤ a) (new : ObjOk X.prog X.w (upd H a o) h' a o) :
    Inv X pins σ (upd H a o) { s with heap := h', toks := t' } := I.un (Un.laid k hp (I.hok.fresh hp)) (I.hok.laid k hp new)
theorem Inv.write {x e : Addr} {o : HO} {t' : Nat} (I : Inv X pins σ H s) (mu : Mut (H x)) (he : e = x ∨ H e = some (.own x)) (k : ∀ b u, b ≠ e → s.heap.get? b = some u → h'.get? b = some u) (heo : ∃ u, h'.get? e = some u)
    (new : ObjOk X.prog X.w (upd H x o) h' x o) : Inv X pins σ (upd H x o) { s with heap := h', toks := t' } := I.un (Un.write mu he k heo) (I.hok.write mu he k heo new)
theorem Inv.pins_of {pins' : List (Addr × Obj)} (I : Inv X pins σ H s) (h : ∀ p ∈ pins', s.heap.get? p.1 = some p.2 ∧ H p.1 = none ∧ p.1 ≠ X.env.locals ∧ p.1 ∉ X.fs ∧ ∀ v, p.2.data ≠ .cell v) : Inv X pins' σ H s :=
  ⟨I.ok, I.os, I.bare, I.base, I.loc, I.cell, I.free, I.freeC, fun p hp => (List.mem_append.mp hp).elim (fun z => I.pin p (List.mem_append_left _ z)) (h p), I.hok, I.len⟩
theorem nodup_ix {N : List Str} (hN : N.Nodup) {i j : Nat} {x : Str} (a : N[i]? = some x) (b : N[j]? = some x) : i = j := by
  obtain ⟨h1, e1⟩ := List.getElem?_eq_some_iff.mp a
  obtain ⟨h2, e2⟩ := List.getElem?_eq_some_iff.mp b
  exact (List.getElem_inj hN).mp (e1.trans e2.symm)
theorem store_ok2 {M : Model} {A : Around} {E : Value → Shared → Prop} {i : Nat} {x : Str} {v : V} {u : Value} {Q : Unit → Shared → Prop} (I : Inv X pins σ H s) (hN : X.N.Nodup) (hi : X.N[i]? = some x) (hx : Loc X.env.scope x) (r : RelV v u)
    (h : ∀ s', Inv X pins (σ.set i (some v)) H s' → (∃ a, Heap.SameBut a s.heap s'.heap ∧ (a = X.env.locals ∨ X.env.cells.lookup x = some a)) → Q () s') (hf : X.fn x = true ∨ X.env.scope.names.lookup x = some .local := by first | exact .inl rfl | exact .inr rfl | assumption) : wpAny M A (storeName X.env x u) Q E s := by
  obtain ⟨m, hn, hl⟩ := id I.loc
  have hcls : (X.env.scope.kind == .class || (X.env.scope.kind == .module && X.env.locals != X.env.globals)) = false := by rw [I.ok.kind]; rfl
  have hiσ : i < σ.length := by rw [I.len]; exact (List.getElem?_eq_some_iff.mp hi).1
  have cne := I.cne
  have tracked : ∀ {a : Addr} {h' : Heap}, (∃ o, s.heap.get? a = some o ∧ H a = none) → Heap.SameBut a s.heap h' → HOk X.prog X.w H h' := fun {a h'} ha hs b ob e => by
    obtain ⟨_, _, hfree⟩ := ha
    refine (I.hok b ob e).stay (fun c w' hc q => (hs.2 c ?_).trans q) (fun _ q => q) fun _ _ q => q
    rintro rfl
    rcases hc with rfl | hc
    · rw [hfree] at e; cases e
    · rw [hfree] at hc; cases hc
  rcases hx with hk | hk
  · refine wpAny_storeName_local hk hn (fun h' hn' hs => ?_) hcls
    obtain ⟨oL, _, _, hoL, _⟩ := id hn
    refine h _ ⟨I.ok, I.os, I.bare, ⟨fun b o e n hb hx => ?_, fun b o e n hb hx => ?_, I.base.free, fun b o e hx => ?_, I.base.tups, I.base.frzs, I.base.tbls⟩, ⟨_, hn', fun j y v' e1 e2 e3 => ?_⟩, fun y c e => ?_, I.free, I.freeC, fun p hp => ?_, tracked ⟨oL, hoL, I.free⟩ hs, by simpa using I.len⟩ ⟨_, hs, .inl rfl⟩
    · exact (hs.2 b (Nat.ne_of_lt (Nat.lt_of_lt_of_le (Heap.lt_size e) I.ok.above))).trans (I.base.keep b o e n hb hx)
    · obtain ⟨sl, e1⟩ := I.base.slot b o e n hb hx
      exact ⟨sl, (hs.2 b (Nat.ne_of_lt (Nat.lt_of_lt_of_le (Heap.lt_size e) I.ok.above))).trans e1⟩
    · obtain ⟨o', e1⟩ := I.base.there b o e hx
      exact ⟨o', (hs.2 b (Nat.ne_of_lt (Nat.lt_of_lt_of_le (Heap.lt_size e) I.ok.above))).trans e1⟩
    · by_cases hj : j = i
      · subst hj
        rw [hi] at e1; cases e1
        rw [List.getElem?_set_self hiσ] at e2
        cases e2
        exact ⟨u, r, .inl ⟨hk, by simp⟩⟩
      · rw [List.getElem?_set_ne (Ne.symm hj)] at e2
        obtain ⟨u', r', q⟩ := hl j y v' e1 e2 e3
        refine ⟨u', r', ?_⟩
        rcases q with ⟨k, e⟩ | ⟨k, c, e, z⟩
        · refine .inl ⟨k, ?_⟩
          have : y ≠ x := fun e => hj (nodup_ix hN e1 (e ▸ hi))
          simp [this, e]
        · exact .inr ⟨k, c, e, z.sameBut hs (cne y c e)⟩
    · obtain ⟨w', z⟩ := I.cell y c e
      exact ⟨w', z.sameBut hs (cne y c e)⟩
    · obtain ⟨e, n, ne, nf, d⟩ := I.pin p hp
      exact ⟨(hs.2 p.1 ne).trans e, n, ne, nf, d⟩
  · have hfn : X.fn x = true := by
      rcases hf with z | z
      · exact z
      · rw [z] at hk; cases hk
    obtain ⟨c, hc⟩ := I.ok.has x (.inl hk)
    obtain ⟨w', z⟩ := I.cell x c hc
    refine wpAny_storeName_cell I.ok.kind hk hc z (fun h' hc' hs => ?_)
    obtain ⟨oc, hoc, hocd⟩ := id z
    refine h { s with heap := h' } ⟨I.ok, I.os, I.bare, ⟨fun b o e n hb hx => ?_, fun b o e n hb hx => ?_, I.base.free, fun b o e hx => ?_, I.base.tups, I.base.frzs, I.base.tbls⟩, ⟨m, hn.sameBut hs (Ne.symm (cne x c hc)), fun j y v' e1 e2 e3 => ?_⟩, fun y c' e => ?_, I.free, I.freeC, fun p hp => ?_, tracked ⟨oc, hoc, I.freeC x c hc⟩ hs, by simpa using I.len⟩ ⟨c, hs, .inr hc⟩
    · exact (hs.2 b (Nat.ne_of_lt (Nat.lt_of_lt_of_le (Heap.lt_size e) (I.ok.cab x c hfn hc)))).trans (I.base.keep b o e n hb hx)
    · obtain ⟨sl, e1⟩ := I.base.slot b o e n hb hx
      exact ⟨sl, (hs.2 b (Nat.ne_of_lt (Nat.lt_of_lt_of_le (Heap.lt_size e) (I.ok.cab x c hfn hc)))).trans e1⟩
    · obtain ⟨o', e1⟩ := I.base.there b o e hx
      exact ⟨o', (hs.2 b (Nat.ne_of_lt (Nat.lt_of_lt_of_le (Heap.lt_size e) (I.ok.cab x c hfn hc)))).trans e1⟩
    · by_cases hj : j = i
      · subst hj
        rw [hi] at e1; cases e1
        rw [List.getElem?_set_self hiσ] at e2
        cases e2
        exact ⟨u, r, .inr ⟨.inl hk, c, hc, hc'⟩⟩
      · rw [List.getElem?_set_ne (Ne.symm hj)] at e2
        obtain ⟨u', r', q⟩ := hl j y v' e1 e2 e3
        refine ⟨u', r', ?_⟩
        rcases q with q | ⟨k, c', e, z'⟩
        · exact .inl q
        · refine .inr ⟨k, c', e, z'.sameBut hs ?_⟩
          rintro rfl
          exact hj (nodup_ix hN e1 (I.ok.inj _ _ _ e hc ▸ hi))
    · by_cases hcc : c' = c
      · subst hcc; exact ⟨_, hc'⟩
      · obtain ⟨w2, z2⟩ := I.cell y c' e
        exact ⟨w2, z2.sameBut hs hcc⟩
    · obtain ⟨e, n, ne, nf, d⟩ := I.pin p hp
      refine ⟨(hs.2 p.1 ?_).trans e, n, ne, nf, d⟩
      intro q
      rw [q, hoc] at e
      have q' : oc = p.2 := Option.some.inj e
      exact d w' (by rw [← q']; exact hocd)
theorem store_ok {M : Model} {A : Around} {E : Value → Shared → Prop} {i : Nat} {x : Str} {v : V} {u : Value} {Q : Unit → Shared → Prop} (I : Inv X pins σ H s) (hN : X.N.Nodup) (hi : X.N[i]? = some x) (hx : Loc X.env.scope x) (r : RelV v u)
    (h : ∀ s', Inv X pins (σ.set i (some v)) H s' → Q () s') (hf : X.fn x = true ∨ X.env.scope.names.lookup x = some .local := by first | exact .inl rfl | exact .inr rfl | assumption) : wpAny M A (storeName X.env x u) Q E s :=
  store_ok2 I hN hi hx r (fun s' I' _ => h s' I') hf
end
abbrev XK := Value → Option Addr → Hp → Prop
abbrev St := List (Option V)
abbrev VK := V → Hp → Prop
abbrev TE := St → Hp → VK → Prop
abbrev TT := St → Hp → (Bool → Hp → Prop) → Prop
abbrev TA := St → Hp → (List V → Hp → Prop) → Prop
structure Ends where
  nx : St → Hp → Prop
  rt : VK
  bk : St → Hp → Prop := fun _ _ => False
  ct : St → Hp → Prop := fun _ _ => False
abbrev TS := Ends → St → Hp → Prop
def EP (X : Cx) (pins : List (Addr × Obj)) (σ : St) (Q : VK) (u : Value) (s' : Shared) : Prop := ∃ v H', Inv X pins σ H' s' ∧ RelV v u ∧ Q v H'
def TP (X : Cx) (pins : List (Addr × Obj)) (σ : St) (Q : Bool → Hp → Prop) (b : Bool) (s' : Shared) : Prop := ∃ H', Inv X pins σ H' s' ∧ Q b H'
def AP (X : Cx) (pins : List (Addr × Obj)) (σ : St) (Q : List V → Hp → Prop) (us : List Value) (s' : Shared) : Prop := ∃ vs H', Inv X pins σ H' s' ∧ Vals vs us ∧ Q vs H'
def SP (X : Cx) (pins : List (Addr × Obj)) (D : Ends) (f : Flow) (s' : Shared) : Prop :=
  match f with
  | .next => ∃ σ' H', Inv X pins σ' H' s' ∧ D.nx σ' H'
  | .brk => ∃ σ' H', Inv X pins σ' H' s' ∧ D.bk σ' H'
  | .cont => ∃ σ' H', Inv X pins σ' H' s' ∧ D.ct σ' H'
  | .ret u => ∃ v σ' H', Inv X pins σ' H' s' ∧ RelV v u ∧ D.rt v H'
def PE (X : Cx) (e : Expr) (t : TE) : Prop :=
  ∀ (pins : List (Addr × Obj)) (s : Shared) (σ : St) (H : Hp) (Q : VK), Inv X pins σ H s → t σ H Q → wpAny (model X.prog X.w) X.A (eval e X.env) (EP X pins σ Q) X.xe s
def PT (X : Cx) (e : Expr) (t : TT) : Prop :=
  ∀ (pins : List (Addr × Obj)) (s : Shared) (σ : St) (H : Hp) (Q : Bool → Hp → Prop), Inv X pins σ H s → t σ H Q → wpAny (model X.prog X.w) X.A (isTrue e X.env (eval e X.env)) (TP X pins σ Q) X.xe s
def PW (X : Cx) (e : Expr) (t : TT) : Prop :=
  ∀ (whole : Sem Value) (pins : List (Addr × Obj)) (s : Shared) (σ : St) (H : Hp) (Q : Bool → Hp → Prop), Inv X pins σ H s → t σ H Q → wpAny (model X.prog X.w) X.A (isTrue e X.env whole) (TP X pins σ Q) X.xe s
theorem PW.pt {X : Cx} {e : Expr} {t : TT} (h : PW X e t) : PT X e t := h _
def PA (X : Cx) (es : List Expr) (t : TA) : Prop :=
  ∀ (pos : Pos) (pins : List (Addr × Obj)) (s : Shared) (σ : St) (H : Hp) (Q : List V → Hp → Prop), Inv X pins σ H s → t σ H Q → wpAny (model X.prog X.w) X.A (spliced (backTo pos (starEach es X.env))) (AP X pins σ Q) X.xe s
def PS (X : Cx) (st : Stmt) (t : TS) : Prop :=
  ∀ (pins : List (Addr × Obj)) (s : Shared) (σ : St) (H : Hp) (D : Ends), Inv X pins σ H s → t D σ H → wpAny (model X.prog X.w) X.A (exec st X.env) (SP X pins D) X.xe s
def PSs (X : Cx) (st : List Stmt) (t : TS) : Prop :=
  ∀ (pins : List (Addr × Obj)) (s : Shared) (σ : St) (H : Hp) (D : Ends), Inv X pins σ H s → t D σ H → wpAny (model X.prog X.w) X.A (execs st X.env) (SP X pins D) X.xe s
theorem thn {α : Type} {t : Sem α} {Q Q' : α → Shared → Prop} {M : Model} {A : Around} {E : Value → Shared → Prop} {s : Shared} (h : wpAny M A t Q E s) (hQ : ∀ a s, Q a s → Q' a s) : wpAny M A t Q' E s := wpAny_mono h hQ fun _ _ x => x
end L2
namespace L2
open PySem PySem.Spec PyProof.Rows
section
variable {X : Cx}
theorem bin {a b : Expr} {ta tb : TE} (ha : PE X a ta) (hb : PE X b tb) {pins : List (Addr × Obj)} {s : Shared} {σ : St} {H : Hp} {R : V → V → Hp → Prop} (I : Inv X pins σ H s) (h : ta σ H fun x H1 => tb σ H1 fun y H2 => R x y H2)
    {α : Type} {Q : α → Shared → Prop} {f : Value → Value → Sem α}
    (hf : ∀ v u s2 x y H2, Inv X pins σ H2 s2 → RelV x v → RelV y u → R x y H2 → wpAny (model X.prog X.w) X.A (f v u) Q X.xe s2) :
    wpAny (model X.prog X.w) X.A (eval a X.env) (fun v s₁ => wpAny (model X.prog X.w) X.A (eval b X.env) (fun u s₂ => wpAny (model X.prog X.w) X.A (f v u) Q X.xe s₂) X.xe s₁) X.xe s := by
  refine thn (ha pins s σ H _ I h) fun v s1 ⟨x, H1, I1, r1, q1⟩ => ?_
  refine thn (hb pins s1 σ H1 _ I1 q1) fun u s2 ⟨y, H2, I2, r2, q2⟩ => ?_
  exact hf v u s2 x y H2 I2 r1 r2 q2
def tVar (i : Nat) : TE := fun σ H Q => ∃ v, σ[i]? = some (some v) ∧ Q v H
def tC (v : V) : TE := fun _ H Q => Q v H
theorem pe_var {i : Nat} {x : Str} {pos : Pos} (hN : X.N[i]? = some x) (hv : Vis X.env.scope x) (hd : (x == ("__debug__" : Str)) = false := by decide) (hcd : (x == ("__classdict__" : Str)) = false := by decide) : PE X (.Name x pos) (tVar i) := by
  intro pins s σ H Q I h
  obtain ⟨v, e, h⟩ := h
  obtain ⟨m, hn, hl⟩ := I.loc
  obtain ⟨u, r, l⟩ := hl i x v hN e hv
  have fin : EP X pins σ Q u s := ⟨v, H, I, r, h⟩
  rcases l with ⟨hk, hm⟩ | ⟨hk, c, hc, hcell⟩
  · exact wpAny_Name (wpAny_loadName_local I.ok.kind hk hn hm fin) hd
  · rcases hk with hk | hk
    · exact wpAny_Name (wpAny_loadName_cell I.ok.kind hk hc hcell fin) hd
    · exact wpAny_Name (wpAny_loadName_free I.ok.kind hk hc hcell fin hcd) hd
theorem pe_int {i j pos} : PE X (.Constant (.int i) j pos) (tC (.int i)) := fun _ _ _ H _ I h => wpAny_Constant_int ⟨.int i, H, I.tok _, ⟨_, rfl⟩, h⟩
theorem pe_bl {b j pos} : PE X (.Constant (.bool b) j pos) (tC (.bl b)) := fun _ _ _ H _ I h => Constant_bool ⟨.bl b, H, I, rfl, h⟩
theorem pe_str {x j pos} : PE X (.Constant (.str x) j pos) (tC (.str x)) := fun _ _ _ H _ I h => Calls.Constant_str ⟨.str x, H, I.tok _, ⟨_, rfl⟩, h⟩
def Gl (X : Cx) (x : Str) : Prop := X.env.kindOf x = some .globalImplicit
theorem ld_glob {E : Value → Shared → Prop} {pins : List (Addr × Obj)} {s : Shared} {σ : St} {H : Hp} {x : Str} {u : Value} {pos : Pos} {Q : Value → Shared → Prop} (I : Inv X pins σ H s) (hg : Gl X x) (hm : X.mg x = some u) (h : Q u s)
    (hd : (x == ("__debug__" : Str)) = false := by decide) : wpAny (model X.prog X.w) X.A (eval (.Name x pos) X.env) Q E s :=
  Calls.Name_function_global I.ok.kind hg (Calls.loadGlobal_global (by rw [I.ok.glob]; exact I.mod.glob.keeps I.bk) hm h) hd
theorem ld_blt {E : Value → Shared → Prop} {pins : List (Addr × Obj)} {s : Shared} {σ : St} {H : Hp} {x : Str} {u : Value} {pos : Pos} {Q : Value → Shared → Prop} (I : Inv X pins σ H s) (hg : Gl X x) (hm : X.mg x = none) (hv : bootBuiltins x = some u) (h : Q u s)
    (hn : x ≠ "__name__" := by decide) (hd : (x == ("__debug__" : Str)) = false := by decide) : wpAny (model X.prog X.w) X.A (eval (.Name x pos) X.env) Q E s := by
  obtain ⟨mb, h1, h2⟩ := I.mod.blt
  exact Calls.Name_function_global I.ok.kind hg (Calls.loadGlobal_builtin (by rw [I.ok.glob]; exact I.mod.glob.keeps I.bk) hm (by rw [I.ok.blt]; exact h1.keeps I.bk) ((h2 x hn).trans hv) h) hd
theorem pe_glob {x : Str} {v : V} {u : Value} {pos : Pos} (hg : Gl X x) (hm : X.mg x = some u) (r : RelV v u) (hd : (x == ("__debug__" : Str)) = false := by decide) : PE X (.Name x pos) (tC v) :=
  fun _ _ _ H _ I h => ld_glob I hg hm ⟨v, H, I, r, h⟩ hd
variable {a b : Expr} {ta tb : TE} {pos : Pos}
def PC (X : Cx) (op : CmpOp) (a b : Expr) (t : TE) : Prop :=
  ∀ (pins : List (Addr × Obj)) (s : Shared) (σ : St) (H : Hp) (Q : VK), Inv X pins σ H s → t σ H Q →
    wpAny (model X.prog X.w) X.A (eval a X.env) (fun v s₁ => wpAny (model X.prog X.w) X.A (eval b X.env) (fun u s₂ => wpAny (model X.prog X.w) X.A (compareOp op v u) (EP X pins σ Q) X.xe s₂) X.xe s₁) X.xe s
theorem nobehind (b : Expr) {op : CmpOp} (h : op ≠ .In) (h2 : op ≠ .NotIn) : behindInMarks op b = false := by
  have e1 : (op == CmpOp.In) = false := by cases op <;> first | rfl | exact absurd rfl h
  have e2 : (op == CmpOp.NotIn) = false := by cases op <;> first | rfl | exact absurd rfl h2
  cases b <;> simp [behindInMarks, e1, e2]
def tB (t : TE) : TT := fun σ H Q => t σ H fun x H1 => ∃ c, x = .bl c ∧ Q c H1
theorem pt_cmp {op : CmpOp} {t : TE} (h : PC X op a b t) (h1 : behindInMarks op b = false := by first | exact nobehind _ (by decide) (by decide) | rfl) : PT X (.Compare a [op] [b] pos) (tB t) := by
  intro pins s σ H Q I hw
  refine wpAny_isTrue_Compare1 (thn (h pins s σ H _ I hw) fun v s1 h1 => thn h1 fun u s2 h2 => thn h2 fun c s3 ⟨x, H1, I1, r1, q1⟩ => ?_) h1
  obtain ⟨d, rfl, q⟩ := q1
  cases r1
  exact wpAny_truthy_bool ⟨H1, I1, q⟩
theorem pt_val {e : Expr} {t : TE} (h : PE X e t) (he : ∀ whole, isTrue e X.env whole = (do let v ← whole; standAt e.pos; holding [v] (truthy v)) := by intro _; rfl) : PT X e (tB t) := by
  intro pins s σ H Q I hw
  refine isTrue_plain (thn (h pins s σ H _ I hw) fun v s1 ⟨x, H1, I1, r1, q1⟩ => ?_) (he _)
  obtain ⟨d, rfl, q⟩ := q1
  cases r1
  exact wpAny_truthy_bool ⟨H1, I1, q⟩
variable {tA tB' : TT} {rest : List Expr}
def tOr (t u : TT) : TT := fun σ H Q => t σ H fun c H1 => if c = true then Q true H1 else u σ H1 Q
def tNot (t : TT) : TT := fun σ H Q => t σ H fun c H1 => Q (!c) H1
theorem pw_or1 (ha : PT X a tA) : PW X (.BoolOp .Or [a] pos) tA := by
  intro wh pins s σ H Q I h
  refine isTrue_or (thn (ha pins s σ H Q I h) fun c s1 e => ?_)
  cases c with
  | false => exact isTrue_or_nil e
  | true => exact e
theorem pw_or (ha : PT X a tA) (hb : PW X (.BoolOp .Or (b :: rest) pos) tB') : PW X (.BoolOp .Or (a :: b :: rest) pos) (tOr tA tB') := by
  intro wh pins s σ H Q I h
  refine isTrue_or (thn (ha pins s σ H _ I h) fun c s1 ⟨H1, I1, q1⟩ => ?_)
  cases c with
  | true => exact ⟨H1, I1, q1⟩
  | false => exact hb wh pins s1 σ H1 Q I1 q1
theorem pt_not (ha : PT X a tA) : PT X (.UnaryOp .Not a pos) (tNot tA) := by
  intro pins s σ H Q I h
  exact isTrue_not (ha pins s σ H (fun c H1 => Q (!c) H1) I h)
def tAndV (ta tb : TE) : TE := fun σ H Q => ta σ H fun x H1 => ∃ c, x = .bl c ∧ if c = true then tb σ H1 Q else Q (.bl false) H1
theorem pe_one {op} {t : TE} (h : PE X a t) : PE X (.BoolOp op [a] pos) t := fun pins s σ H Q I hw => BoolOp_one (h pins s σ H Q I hw)
theorem pe_and (ha : PE X a ta) (hb : PE X (.BoolOp .And (b :: rest) pos) tb) : PE X (.BoolOp .And (a :: b :: rest) pos) (tAndV ta tb) := by
  intro pins s σ H Q I h
  refine BoolOp_and (thn (ha pins s σ H _ I h) fun v s1 ⟨x, H1, I1, r1, q1⟩ => ?_)
  obtain ⟨c, rfl, q1⟩ := q1
  cases r1
  refine wpAny_truthy_bool ?_
  cases c with
  | true => exact hb pins s1 σ H1 Q I1 q1
  | false => exact ⟨.bl false, H1, I1, rfl, q1⟩
end
end L2
namespace L2
open PySem PySem.Spec PyProof.Rows
def SqL (K : PySem.W.Frag) (H : Hp) (a : Addr) (xs : List V) : Prop :=
  Rd H a (.lst xs) ∨
    ∃ (o : Obj) (its : Array Value) (n : Nat), K.lookup a = some o ∧ o.cls = .type "list" ∧ o.dict = none ∧ o.data = .seq its n ∧ its.size ≤ sizeLine ∧ Vals xs its.toList
def SqT (K : PySem.W.Frag) (H : Hp) (a : Addr) (xs : List V) : Prop :=
  Rd H a (.tup xs) ∨
    ∃ (o : Obj) (its : Array Value) (n : Nat), K.lookup a = some o ∧ o.cls = .type "tuple" ∧ o.data = .seq its n ∧ its.size ≤ sizeLine ∧ Vals xs its.toList
def absV : Value → Option V
  | .none => some .non
  | .bool b => some (.bl b)
  | .int i _ => some (.int i)
  | .str x _ => some (.str x)
  | .bytes b _ => some (.byt b)
  | .float b _ => some (.flt b)
  | .ref a => some (.ref a)
  | .type n => some (.ty n)
  | _ => none
theorem RelV.abs {x : V} {u : Value} (r : RelV x u) : absV u = some x := by
  cases x with
  | non => cases r; rfl
  | bl _ => cases r; rfl
  | int _ => obtain ⟨t, rfl⟩ := r; rfl
  | str _ => obtain ⟨t, rfl⟩ := r; rfl
  | byt _ => obtain ⟨t, rfl⟩ := r; rfl
  | flt _ => obtain ⟨t, rfl⟩ := r; rfl
  | ref _ => cases r; rfl
  | ty _ => cases r; rfl
theorem RelV.inj {x y : V} {u : Value} (r : RelV x u) (q : RelV y u) : x = y := Option.some.inj (r.abs.symm.trans q.abs)
theorem Vals.inj : ∀ {xs ys : List V} {us : List Value}, Vals xs us → Vals ys us → xs = ys
  | _, _, _, .nil, .nil => rfl
  | _, _, _, .cons r t, .cons r' t' => by rw [r.inj r', Vals.inj t t']
section
variable {X : Cx} {pins : List (Addr × Obj)} {σ : St} {H : Hp} {s : Shared} {a : Addr} {xs ys : List V}
theorem SqL.of {K : PySem.W.Frag} (h : H a = some (.lst xs)) : SqL K H a xs := .inl (.inl h)
theorem SqT.of {K : PySem.W.Frag} (h : H a = some (.tup xs)) : SqT K H a xs := .inl (.inl h)
theorem Inv.list (I : Inv X pins σ H s) (h : SqL X.K H a xs) : ∃ its : List Value, Vals xs its ∧ PlainL s.heap a its.toArray ∧ xs.length ≤ sizeLine := by
  rcases h with h | ⟨o, its, n, hk, hc, hd, hs, hz, r⟩
  · obtain ⟨z, its, n, r, e⟩ := h.ok I.hok
    exact ⟨its, r, ⟨_, n, e, rfl, rfl, rfl⟩, z⟩
  · refine ⟨its.toList, r, ⟨o, n, I.kIn a o hk, hc, hd, by simpa using hs⟩, ?_⟩
    have e := r.length
    simp only [Array.length_toList] at e
    omega
theorem Inv.tuple (I : Inv X pins σ H s) (h : SqT X.K H a xs) : ∃ its : List Value, Vals xs its ∧ IsTup s.heap a its.toArray ∧ xs.length ≤ sizeLine := by
  rcases h with h | ⟨o, its, n, hk, hc, hs, hz, r⟩
  · obtain ⟨z, its, r, p, _⟩ := h.ok I.hok
    exact ⟨its, r, p, z⟩
  · refine ⟨its.toList, r, ⟨o, I.kIn a o hk, hc, n, by simpa using hs⟩, ?_⟩
    have e := r.length
    simp only [Array.length_toList] at e
    omega
theorem Inv.list_inj (I : Inv X pins σ H s) (h : SqL X.K H a xs) (h' : SqL X.K H a ys) : xs = ys := by
  obtain ⟨its, r, ⟨o, n, e, _, _, d⟩, _⟩ := I.list h
  obtain ⟨its', r', ⟨o', n', e', _, _, d'⟩, _⟩ := I.list h'
  rw [e] at e'; cases e'
  rw [d] at d'
  injection d' with d1 _
  have : its = its' := by simpa using congrArg Array.toList d1
  subst this
  exact r.inj r'
theorem Inv.tuple_inj (I : Inv X pins σ H s) (h : SqT X.K H a xs) (h' : SqT X.K H a ys) : xs = ys := by
  obtain ⟨its, r, ⟨o, e, _, n, d⟩, _⟩ := I.tuple h
  obtain ⟨its', r', ⟨o', e', _, n', d'⟩, _⟩ := I.tuple h'
  rw [e] at e'; cases e'
  rw [d] at d'
  injection d' with d1 _
  have : its = its' := by simpa using congrArg Array.toList d1
  subst this
  exact r.inj r'
end
abbrev Cx.wish (X : Cx) (E : Value → Shared → Prop) : Cx := { X with xe := E }
abbrev Cx.nox (X : Cx) : Cx := X.wish fun _ _ => False
theorem Cx.Ok.wish {X : Cx} (ok : X.Ok) (E : Value → Shared → Prop) : (X.wish E).Ok :=
  ⟨ok.mod, ok.kind, ok.glob, ok.blt, ok.above, ok.inj, ok.has, ok.cab, ok.hd, ok.frames, ok.stk, ok.exf, ok.bs, ok.bsz, ok.noex, ok.exfs, ok.funs, ok.frf⟩
theorem Cx.Ok.unwish {X : Cx} {E : Value → Shared → Prop} (ok : (X.wish E).Ok) : X.Ok :=
  ⟨ok.mod, ok.kind, ok.glob, ok.blt, ok.above, ok.inj, ok.has, ok.cab, ok.hd, ok.frames, ok.stk, ok.exf, ok.bs, ok.bsz, ok.noex, ok.exfs, ok.funs, ok.frf⟩
section
variable {X : Cx} {pins : List (Addr × Obj)} {σ : St} {H : Hp} {s : Shared} {E : Value → Shared → Prop}
theorem Inv.wish (I : Inv X pins σ H s) (E : Value → Shared → Prop) : Inv (X.wish E) pins σ H s := ⟨I.ok.wish E, I.os, I.bare, I.base, I.loc, I.cell, I.free, I.freeC, I.pin, I.hok, I.len⟩
theorem Inv.unwish (I : Inv (X.wish E) pins σ H s) : Inv X pins σ H s := ⟨I.ok.unwish, I.os, I.bare, I.base, I.loc, I.cell, I.free, I.freeC, I.pin, I.hok, I.len⟩
theorem SP.unwish {D : Ends} {f : Flow} {s' : Shared} (h : SP (X.wish E) pins D f s') : SP X pins D f s' := by
  cases f with
  | next => obtain ⟨σ', H', I, q⟩ := h; exact ⟨σ', H', I.unwish, q⟩
  | brk => obtain ⟨σ', H', I, q⟩ := h; exact ⟨σ', H', I.unwish, q⟩
  | cont => obtain ⟨σ', H', I, q⟩ := h; exact ⟨σ', H', I.unwish, q⟩
  | ret u => obtain ⟨v, σ', H', I, r, q⟩ := h; exact ⟨v, σ', H', I.unwish, r, q⟩
theorem PE.nox {e : Expr} {t : TE} (h : PE X.nox e t) : PE X e t := fun pins s σ H Q I hw =>
  wpAny_mono (h pins s σ H Q (I.wish _) hw) (fun _ _ ⟨v, H', I', r, q⟩ => ⟨v, H', I'.unwish, r, q⟩) fun _ _ z => False.elim z
theorem PT.nox {e : Expr} {t : TT} (h : PT X.nox e t) : PT X e t := fun pins s σ H Q I hw =>
  wpAny_mono (h pins s σ H Q (I.wish _) hw) (fun _ _ ⟨H', I', q⟩ => ⟨H', I'.unwish, q⟩) fun _ _ z => False.elim z
theorem PSs.nox {st : List Stmt} {t : TS} (h : PSs X.nox st t) : PSs X st t := fun pins s σ H D I hw =>
  wpAny_mono (h pins s σ H D (I.wish _) hw) (fun _ _ q => q.unwish) fun _ _ z => False.elim z
end
section
variable {X : Cx} {st : Stmt} {rest : List Stmt} {t u : TS} {e : Expr} {te : TE} {pos : Pos}
def tNext : TS := fun D σ H => D.nx σ H
def tSeq (t u : TS) : TS := fun D σ H => t { D with nx := u D } σ H
theorem pss_nil : PSs X [] tNext := fun _ _ σ H _ I h => wpAny_execs_nil ⟨σ, H, I, h⟩
theorem pss_cons (h1 : PS X st t) (h2 : PSs X rest u) : PSs X (st :: rest) (tSeq t u) := by
  intro pins s σ H D I h
  refine wpAny_execs_cons (thn (h1 pins s σ H { D with nx := u D } I h) fun f s1 q => ?_)
  cases f with
  | next =>
    obtain ⟨σ', H', I', q⟩ := q
    exact h2 pins s1 σ' H' D I' q
  | ret v => exact q
  | brk => exact q
  | cont => exact q
theorem pss_one (h1 : PS X st t) : PSs X [st] t := by
  intro pins s σ H D I h
  refine wpAny_execs_cons (thn (h1 pins s σ H D I h) fun f s1 q => ?_)
  cases f with
  | next => exact wpAny_execs_nil q
  | ret v => exact q
  | brk => exact q
  | cont => exact q
theorem Inv.quiet {pins : List (Addr × Obj)} {σ : St} {H : Hp} {s : Shared} (I : Inv X pins σ H s) : interactive X.env = false := by simp [interactive, I.ok.kind]
def tDrop (te : TE) : TS := fun D σ H => te σ H fun _ H1 => D.nx σ H1
theorem ps_expr (he : PE X e te) (hs : swapsWith e none pos.line X.env = pure false := by rfl) : PS X (.Expr e pos) (tDrop te) := by
  intro pins s σ H D I h
  exact wpAny_Expr_any (thn (he pins s σ H _ I h) fun v s1 ⟨x, H1, I1, r1, q1⟩ => ⟨σ, H1, I1, q1⟩) I.quiet hs
def tRet (te : TE) : TS := fun D σ H => te σ H D.rt
theorem ps_ret (he : PE X e te) : PS X (.Return (some e) pos) (tRet te) := by
  intro pins s σ H D I h
  exact wpAny_Return_some (thn (he pins s σ H _ I h) fun v s1 ⟨x, H1, I1, r1, q1⟩ => ⟨x, σ, H1, I1, r1, q1⟩)
def tIfS (c : TT) (t u : TS) : TS := fun D σ H => c σ H fun b H1 => if b = true then t D σ H1 else u D σ H1
theorem ps_if {c : Expr} {a b : List Stmt} {tc : TT} (hc : PT X c tc) (ha : PSs X a t) (hb : PSs X b u) : PS X (.If c a b pos) (tIfS tc t u) := by
  intro pins s σ H D I h
  refine wpAny_If (thn (hc pins s σ H _ I h) fun d s1 ⟨H1, I1, q1⟩ => ?_)
  cases d with
  | true => exact ha pins s1 σ H1 D I1 q1
  | false => exact hb pins s1 σ H1 D I1 q1
def tNever : TS := fun _ _ _ => False
theorem pss_never {sts : List Stmt} : PSs X sts tNever := fun _ _ _ _ _ _ h => h.elim
end
abbrev TG := V → St → Hp → (St → Hp → Prop) → Prop
def PG (X : Cx) (target : Expr) (t : TG) : Prop :=
  ∀ (pins : List (Addr × Obj)) (s : Shared) (σ : St) (H : Hp) (v : V) (u : Value) (Q : St → Hp → Prop), Inv X pins σ H s → RelV v u → t v σ H Q →
    wpAny (model X.prog X.w) X.A (assign target X.env u) (fun _ s' => ∃ σ' H', Inv X pins σ' H' s' ∧ Q σ' H') X.xe s
section
variable {X : Cx} {pos : Pos}
def gName (i : Nat) : TG := fun v σ H Q => Q (σ.set i (some v)) H
theorem pg_name {i : Nat} {x : Str} (hN : X.N.Nodup) (hi : X.N[i]? = some x) (hx : Loc X.env.scope x) (hf : X.fn x = true ∨ X.env.scope.names.lookup x = some .local := by first | exact .inl rfl | exact .inr rfl | assumption) : PG X (.Name x pos) (gName i) := by
  intro pins s σ H v u Q I r h
  exact wpAny_assign_Name (store_ok I hN hi hx r (fun s' I' => ⟨_, H, I', h⟩) hf)
def tAsg (te : TE) (g : TG) : TS := fun D σ H => te σ H fun x H1 => g x σ H1 D.nx
theorem ps_set {i : Nat} {x : Str} {e : Expr} {te : TE} {pos' : Pos} (hN : X.N.Nodup) (hi : X.N[i]? = some x) (hx : Loc X.env.scope x) (he : PE X e te) (hs : swapsWith e (some (.Name x pos')) pos.line X.env = pure false := by rfl) (hf : X.fn x = true ∨ X.env.scope.names.lookup x = some .local := by first | exact .inl rfl | exact .inr rfl | assumption) :
    PS X (.Assign [.Name x pos'] e pos) (tAsg te (gName i)) := by
  intro pins s σ H D I h
  refine wpAny_Assign_Name (thn (he pins s σ H _ I h) fun v s1 ⟨y, H1, I1, r1, q1⟩ => ?_) hs
  exact store_ok I1 hN hi hx r1 (fun s2 I2 => ⟨_, H1, I2, q1⟩) hf
def tPar (i j : Nat) (ta : TA) : TS := fun D σ H => ta σ H fun vs H1 => ∃ v w, vs = [v, w] ∧ D.nx ((σ.set i (some v)).set j (some w)) H1
theorem ps_par {i j : Nat} {x y : Str} {a b : Expr} {ta : TA} {px py pt : Pos} {kt k2 pt2} (hc : X.calm = true) (hN : X.N.Nodup) (hi : X.N[i]? = some x) (hj : X.N[j]? = some y) (hij : i ≠ j)
    (hx : X.env.scope.names.lookup x = some .local) (hy : X.env.scope.names.lookup y = some .local) (ha : PA X [a, b] ta)
    (hw : swappedStores [.Tuple [.Name x px, .Name y py] kt pt] (.Tuple [a, b] k2 pt2) X.env = pure (some [x, y]))
    (hs : swapsWithSole [.Tuple [.Name x px, .Name y py] kt pt] (.Tuple [a, b] k2 pt2) pos.line X.env = pure false := by rfl) :
    PS X (.Assign [.Tuple [.Name x px, .Name y py] kt pt] (.Tuple [a, b] k2 pt2) pos) (tPar i j ta) := by
  intro pins s σ H D I h
  rw [exec_Assign_arm]
  refine wpAny_bind (wpAny_standAt ?_)
  rw [hs]
  refine wpAny_bind (wpAny_pure ?_)
  rw [if_neg (by decide)]
  refine wpAny_bind (Tuple_ (thn (ha _ pins s σ H _ I h) fun us s1 ⟨vs, H1, I1, r1, q1⟩ => ?_))
  obtain ⟨v, w, e1, q1⟩ := q1
  subst e1
  obtain ⟨u1, u2, rfl, rv, rw'⟩ : ∃ u1 u2, us = [u1, u2] ∧ RelV v u1 ∧ RelV w u2 := by
    cases r1 with
    | cons p q =>
      cases q with
      | cons p' q' =>
        cases q'
        exact ⟨_, _, rfl, p, p'⟩
  refine wpAny_newObj_type ?_ (by show 2 ≤ sizeLine; decide)
  have I2 : Inv X pins σ H1 { s1 with heap := s1.heap.push { cls := .type "tuple", data := .seq [u1, u2].toArray } } := I1.kept (t' := s1.toks) fun b o e => Heap.get?_push_of_some _ e
  rw [hw]
  refine wpAny_bind (wpAny_pure ?_)
  show wpAny (model X.prog X.w) X.A (do rule "assign.swapped-stores"; let items ← unpackItems (.ref s1.heap.objs.size) 2 none; assignInOrder [fun v => bindName X.env y v, fun v => bindName X.env x v] items.reverse; pure Flow.next) _ _ _
  refine wpAny_bind (wpAny_rule (wpAny_bind (unpackItems_tuple (items := #[u1, u2]) (I.ok.hd hc) (IsTup.new s1.heap _) fun h' hx' => ?_)))
  have I3 := I2.kept (h' := h') (t' := s1.toks) fun b o e => hx' b o (Nat.ne_of_lt (Heap.lt_size e)) e
  show wpAny _ _ (assignInOrder [fun v => bindName X.env y v, fun v => bindName X.env x v] [u2, u1] >>= fun _ => pure Flow.next) _ _ _
  refine wpAny_bind (assignInOrder_cons (wpAny_bindName (store_ok I3 hN hj (.inl hy) rw' (fun s2 I4 => ?_) (.inr hy))))
  refine assignInOrder_cons (wpAny_bindName (store_ok I4 hN hi (.inl hx) rv (fun s3 I5 => assignInOrder_nil (wpAny_pure ?_)) (.inr hx)))
  rw [List.set_comm _ _ (Ne.symm hij)] at I5
  exact ⟨_, H1, I5, q1⟩
end
section
variable {X : Cx} {pos : Pos}
end
structure It where
  go : Nat → Hp → Prop
  yld : Nat → Hp → V → Hp → Prop
  stop : Nat → Hp → Prop
def FpOk (X : Cx) (pins : List (Addr × Obj)) (H : Hp) (b : Addr) : Prop :=
  H b = none ∧ b ≠ X.env.locals ∧ b ∉ X.fs ∧ (b ∈ X.ex ∨ X.s₀.heap.objs.size ≤ b) ∧ (∀ x c, X.env.cells.lookup x = some c → c ≠ b) ∧ ∀ p ∈ X.pn ++ pins, p.1 ≠ b
theorem Inv.fpOk {X : Cx} {pins : List (Addr × Obj)} {σ : St} {H H' : Hp} {s : Shared} {b : Addr} (I : Inv X pins σ H s) (hb : s.heap.objs.size ≤ b) (hn : H' b = none) : FpOk X pins H' b := by
  refine ⟨hn, Nat.ne_of_gt (Nat.lt_of_lt_of_le I.lt hb), I.nofs hb, .inr (Nat.le_trans I.sz hb), fun x c e z => ?_, fun p hp z => ?_⟩
  · obtain ⟨v, q⟩ := I.cell x c e
    exact absurd (Nat.lt_of_lt_of_le q.lt (by rw [z]; exact hb)) (Nat.lt_irrefl _)
  · exact absurd (Nat.lt_of_lt_of_le (Heap.lt_size (I.pin p hp).1) (by rw [z]; exact hb)) (Nat.lt_irrefl _)
structure Turn (P : Program) (w : World) (K : PySem.W.Frag) (tg : Expr) (J : It) (fp : List Addr) (it : Addr) (tn : Nat → Heap → Prop) : Prop where
  mem : it ∈ fp
  obj : ∀ i h, tn i h → ∀ b ∈ fp, ∃ o, h.get? b = some o ∧ ∀ v, o.data ≠ .cell v
  keep : ∀ i h h', tn i h → (∀ b ∈ fp, ∀ o, h.get? b = some o → h'.get? b = some o) → tn i h'
  item : ∀ (X : Cx), X.prog = P → X.w = w → X.K = K → X.calm = true → ∀ (i : Nat) (pins : List (Addr × Obj)) (s : Shared) (σ : St) (H : Hp) (E : Value → Shared → Prop), Inv X pins σ H s → (∀ b ∈ fp, FpOk X pins H b) → tn i s.heap → J.go i H →
    wpAny (model P w) X.A (pyNext (.ref it)) (fun r s1 => ∃ u, r = some u ∧
      wpAny (model P w) X.A (letOwnedTupleGo tg (.ref it) u) (fun _ s2 => ∃ x H', Inv X pins σ H' s2 ∧ RelV x u ∧ J.yld i H x H' ∧ tn (i + 1) s2.heap ∧ ∀ b ∈ fp, H' b = none) E s1) E s
  done : ∀ (X : Cx), X.prog = P → X.w = w → X.K = K → X.calm = true → ∀ (i : Nat) (pins : List (Addr × Obj)) (s : Shared) (σ : St) (H : Hp) (E : Value → Shared → Prop), Inv X pins σ H s → (∀ b ∈ fp, FpOk X pins H b) → tn i s.heap → J.stop i H →
    wpAny (model P w) X.A (pyNext (.ref it)) (fun r s1 => r = none ∧ Inv X pins σ H s1) E s
  self : ∀ (A : Around) (i : Nat) (s : Shared) (Q : Value → Shared → Prop) (E : Value → Shared → Prop), tn i s.heap → Q (.ref it) s → wpAny (model P w) A (pyIter (.ref it)) Q E s
abbrev TI := St → Hp → (It → Hp → Prop) → Prop
def PIE (X : Cx) (pins : List (Addr × Obj)) (σ : St) (tg : Expr) (R : It → Hp → Prop) (itv : Value) (s2 : Shared) : Prop :=
  ∃ (it : Addr) (fp : List Addr) (tn : Nat → Heap → Prop) (J : It) (H' : Hp), itv = .ref it ∧ Inv X pins σ H' s2 ∧ Turn X.prog X.w X.K tg J fp it tn ∧ tn 0 s2.heap ∧ (∀ b ∈ fp, FpOk X pins H' b) ∧ R J H'
def PI (X : Cx) (tg iter : Expr) (wi : TI) : Prop :=
  ∀ (pins : List (Addr × Obj)) (s : Shared) (σ : St) (H : Hp) (R : It → Hp → Prop), Inv X pins σ H s → wi σ H R →
    wpAny (model X.prog X.w) X.A (eval iter X.env) (fun v s1 => wpAny (model X.prog X.w) X.A (pyIter v) (PIE X pins σ tg R) X.xe s1) X.xe s
theorem go_of {M : Model} {A : Around} {E : Value → Shared → Prop} {s : Shared} {tg : Expr} {it : Addr} {u : Value} {o : Obj} {n : String} {vs : Array Value} {Q : Unit → Shared → Prop} (ho : s.heap.get? it = some o) (hc : o.cls = .type n) (hd : o.data = .fields vs)
    (hn : ["enumerate", "zip", "dict_itemiterator", "dict_reverseitemiterator", "odict_iterator", "itertools.zip_longest", "itertools.pairwise"].contains n = false) (hQ : Q () s) : wpAny M A (letOwnedTupleGo tg (.ref it) u) Q E s := by
  unfold letOwnedTupleGo
  cases tg <;> first
    | exact wpAny_pure hQ
    | (cases u <;> first
        | exact wpAny_pure hQ
        | (refine wpAny_bind (wpAny_load ho ?_)
           rw [hc, hd]
           show wpAny M A (if (["enumerate", "zip", "dict_itemiterator", "dict_reverseitemiterator", "odict_iterator", "itertools.zip_longest", "itertools.pairwise"].contains n && vs[0]? == some (rawInt _)) = true then _ else _) Q E s
           rw [if_neg (by intro h; rw [hn, Bool.false_and] at h; cases h)]
           exact wpAny_pure hQ))
def Itl (K : PySem.W.Frag) (a : Addr) : It :=
  ⟨fun i H => ∃ xs x, SqL K H a xs ∧ xs[i]? = some x, fun i H x H' => H' = H ∧ ∀ xs, SqL K H a xs → xs[i]? = some x, fun i H => ∃ xs, SqL K H a xs ∧ xs.length ≤ i⟩
def Itt (K : PySem.W.Frag) (a : Addr) : It :=
  ⟨fun i H => ∃ xs x, SqT K H a xs ∧ xs[i]? = some x, fun i H x H' => H' = H ∧ ∀ xs, SqT K H a xs → xs[i]? = some x, fun i H => ∃ xs, SqT K H a xs ∧ xs.length ≤ i⟩
def Itr (lo : Int) (n : Nat) : It := ⟨fun i _ => i < n, fun i H x H' => H' = H ∧ x = .int (lo + i), fun i _ => n ≤ i⟩
theorem turn_list {P : Program} {w : World} {K : PySem.W.Frag} {tg : Expr} (a it : Addr) : Turn P w K tg (Itl K a) [it] it (fun i h => h.IsListIter it a i) where
  mem := by simp
  obj := fun i h st b hb => by
    have e : b = it := by simpa using hb
    subst e
    obtain ⟨o, e, c, d⟩ := st
    exact ⟨o, e, fun v z => by rw [d] at z; cases z⟩
  keep := fun i h h' st k => st.at fun o e => k it (by simp) o e
  item := by
    intro X hP hw hK hc i pins s σ H E I hf st hg
    subst hP hw hK
    obtain ⟨xs, x, hq, hx⟩ := hg
    obtain ⟨its, rv, p, hz⟩ := I.list hq
    obtain ⟨u, hu, ru⟩ := rv.get hx
    obtain ⟨f0, f1, f2, f3, f4, f5⟩ := hf it (by simp)
    refine wpAny_pyNext_list_item st p.isList (x := u) (by simpa using hu) fun h' st' sb => ?_
    have I1 : Inv X pins σ H { s with heap := h' } := I.turned (t' := s.toks) (fun b o hb e => (sb.2 b hb).trans e) f0 f1 f3 f4 f5
    obtain ⟨o, e, c, d⟩ := id st'
    exact ⟨u, rfl, go_of (s := { s with heap := h' }) e c d (by decide) ⟨x, H, I1, ru, ⟨rfl, fun ys hy => by rw [I.list_inj hy hq]; exact hx⟩, st', fun b hb => (hf b hb).1⟩⟩
  done := by
    intro X hP hw hK hc i pins s σ H E I hf st hg
    subst hP hw hK
    obtain ⟨xs, hq, hx⟩ := hg
    obtain ⟨its, rv, p, hz⟩ := I.list hq
    obtain ⟨f0, f1, f2, f3, f4, f5⟩ := hf it (by simp)
    have hl := rv.length
    exact wpAny_pyNext_list_end (I.ok.hd hc) st p.isList (by simp; omega) fun h' eb => ⟨rfl, I.turned (t' := s.toks) (fun b o hb e => eb b o hb e) f0 f1 f3 f4 f5⟩
  self := fun _ _ _ _ _ st h => wpAny_pyIter_listiter st h
theorem turn_tuple {P : Program} {w : World} {K : PySem.W.Frag} {tg : Expr} (a it : Addr) : Turn P w K tg (Itt K a) [it] it (fun i h => h.IsTupleIter it a i) where
  mem := by simp
  obj := fun i h st b hb => by
    have e : b = it := by simpa using hb
    subst e
    obtain ⟨o, e, c, d⟩ := st
    exact ⟨o, e, fun v z => by rw [d] at z; cases z⟩
  keep := fun i h h' st k => st.at fun o e => k it (by simp) o e
  item := by
    intro X hP hw hK hc i pins s σ H E I hf st hg
    subst hP hw hK
    obtain ⟨xs, x, hq, hx⟩ := hg
    obtain ⟨its, rv, p, hz⟩ := I.tuple hq
    obtain ⟨u, hu, ru⟩ := rv.get hx
    obtain ⟨f0, f1, f2, f3, f4, f5⟩ := hf it (by simp)
    refine wpAny_pyNext_tuple_item st (show s.heap.IsTuple a its.toArray from p) (x := u) (by simpa using hu) fun h' st' sb => ?_
    have I1 : Inv X pins σ H { s with heap := h' } := I.turned (t' := s.toks) (fun b o hb e => (sb.2 b hb).trans e) f0 f1 f3 f4 f5
    obtain ⟨o, e, c, d⟩ := id st'
    exact ⟨u, rfl, go_of (s := { s with heap := h' }) e c d (by decide) ⟨x, H, I1, ru, ⟨rfl, fun ys hy => by rw [I.tuple_inj hy hq]; exact hx⟩, st', fun b hb => (hf b hb).1⟩⟩
  done := by
    intro X hP hw hK hc i pins s σ H E I hf st hg
    subst hP hw hK
    obtain ⟨xs, hq, hx⟩ := hg
    obtain ⟨its, rv, p, hz⟩ := I.tuple hq
    obtain ⟨f0, f1, f2, f3, f4, f5⟩ := hf it (by simp)
    have hl := rv.length
    exact wpAny_pyNext_tuple_end (I.ok.hd hc) st (show s.heap.IsTuple a its.toArray from p) (by simp; omega) fun h' eb => ⟨rfl, I.turned (t' := s.toks) (fun b o hb e => eb b o hb e) f0 f1 f3 f4 f5⟩
  self := fun _ _ _ _ _ st h => wpAny_pyIter_tupleiter st h
theorem turn_range {P : Program} {w : World} {K : PySem.W.Frag} {tg : Expr} (it : Addr) (lo : Int) (n : Nat) : Turn P w K tg (Itr lo n) [it] it (fun i h => IsRangeIter h it (lo + (i : Nat) * 1) ((n : Int) - (i : Nat)) 1) where
  mem := by simp
  obj := fun i h st b hb => by
    have e : b = it := by simpa using hb
    subst e
    exact ⟨_, st, fun v z => by
      have z' : Data.fields _ = Data.cell v := z
      cases z'⟩
  keep := fun i h h' st k => k it (by simp) _ st
  item := by
    intro X hP hw hK hc i pins s σ H E I hf st hg
    subst hP hw hK
    obtain ⟨f0, f1, f2, f3, f4, f5⟩ := hf it (by simp)
    have W := Walks.range (prog := X.prog) (w := X.w) (I.ok.hd hc) it lo 1 n
    refine W.item i s _ _ hg st fun v h' tk hv st' kk => ?_
    obtain ⟨t, rfl⟩ := hv
    have I1 : Inv X pins σ H { s with heap := h', toks := tk } := I.turned (fun b o hb e => kk b o (by simpa using hb) e) f0 f1 f3 f4 f5
    refine ⟨_, rfl, go_of (s := { s with heap := h', toks := tk }) (n := "range_iterator") st' rfl rfl (by decide) ⟨.int (lo + i), H, I1, ⟨t, ?_⟩, ⟨rfl, rfl⟩, st', fun b hb => (hf b hb).1⟩⟩
    rw [Int.mul_one]
  done := by
    intro X hP hw hK hc i pins s σ H E I hf st hg
    subst hP hw hK
    obtain ⟨f0, f1, f2, f3, f4, f5⟩ := hf it (by simp)
    exact wpAny_pyNext_range_end (I.ok.hd hc) st (by have : n ≤ i := hg; omega) fun h' eb => ⟨rfl, I.turned (t' := s.toks) (fun b o hb e => eb b o hb e) f0 f1 f3 f4 f5⟩
  self := fun _ _ _ _ _ st h => wpAny_pyIter_rangeiter st h
end L2
namespace L2
open PySem PySem.Spec PyProof.Rows
section
variable {X : Cx} {tg : Expr}
def iList (K : PySem.W.Frag) (tl : TE) : TI := fun σ H R => tl σ H fun x H1 => ∃ a, x = .ref a ∧ (∃ xs, SqL K H1 a xs) ∧ R (Itl K a) H1
def iTup (K : PySem.W.Frag) (tl : TE) : TI := fun σ H R => tl σ H fun x H1 => ∃ a, x = .ref a ∧ (∃ xs, SqT K H1 a xs) ∧ R (Itt K a) H1
theorem pi_list {l : Expr} {tl : TE} (hl : PE X l tl) : PI X tg l (iList X.K tl) := by
  intro pins s σ H R I h
  refine thn (hl pins s σ H _ I h) fun v s1 ⟨x, H1, I1, r1, q1⟩ => ?_
  obtain ⟨a, e, ⟨xs, hq⟩, q⟩ := q1
  subst e
  cases r1
  obtain ⟨its, rv, p, hz⟩ := I1.list hq
  refine wpAny_pyIter_list p.isList ?_
  refine ⟨s1.heap.objs.size, [s1.heap.objs.size], _, _, H1, rfl, I1.kept (t' := s1.toks) fun b o e => Heap.get?_push_of_some _ e, turn_list a _, ⟨_, Heap.get?_push_size _ rfl, rfl, rfl⟩, fun b hb => ?_, q⟩
  have e : b = s1.heap.objs.size := by simpa using hb
  subst e
  exact I1.fpOk (Nat.le_refl _) (I1.hok.fresh (Nat.le_refl _))
theorem pi_tup {l : Expr} {tl : TE} (hl : PE X l tl) : PI X tg l (iTup X.K tl) := by
  intro pins s σ H R I h
  refine thn (hl pins s σ H _ I h) fun v s1 ⟨x, H1, I1, r1, q1⟩ => ?_
  obtain ⟨a, e, ⟨xs, hq⟩, q⟩ := q1
  subst e
  cases r1
  obtain ⟨its, rv, p, hz⟩ := I1.tuple hq
  refine wpAny_pyIter_tuple (show s1.heap.IsTuple a its.toArray from p) ?_
  refine ⟨s1.heap.objs.size, [s1.heap.objs.size], _, _, H1, rfl, I1.kept (t' := s1.toks) fun b o e => Heap.get?_push_of_some _ e, turn_tuple a _, ⟨_, Heap.get?_push_size _ rfl, rfl, rfl⟩, fun b hb => ?_, q⟩
  have e : b = s1.heap.objs.size := by simpa using hb
  subst e
  exact I1.fpOk (Nat.le_refl _) (I1.hok.fresh (Nat.le_refl _))
theorem range_it {pins : List (Addr × Obj)} {σ : St} {H : Hp} {s : Shared} {R : It → Hp → Prop} {E : Value → Shared → Prop} {lo hi : Int} {t u v : Tok} {tk : Nat} (I : Inv X pins σ H s) (h1 : -(2 ^ 62) ≤ lo) (h2 : lo < 2 ^ 62) (h3 : -(2 ^ 62) ≤ hi) (h4 : hi < 2 ^ 62)
    (q : R (Itr lo (hi - lo).toNat) H) : wpAny (model X.prog X.w) X.A (pyIter (.ref s.heap.objs.size)) (PIE X pins σ tg R) E { s with heap := s.heap.push { cls := .type "range", data := .fields #[.int lo t, .int hi u, .int 1 v] }, toks := tk } := by
  refine wpAny_pyIter_range (IsRange.new ..) (small_one h1 h2 h3 h4) ?_
  have I1 : Inv X pins σ H { s with heap := s.heap.push { cls := .type "range", data := .fields #[.int lo t, .int hi u, .int 1 v] }, toks := tk } := I.kept fun b o e => Heap.get?_push_of_some _ e
  refine ⟨(s.heap.push { cls := .type "range", data := .fields #[.int lo t, .int hi u, .int 1 v] }).objs.size, [(s.heap.push { cls := .type "range", data := .fields #[.int lo t, .int hi u, .int 1 v] }).objs.size], _, _, H, rfl,
    I1.kept (t' := tk) fun b o e => Heap.get?_push_of_some _ e, turn_range _ lo (hi - lo).toNat, ?_, fun b hb => ?_, q⟩
  · have e1 : lo + ((0 : Nat) : Int) * 1 = lo := by simp
    have e2 : (((hi - lo).toNat : Nat) : Int) - ((0 : Nat) : Int) = Builtin.Range.rangeSize lo hi 1 := by rw [rangeSize_one]; split <;> omega
    show IsRangeIter _ _ (lo + ((0 : Nat) : Int) * 1) ((((hi - lo).toNat : Nat) : Int) - ((0 : Nat) : Int)) 1
    rw [e1, e2]
    exact Heap.get?_push_size _ rfl
  · have e : b = (s.heap.push { cls := .type "range", data := .fields #[.int lo t, .int hi u, .int 1 v] }).objs.size := by simpa using hb
    subst e
    exact I1.fpOk (Nat.le_refl _) (I1.hok.fresh (Nat.le_refl _))
def iRng1 (ta : TA) : TI := fun σ H R => ta σ H fun vs H1 => ∃ j : Int, vs = [.int j] ∧ -(2 ^ 62) ≤ j ∧ j < 2 ^ 62 ∧ R (Itr 0 j.toNat) H1
def iRng2 (ta : TA) : TI := fun σ H R => ta σ H fun vs H1 => ∃ i j : Int, vs = [.int i, .int j] ∧ (-(2 ^ 62) ≤ i ∧ i < 2 ^ 62 ∧ -(2 ^ 62) ≤ j ∧ j < 2 ^ 62) ∧ R (Itr i (j - i).toNat) H1
theorem pi_range1 {a : Expr} {ta : TA} {p pos : Pos} (hg : Gl X "range") (hm : X.mg "range" = none) (ha : PA X [a] ta) (hs : starEach [a] X.env = [(false, eval a X.env)] := by rfl) : PI X tg (.Call (.Name "range" p) [a] [] pos) (iRng1 ta) := by
  intro pins s σ H R I h
  refine Call_ (ld_blt I hg hm boot_range (PyProof.Rows.callWith_type1 (thn (ha pos pins s σ H _ I h) fun us s1 ⟨vs, H1, I1, r1, q1⟩ => ?_) hs rfl))
  obtain ⟨j, e, q1, q2, q⟩ := q1
  subst e
  cases r1 with
  | cons r rr =>
    cases rr
    obtain ⟨t, rfl⟩ := r
    exact call_range_1 (range_it I1 (by omega) (by omega) q1 q2 (by simpa using q))
theorem pi_range2 {a b : Expr} {ta : TA} {p pos : Pos} (hg : Gl X "range") (hm : X.mg "range" = none) (ha : PA X [a, b] ta) (hs : starEach [a, b] X.env = [(false, eval a X.env), (false, eval b X.env)] := by rfl) (hs2 : starEach [b] X.env = [(false, eval b X.env)] := by rfl) :
    PI X tg (.Call (.Name "range" p) [a, b] [] pos) (iRng2 ta) := by
  intro pins s σ H R I h
  refine Call_ (ld_blt I hg hm boot_range (PyProof.Rows.callWith_type1 (thn (ha pos pins s σ H _ I h) fun us s1 ⟨vs, H1, I1, r1, q1⟩ => ?_) (by rw [hs, hs2]) (by rw [hs2]; rfl)))
  obtain ⟨i, j, e, ⟨q1, q2, q3, q4⟩, q⟩ := q1
  subst e
  cases r1 with
  | cons r rr =>
    cases rr with
    | cons r' rr =>
      cases rr
      obtain ⟨t, rfl⟩ := r
      obtain ⟨t', rfl⟩ := r'
      exact call_range_2 (range_it I1 q1 q2 q3 q4 q)
def tFor (wi : TI) (g : TG) (tb : TS) : TS := fun D σ H => wi σ H fun J H1 => ∃ W : Nat → Nat → St → Hp → Prop, (∃ m, W 0 m σ H1) ∧ ∀ i m σ H, W i m σ H →
  (J.stop i H ∧ D.nx σ H) ∨ (J.go i H ∧ ∃ N : St → Hp → Prop, (∀ σ' H', N σ' H' → ∃ m', m' < m ∧ W (i + 1) m' σ' H') ∧ ∀ x H', J.yld i H x H' → g x σ H' fun σ2 H2 => tb { D with nx := N, ct := N, bk := D.nx } σ2 H2)
def pinsAt (fp : List Addr) (h : Heap) : List (Addr × Obj) := fp.filterMap fun b => (h.get? b).map fun o => (b, o)
theorem mem_pinsAt {fp : List Addr} {h : Heap} {b : Addr} {o : Obj} (hb : b ∈ fp) (e : h.get? b = some o) : (b, o) ∈ pinsAt fp h := List.mem_filterMap.mpr ⟨b, hb, by rw [e]; rfl⟩
theorem of_pinsAt {fp : List Addr} {h : Heap} {p : Addr × Obj} (hp : p ∈ pinsAt fp h) : p.1 ∈ fp ∧ h.get? p.1 = some p.2 := by
  obtain ⟨b, hb, e⟩ := List.mem_filterMap.mp hp
  cases q : h.get? b with
  | none => rw [q] at e; cases e
  | some o =>
    rw [q] at e
    have e' : (b, o) = p := Option.some.inj e
    subst e'
    exact ⟨hb, q⟩
theorem Inv.pinned {pins : List (Addr × Obj)} {σ : St} {H : Hp} {s : Shared} {fp : List Addr} (I : Inv X pins σ H s) (hf : ∀ b ∈ fp, FpOk X pins H b) (ho : ∀ b ∈ fp, ∃ o, s.heap.get? b = some o ∧ ∀ v, o.data ≠ .cell v) : Inv X (pins ++ pinsAt fp s.heap) σ H s :=
  I.pins_of fun p hp => (List.mem_append.mp hp).elim (fun z => I.pin p (List.mem_append_right _ z)) fun z => by
    obtain ⟨hb, e⟩ := of_pinsAt z
    obtain ⟨f0, f1, f2, _⟩ := hf p.1 hb
    obtain ⟨o, e', d⟩ := ho p.1 hb
    rw [e] at e'; cases e'
    exact ⟨e, f0, f1, f2, d⟩
theorem Inv.unpinned {pins pl : List (Addr × Obj)} {σ : St} {H : Hp} {s : Shared} (I : Inv X (pins ++ pl) σ H s) : Inv X pins σ H s := I.pins_of fun p hp => I.pin p (List.mem_append_right _ (List.mem_append_left _ hp))
theorem ps_for {iter : Expr} {body : List Stmt} {wi : TI} {g : TG} {tb : TS} {pos : Pos} (hp : PassesOwn (model X.prog X.w) X.A X.env X.xe) (hc : X.calm = true) (hi : PI X tg iter wi) (hg : PG X tg g) (hb : PSs X body tb)
    (hs : ∀ x, foldedSetIterable iter X.env x = pure x := by intro _; rfl) : PS X (.For tg iter body [] pos) (tFor wi g tb) := by
  intro pins s σ H D I h
  refine wpAny_For (thn (hi pins s σ H _ I h) fun v s1 h1 => thn h1 fun itv s2 h2 => ?_) hs
  obtain ⟨it, fp, tn, J, H2, e, I2, T, st2, f2, W, ⟨m0, w0⟩, turn⟩ := h2
  subst e
  -- what stays true of the iterator's objects through the loop
  have stat : ∀ {H' : Hp}, (∀ b ∈ fp, H' b = none) → ∀ b ∈ fp, FpOk X pins H' b := fun hn b hb => ⟨hn b hb, (f2 b hb).2⟩
  refine codeAny_forLoop_any (fun n s' => ∃ i σ' H', Inv X pins σ' H' s' ∧ tn i s'.heap ∧ (∀ b ∈ fp, H' b = none) ∧ W i n σ' H') ?_ m0 ⟨0, σ, H2, I2, st2, fun b hb => (f2 b hb).1, w0⟩
  rintro n s3 ⟨i, σ3, H3, I3, st3, fr3, w3⟩
  rcases turn i n σ3 H3 w3 with ⟨stop, qn⟩ | ⟨go, N, hN, step⟩
  · refine wpAny_passesOwn hp (thn (T.done X rfl rfl rfl hc i pins s3 σ3 H3 X.xe I3 (stat fr3) st3 stop) fun r s4 ⟨hr, I4⟩ => ?_)
    subst hr
    exact wpAny_execs_nil ⟨σ3, H3, I4, qn⟩
  · refine wpAny_passesOwn hp (thn (T.item X rfl rfl rfl hc i pins s3 σ3 H3 X.xe I3 (stat fr3) st3 go) fun r s4 ⟨u, hr, h4⟩ => ?_)
    subst hr
    refine wpAny_passesOwn hp (thn h4 fun _ s5 ⟨x, H5, I5, r5, y5, st5, fr5⟩ => ?_)
    have I5' := I5.pinned (stat fr5) (T.obj _ _ st5)
    refine wpAny_passesOwn hp (thn (hg _ s5 σ3 H5 x u _ I5' r5 (step x H5 y5)) fun _ s6 ⟨σ6, H6, I6, q6⟩ => ?_)
    refine wpAny_passesOwn hp (thn (hb _ s6 σ6 H6 _ I6 q6) fun f s7 q7 => ?_)
    have again : ∀ {σ7 : St} {H7 : Hp}, Inv X (pins ++ pinsAt fp s5.heap) σ7 H7 s7 → N σ7 H7 → ∃ m, m < n ∧ ∃ i σ' H', Inv X pins σ' H' s7 ∧ tn i s7.heap ∧ (∀ b ∈ fp, H' b = none) ∧ W i m σ' H' := fun {σ7 H7} I7 n7 => by
      obtain ⟨m', hm, w7⟩ := hN σ7 H7 n7
      refine ⟨m', hm, i + 1, σ7, H7, I7.unpinned, T.keep _ _ _ st5 fun b hb o e => (I7.pin (b, o) (List.mem_append_right _ (List.mem_append_right _ (mem_pinsAt hb e)))).1, fun b hb => ?_, w7⟩
      obtain ⟨o, e, d⟩ := T.obj _ _ st5 b hb
      exact (I7.pin (b, o) (List.mem_append_right _ (List.mem_append_right _ (mem_pinsAt hb e)))).2.1
    cases f with
    | next => obtain ⟨σ7, H7, I7, n7⟩ := q7; exact again I7 n7
    | cont => obtain ⟨σ7, H7, I7, n7⟩ := q7; exact again I7 n7
    | brk => obtain ⟨σ7, H7, I7, q7⟩ := q7; exact ⟨σ7, H7, I7.unpinned, q7⟩
    | ret v => obtain ⟨x7, σ7, H7, I7, r7, q7⟩ := q7; exact ⟨x7, σ7, H7, I7.unpinned, r7, q7⟩
end
theorem for_list {K : PySem.W.Frag} {a : Addr} {xs : List V} {g : TG} {tb : TS} {D : Ends} {σ : St} {H : Hp} (Pv : Nat → St → Hp → Prop) (h0 : Pv 0 σ H) (hl : ∀ i σ H, i ≤ xs.length → Pv i σ H → SqL K H a xs)
    (hs : ∀ i x σ H, xs[i]? = some x → Pv i σ H → g x σ H fun σ2 H2 => tb { D with nx := Pv (i + 1), ct := Pv (i + 1), bk := D.nx } σ2 H2) (hd : ∀ σ H, Pv xs.length σ H → D.nx σ H) :
    ∃ W : Nat → Nat → St → Hp → Prop, (∃ m, W 0 m σ H) ∧ ∀ i m σ H, W i m σ H →
      ((Itl K a).stop i H ∧ D.nx σ H) ∨ ((Itl K a).go i H ∧ ∃ N : St → Hp → Prop, (∀ σ' H', N σ' H' → ∃ m', m' < m ∧ W (i + 1) m' σ' H') ∧ ∀ x H', (Itl K a).yld i H x H' → g x σ H' fun σ2 H2 => tb { D with nx := N, ct := N, bk := D.nx } σ2 H2) := by
  refine ⟨fun i m σ H => m = xs.length - i ∧ i ≤ xs.length ∧ Pv i σ H, ⟨xs.length, by simp, Nat.zero_le _, h0⟩, ?_⟩
  rintro i m σ H ⟨rfl, hi, p⟩
  have q := hl i σ H hi p
  by_cases hlt : i < xs.length
  · refine .inr ⟨⟨xs, xs[i], q, by simp [hlt]⟩, Pv (i + 1), fun σ' H' p' => ⟨xs.length - (i + 1), by omega, rfl, hlt, p'⟩, fun x H' y => ?_⟩
    obtain ⟨e, y⟩ := y
    subst e
    exact hs i x σ _ (y xs q) p
  · have e : i = xs.length := by omega
    subst e
    exact .inl ⟨⟨xs, q, Nat.le_refl _⟩, hd σ H p⟩
theorem for_tup {K : PySem.W.Frag} {a : Addr} {xs : List V} {g : TG} {tb : TS} {D : Ends} {σ : St} {H : Hp} (Pv : Nat → St → Hp → Prop) (h0 : Pv 0 σ H) (hl : ∀ i σ H, i ≤ xs.length → Pv i σ H → SqT K H a xs)
    (hs : ∀ i x σ H, xs[i]? = some x → Pv i σ H → g x σ H fun σ2 H2 => tb { D with nx := Pv (i + 1), ct := Pv (i + 1), bk := D.nx } σ2 H2) (hd : ∀ σ H, Pv xs.length σ H → D.nx σ H) :
    ∃ W : Nat → Nat → St → Hp → Prop, (∃ m, W 0 m σ H) ∧ ∀ i m σ H, W i m σ H →
      ((Itt K a).stop i H ∧ D.nx σ H) ∨ ((Itt K a).go i H ∧ ∃ N : St → Hp → Prop, (∀ σ' H', N σ' H' → ∃ m', m' < m ∧ W (i + 1) m' σ' H') ∧ ∀ x H', (Itt K a).yld i H x H' → g x σ H' fun σ2 H2 => tb { D with nx := N, ct := N, bk := D.nx } σ2 H2) := by
  refine ⟨fun i m σ H => m = xs.length - i ∧ i ≤ xs.length ∧ Pv i σ H, ⟨xs.length, by simp, Nat.zero_le _, h0⟩, ?_⟩
  rintro i m σ H ⟨rfl, hi, p⟩
  have q := hl i σ H hi p
  by_cases hlt : i < xs.length
  · refine .inr ⟨⟨xs, xs[i], q, by simp [hlt]⟩, Pv (i + 1), fun σ' H' p' => ⟨xs.length - (i + 1), by omega, rfl, hlt, p'⟩, fun x H' y => ?_⟩
    obtain ⟨e, y⟩ := y
    subst e
    exact hs i x σ _ (y xs q) p
  · have e : i = xs.length := by omega
    subst e
    exact .inl ⟨⟨xs, q, Nat.le_refl _⟩, hd σ H p⟩
theorem for_range {lo : Int} {n : Nat} {g : TG} {tb : TS} {D : Ends} {σ : St} {H : Hp} (Pv : Nat → St → Hp → Prop) (h0 : Pv 0 σ H)
    (hs : ∀ i σ H, i < n → Pv i σ H → g (.int (lo + i)) σ H fun σ2 H2 => tb { D with nx := Pv (i + 1), ct := Pv (i + 1), bk := D.nx } σ2 H2) (hd : ∀ σ H, Pv n σ H → D.nx σ H) :
    ∃ W : Nat → Nat → St → Hp → Prop, (∃ m, W 0 m σ H) ∧ ∀ i m σ H, W i m σ H →
      ((Itr lo n).stop i H ∧ D.nx σ H) ∨ ((Itr lo n).go i H ∧ ∃ N : St → Hp → Prop, (∀ σ' H', N σ' H' → ∃ m', m' < m ∧ W (i + 1) m' σ' H') ∧ ∀ x H', (Itr lo n).yld i H x H' → g x σ H' fun σ2 H2 => tb { D with nx := N, ct := N, bk := D.nx } σ2 H2) := by
  refine ⟨fun i m σ H => m = n - i ∧ i ≤ n ∧ Pv i σ H, ⟨n, by simp, Nat.zero_le _, h0⟩, ?_⟩
  rintro i m σ H ⟨rfl, hi, p⟩
  by_cases hlt : i < n
  · refine .inr ⟨hlt, Pv (i + 1), fun σ' H' p' => ⟨n - (i + 1), by omega, rfl, hlt, p'⟩, fun x H' y => ?_⟩
    obtain ⟨e, y⟩ := y
    subst e y
    exact hs i σ _ hlt p
  · have e : i = n := by omega
    subst e
    exact .inl ⟨Nat.le_refl _, hd σ H p⟩
end L2
namespace L2
open PySem PySem.Spec PyProof.Rows
abbrev R2 := V → V → Hp → VK → Prop
def OpR (X : Cx) (f : Value → Value → Sem Value) (r : R2) : Prop :=
  ∀ (pins : List (Addr × Obj)) (s : Shared) (σ : St) (H : Hp) (x y : V) (v u : Value) (Q : VK), Inv X pins σ H s → RelV x v → RelV y u → r x y H Q →
    wpAny (model X.prog X.w) X.A (f v u) (EP X pins σ Q) X.xe s
def UnR (X : Cx) (f : Value → Sem Value) (r : V → Hp → VK → Prop) : Prop :=
  ∀ (pins : List (Addr × Obj)) (s : Shared) (σ : St) (H : Hp) (x : V) (v : Value) (Q : VK), Inv X pins σ H s → RelV x v → r x H Q →
    wpAny (model X.prog X.w) X.A (f v) (EP X pins σ Q) X.xe s
def CallR (X : Cx) (f : Value) (r : List V → Hp → VK → Prop) : Prop :=
  ∀ (pins : List (Addr × Obj)) (s : Shared) (σ : St) (H : Hp) (xs : List V) (us : List Value) (Q : VK), Inv X pins σ H s → Vals xs us → r xs H Q →
    wpAny (model X.prog X.w) X.A (call f us) (EP X pins σ Q) X.xe s
def TruR (X : Cx) (r : V → Hp → (Bool → Hp → Prop) → Prop) : Prop :=
  ∀ (pins : List (Addr × Obj)) (s : Shared) (σ : St) (H : Hp) (x : V) (v : Value) (Q : Bool → Hp → Prop), Inv X pins σ H s → RelV x v → r x H Q →
    wpAny (model X.prog X.w) X.A (truthy v) (TP X pins σ Q) X.xe s
def tOp (r : R2) (ta tb : TE) : TE := fun σ H Q => ta σ H fun x H1 => tb σ H1 fun y H2 => r x y H2 Q
def tUn (r : V → Hp → VK → Prop) (ta : TE) : TE := fun σ H Q => ta σ H fun x H1 => r x H1 Q
def rI (C : Int → Int → Prop) (g : Int → Int → V) : R2 := fun x y H Q => ∃ i j, x = .int i ∧ y = .int j ∧ C i j ∧ Q (g i j) H
def rI0 (g : Int → Int → V) : R2 := fun x y H Q => ∃ i j, x = .int i ∧ y = .int j ∧ Q (g i j) H
def rU (g : Int → V) : V → Hp → VK → Prop := fun x H Q => ∃ i, x = .int i ∧ Q (g i) H
section
variable {X : Cx} {a b c : Expr} {ta tb tc : TE} {pos : Pos}
theorem binT (ha : PE X a ta) (hb : PE X b tb) {pins : List (Addr × Obj)} {s : Shared} {σ : St} {H : Hp} {R : V → V → Hp → Prop} (I : Inv X pins σ H s)
    (h : ta σ H fun x H1 => tb σ H1 fun y H2 => R x y H2) {Q : Value → Shared → Prop} {f : Value → Value → Sem Value}
    (hf : ∀ v u s2 x y H2, Inv X pins σ H2 s2 → RelV x v → RelV y u → R x y H2 → wpAny (model X.prog X.w) X.A (f v u) Q X.xe s2) :
    wpAny (model X.prog X.w) X.A (eval a X.env) (fun v s₁ => wpAny (model X.prog X.w) X.A (eval b X.env) (fun u s₂ => wpAny (model X.prog X.w) X.A (f v u) Q X.xe s₂) X.xe s₁) X.xe s := by
  refine thn (ha pins s σ H _ I h) fun v s1 ⟨x, H1, I1, r1, q1⟩ => ?_
  refine thn (hb pins s1 σ H1 _ I1 q1) fun u s2 ⟨y, H2, I2, r2, q2⟩ => ?_
  exact hf v u s2 x y H2 I2 r1 r2 q2
theorem pe_op {op : Operator} {r : R2} (ho : OpR X (binaryOp op) r) (ha : PE X a ta) (hb : PE X b tb) : PE X (.BinOp a op b pos) (tOp r ta tb) := by
  intro pins s σ H Q I h
  exact wpAny_BinOp (binT ha hb I h fun v u s2 x y H2 I2 rx ry q => ho pins s2 σ H2 x y v u Q I2 rx ry q)
theorem pe_un {op : UnaryOp} {r : V → Hp → VK → Prop} (ho : UnR X (unaryOp op) r) (ha : PE X a ta) : PE X (.UnaryOp op a pos) (tUn r ta) := by
  intro pins s σ H Q I h
  exact UnaryOp_ (thn (ha pins s σ H _ I h) fun v s1 ⟨x, H1, I1, r1, q1⟩ => ho pins s1 σ H1 x v Q I1 r1 q1)
theorem opI {f : Value → Value → Sem Value} {C : Int → Int → Prop} {g : Int → Int → Int}
    (rule : ∀ (i j : Int) (t u : Tok) (s : Shared) (Q : Value → Shared → Prop) (E : Value → Shared → Prop), C i j → Q (.int (g i j) s.toks) { s with toks := s.toks + 1 } → wpAny (model X.prog X.w) X.A (f (.int i t) (.int j u)) Q E s) :
    OpR X f (rI C fun i j => .int (g i j)) := by
  intro pins s σ H x y v u Q I rx ry h
  obtain ⟨i, j, rfl, rfl, hc, q⟩ := h
  obtain ⟨t, rfl⟩ := rx
  obtain ⟨t', rfl⟩ := ry
  exact rule i j t t' s _ _ hc ⟨.int (g i j), H, I.tok _, ⟨_, rfl⟩, q⟩
theorem opI0 {f : Value → Value → Sem Value} {g : Int → Int → Int}
    (rule : ∀ (i j : Int) (t u : Tok) (s : Shared) (Q : Value → Shared → Prop) (E : Value → Shared → Prop), Q (.int (g i j) s.toks) { s with toks := s.toks + 1 } → wpAny (model X.prog X.w) X.A (f (.int i t) (.int j u)) Q E s) :
    OpR X f (rI0 fun i j => .int (g i j)) := by
  intro pins s σ H x y v u Q I rx ry h
  obtain ⟨i, j, rfl, rfl, q⟩ := h
  obtain ⟨t, rfl⟩ := rx
  obtain ⟨t', rfl⟩ := ry
  exact rule i j t t' s _ _ ⟨.int (g i j), H, I.tok _, ⟨_, rfl⟩, q⟩
theorem opB0 {f : Value → Value → Sem Value} {g : Int → Int → Bool}
    (rule : ∀ (i j : Int) (t u : Tok) (s : Shared) (Q : Value → Shared → Prop) (E : Value → Shared → Prop), Q (.bool (g i j)) s → wpAny (model X.prog X.w) X.A (f (.int i t) (.int j u)) Q E s) :
    OpR X f (rI0 fun i j => .bl (g i j)) := by
  intro pins s σ H x y v u Q I rx ry h
  obtain ⟨i, j, rfl, rfl, q⟩ := h
  obtain ⟨t, rfl⟩ := rx
  obtain ⟨t', rfl⟩ := ry
  exact rule i j t t' s _ _ ⟨.bl (g i j), H, I, rfl, q⟩
def CDiv (i j : Int) : Prop := 0 < j ∧ j < 1073741824
def CMul (i j : Int) : Prop := (-(2 ^ 64) < i ∧ i < 2 ^ 64) ∨ (-(2 ^ 64) < j ∧ j < 2 ^ 64)
theorem CMul.ok {i j : Int} (h : CMul i j) : IntMulOk i j := by
  rcases h with ⟨h1, h2⟩ | ⟨h1, h2⟩
  · exact .of_left (intBits_le_64 h1 h2)
  · exact .of_right (intBits_le_64 h1 h2)
theorem op_add : OpR X (binaryOp .Add) (rI0 fun i j => .int (i + j)) := opI0 fun _ _ _ _ _ _ _ q => add_int q
theorem op_mul : OpR X (binaryOp .Mult) (rI CMul fun i j => .int (i * j)) := opI fun _ _ _ _ _ _ _ hc q => mul_int q hc.ok
theorem op_fdiv : OpR X (binaryOp .FloorDiv) (rI CDiv fun i j => .int (i / j)) := opI fun i j _ _ _ _ _ hc q => by
  have h1 : (0 : Int) < j := hc.1
  have h2 : j < 1073741824 := hc.2
  exact floordiv_int (by omega) (by rw [Int.fdiv_eq_ediv_of_nonneg i (by omega)]; exact q) (.inl (PyProof.noPylong_small (by omega)))
theorem op_mod : OpR X (binaryOp .Mod) (rI (fun _ j => 0 < j) fun i j => .int (i % j)) := opI fun i j _ _ _ _ _ hc q => by
  have h1 : (0 : Int) < j := hc
  exact mod_int' (by omega) (by rw [Int.fmod_eq_emod_of_nonneg i (by omega)]; exact q)
theorem unI {f : Value → Sem Value} {g : Int → Int}
    (rule : ∀ (i : Int) (t : Tok) (s : Shared) (Q : Value → Shared → Prop) (E : Value → Shared → Prop), Q (.int (g i) s.toks) { s with toks := s.toks + 1 } → wpAny (model X.prog X.w) X.A (f (.int i t)) Q E s) :
    UnR X f (rU fun i => .int (g i)) := by
  intro pins s σ H x v Q I rx h
  obtain ⟨i, rfl, q⟩ := h
  obtain ⟨t, rfl⟩ := rx
  exact rule i t s _ _ ⟨.int (g i), H, I.tok _, ⟨_, rfl⟩, q⟩
theorem un_neg : UnR X (unaryOp .USub) (rU fun i => .int (-i)) := unI fun _ _ _ _ _ q => neg_int q
end
def scal : V → V → Bool
  | .non, .non => true | .non, .int _ => true | .int _, .non => true | .non, .bl _ => true | .bl _, .non => true | .non, .str _ => true | .str _, .non => true
  | .int _, .int _ => true | .bl _, .bl _ => true | .str _, .str _ => true | .byt _, .byt _ => true
  | .int _, .str _ => true | .str _, .int _ => true | .bl _, .str _ => true | .str _, .bl _ => true
  | _, _ => false
def rEq : R2 := fun x y H Q => scal x y = true ∧ Q (.bl (decide (x = y))) H
theorem dec_int {i j : Int} : decide (V.int i = V.int j) = (i == j) := by
  rw [Bool.eq_iff_iff]
  simp
theorem dec_bl {i j : Bool} : decide (V.bl i = V.bl j) = (i == j) := by
  rw [Bool.eq_iff_iff]
  simp
theorem dec_str {i j : Str} : decide (V.str i = V.str j) = (i == j) := by
  rw [Bool.eq_iff_iff]
  simp
theorem dec_byt {i j : Array UInt8} : decide (V.byt i = V.byt j) = (i.toList == j.toList) := by
  rw [Bool.eq_iff_iff]
  cases i
  cases j
  simp
section
variable {X : Cx} {a b c : Expr} {ta tb tc : TE} {pos : Pos}
theorem fin_bl {pins : List (Addr × Obj)} {σ : St} {H : Hp} {s : Shared} {Q : VK} {k k' : Bool} (I : Inv X pins σ H s) (q : Q (.bl k) H) (e : k = k') : EP X pins σ Q (.bool k') s := by
  subst e
  exact ⟨.bl k, H, I, rfl, q⟩
theorem op_eq : OpR X (compareOp .Eq) rEq := by
  intro pins s σ H x y v u Q I rx ry h
  obtain ⟨hs, q⟩ := h
  cases x with
  | non =>
    cases rx
    cases y with
    | non => cases ry; exact PySem.EqNone.eq_none_none (fin_bl I q (by simp))
    | bl j => cases ry; exact PySem.EqNone.eq_none_bool (fin_bl I q (by simp))
    | int j => obtain ⟨t', rfl⟩ := ry; exact PySem.EqNone.eq_none_int (fin_bl I q (by simp))
    | str j => obtain ⟨t', rfl⟩ := ry; exact PySem.EqNone.eq_none_str (fin_bl I q (by simp))
    | _ => exact absurd (show false = true from hs) Bool.false_ne_true
  | bl i =>
    cases rx
    cases y with
    | non => cases ry; exact PySem.EqNone.eq_bool_none (fin_bl I q (by simp))
    | bl j => cases ry; exact eq_bool (fin_bl I q dec_bl)
    | str j => obtain ⟨t', rfl⟩ := ry; exact PySem.EqMixed.eq_bool_str (fin_bl I q (by simp))
    | _ => exact absurd (show false = true from hs) Bool.false_ne_true
  | int i =>
    obtain ⟨t, rfl⟩ := rx
    cases y with
    | non => cases ry; exact PySem.EqNone.eq_int_none (fin_bl I q (by simp))
    | int j => obtain ⟨t', rfl⟩ := ry; exact eq_int (fin_bl I q dec_int)
    | str j => obtain ⟨t', rfl⟩ := ry; exact PySem.EqMixed.eq_int_str (fin_bl I q (by simp))
    | _ => exact absurd (show false = true from hs) Bool.false_ne_true
  | str i =>
    obtain ⟨t, rfl⟩ := rx
    cases y with
    | non => cases ry; exact PySem.EqNone.eq_str_none (fin_bl I q (by simp))
    | bl j => cases ry; exact PySem.EqMixed.eq_str_bool (fin_bl I q (by simp))
    | int j => obtain ⟨t', rfl⟩ := ry; exact PySem.EqMixed.eq_str_int (fin_bl I q (by simp))
    | str j => obtain ⟨t', rfl⟩ := ry; exact eq_str (fin_bl I q dec_str)
    | _ => exact absurd (show false = true from hs) Bool.false_ne_true
  | byt i =>
    obtain ⟨t, rfl⟩ := rx
    cases y with
    | byt j => obtain ⟨t', rfl⟩ := ry; exact PySem.W.eq_bytes (fin_bl I q dec_byt)
    | _ => exact absurd (show false = true from hs) Bool.false_ne_true
  | _ => cases y <;> exact absurd (show false = true from hs) Bool.false_ne_true
theorem op_gt : OpR X (compareOp .Gt) (rI0 fun i j => .bl (decide (j < i))) := opB0 fun _ _ _ _ _ _ _ q => gt_int q
theorem nomark (b : Expr) {op : CmpOp} (h : op ≠ .In := by decide) (h2 : op ≠ .NotIn := by decide) : behindInMarks op b = false := by
  have e1 : (op == CmpOp.In) = false := by cases op <;> first | rfl | exact absurd rfl h
  have e2 : (op == CmpOp.NotIn) = false := by cases op <;> first | rfl | exact absurd rfl h2
  cases b <;> simp [behindInMarks, e1, e2]
theorem pe_cmpR {op : CmpOp} {r : R2} (ho : OpR X (compareOp op) r) (ha : PE X a ta) (hb : PE X b tb) (hm : behindInMarks op b = false) : PE X (.Compare a [op] [b] pos) (tOp r ta tb) := by
  intro pins s σ H Q I h
  exact wpAny_Compare1 (binT ha hb I h fun v u s2 x y H2 I2 rx ry q => ho pins s2 σ H2 x y v u Q I2 rx ry q) hm
def tTest (t : TE) : TT := fun σ H Q => t σ H fun x H' => ∃ k, x = .bl k ∧ Q k H'
theorem pt_cmpR {op : CmpOp} {r : R2} (ho : OpR X (compareOp op) r) (ha : PE X a ta) (hb : PE X b tb) (hm : behindInMarks op b = false) : PT X (.Compare a [op] [b] pos) (tTest (tOp r ta tb)) := by
  intro pins s σ H Q I h
  refine wpAny_isTrue_Compare1 (thn (ha pins s σ H _ I h) fun v s1 ⟨x, H1, I1, r1, q1⟩ => thn (hb pins s1 σ H1 _ I1 q1) fun u s2 ⟨y, H2, I2, r2, q2⟩ =>
    thn (ho pins s2 σ H2 x y v u _ I2 r1 r2 q2) fun c s3 ⟨z, H3, I3, r3, k, e, q3⟩ => ?_) hm
  subst e
  cases r3
  exact wpAny_truthy_bool ⟨H3, I3, q3⟩
def TruV (K : PySem.W.Frag) (x : V) (H : Hp) (k : Bool) : Prop :=
  match x with
  | .non => k = false
  | .bl b => k = b
  | .int i => k = (i != 0)
  | .str y => y.length ≤ sizeLine ∧ k = ((y.length : Int) != 0)
  | .byt y => y.size ≤ sizeLine ∧ k = ((y.size : Int) != 0)
  | .ref p => (∃ xs, SqL K H p xs ∧ k = !xs.isEmpty) ∨ (∃ xs, SqT K H p xs ∧ k = !xs.isEmpty) ∨ ∃ kvs, H p = some (.dK kvs) ∧ k = !kvs.isEmpty
  | _ => False
theorem isEmpty_kv {κ : Type} {kvs : List (κ × V)} {vs : List (κ × Value)} (r : KV kvs vs) : (!vs.isEmpty) = !kvs.isEmpty := by
  cases r <;> rfl
theorem isEmpty_of {xs : List V} {its : List Value} (r : Vals xs its) : (!its.toArray.isEmpty) = !xs.isEmpty := by
  cases r <;> simp
theorem line63 : (sizeLine : Nat) < 2 ^ 63 := by rw [sizeLine_eq]; decide
theorem tru_ok : TruR X (fun x H Q => ∃ k, TruV X.K x H k ∧ Q k H) := by
  intro pins s σ H x v Q I rx h
  obtain ⟨k, e, q⟩ := h
  have hl := line63
  have hs : sizeLine = 16777216 := sizeLine_eq
  cases x with
  | non =>
    cases rx
    have e' : k = false := e
    subst e'
    exact truthy_none ⟨H, I, q⟩
  | bl b =>
    cases rx
    have e' : k = b := e
    subst e'
    exact wpAny_truthy_bool ⟨H, I, q⟩
  | int i =>
    obtain ⟨t, rfl⟩ := rx
    have e' : k = (i != 0) := e
    subst e'
    exact PySem.P.truthy_int ⟨H, I, q⟩
  | str y =>
    obtain ⟨t, rfl⟩ := rx
    obtain ⟨hy, e'⟩ : y.length ≤ sizeLine ∧ k = ((y.length : Int) != 0) := e
    subst e'
    exact PySem.P.truthy_str (by omega) ⟨H, I.tok _, q⟩
  | byt y =>
    obtain ⟨t, rfl⟩ := rx
    obtain ⟨hy, e'⟩ : y.size ≤ sizeLine ∧ k = ((y.size : Int) != 0) := e
    subst e'
    exact PySem.W.truthy_bytes (by omega) ⟨H, I.tok _, q⟩
  | ref p =>
    cases rx
    have e' : (∃ xs, SqL X.K H p xs ∧ k = !xs.isEmpty) ∨ (∃ xs, SqT X.K H p xs ∧ k = !xs.isEmpty) ∨ ∃ kvs, H p = some (.dK kvs) ∧ k = !kvs.isEmpty := e
    rcases e' with ⟨xs, hx, e'⟩ | ⟨xs, hx, e'⟩ | ⟨kvs, hx, e'⟩
    · subst e'
      obtain ⟨its, r, pl, hz⟩ := I.list hx
      have hlen := r.length
      exact wpAny_truthy_list pl.isList (by simp only [List.size_toArray]; omega) ⟨H, I.tok _, by rw [isEmpty_of r]; exact q⟩
    · subst e'
      obtain ⟨its, r, pl, hz⟩ := I.tuple hx
      have hlen := r.length
      exact truthy_tuple pl (by simp only [List.size_toArray]; omega) ⟨H, I.tok _, by rw [isEmpty_of r]; exact q⟩
    · subst e'
      obtain ⟨hz, hS, vs, r, m⟩ : kvs.length ≤ sizeLine ∧ (p == sysModules) = false ∧ ∃ vs, KV kvs vs ∧ s.heap.DictOf (mixKind X.prog X.w) p vs := I.hok p _ hx
      have hlen : kvs.length = vs.length := Paired.length r
      exact wpAny_truthy_dict hS m (by omega) ⟨H, I.tok _, by rw [isEmpty_kv r]; exact q⟩
  | _ => exact (show False from e).elim
theorem pt_truth (ha : PE X a ta) (he : ∀ whole, isTrue a X.env whole = (do let v ← whole; standAt a.pos; holding [v] (truthy v))) :
    PT X a (fun σ H Q => ta σ H fun x H' => ∃ k, TruV X.K x H' k ∧ Q k H') := by
  intro pins s σ H Q I h
  exact isTrue_plain (thn (ha pins s σ H _ I h) fun v s1 ⟨x, H1, I1, r1, q1⟩ => tru_ok pins s1 σ H1 x v Q I1 r1 q1) (he _)
theorem vals1 {x : V} {us : List Value} (r : Vals [x] us) : ∃ u, us = [u] ∧ RelV x u := by
  cases r with
  | cons r1 r2 => cases r2; exact ⟨_, rfl, r1⟩
end
end L2
namespace L2
open PySem PySem.Spec PyProof.Rows
section
variable {prog : Program} {w : World} {A : Around} {E : Value → Shared → Prop} {s : Shared} {K : PySem.W.Frag} {x dx C f : Addr} {mA : Str → Option Value} {name : Str} {v : Value}
end
theorem RelO.some_of {v : V} {o : Option Value} (r : RelO (some v) o) : ∃ u, o = some u ∧ RelV v u := by
  cases o with
  | none => exact (show False from r).elim
  | some u => exact ⟨u, rfl, r⟩
section
variable {P : Program} {w : World} {H H' : Hp} {h h' : Heap} {a C dx : Addr} {fs fs' : List (Str × V)}
end
structure Cls (K : PySem.W.Frag) (C : Addr) : Prop where
  pg : PySem.W.plainGet K C Str.empty = true
  hd : PySem.W.hasDictIn K C = true
  po : PySem.W.plainOver K C = true
  sa : PySem.W.findIn K (.ref C) "__setattr__" = some (some (.builtin "object.__setattr__"))
theorem Cls.get {K : PySem.W.Frag} {C : Addr} (c : Cls K C) (f : Str) : PySem.W.plainGet K C f = true := c.pg
section
variable {X : Cx} {pins : List (Addr × Obj)} {σ : St} {H : Hp} {s : Shared} {a C dx : Addr} {fs : List (Str × V)} {f : Str} {v : V} {A : Around} {E : Value → Shared → Prop}
end
section
variable {X : Cx} {o e value : Expr} {f : Str} {pos pos' tpos : Pos} {ta tv : TE}
end
section
variable {X : Cx} {pins : List (Addr × Obj)} {σ : St} {H : Hp} {s : Shared} {A : Around} {E : Value → Shared → Prop} {Q : Value → Shared → Prop} {c : Value} {b : Bool}
end
end L2
namespace L2
open PySem PySem.Spec PyProof.Rows
structure Room (k : Nat) (A : Around) : Prop where
  hd : A.handled = none
  dp : A.depth + 3 * k + 5 < recursionLimit
  un : A.units + 16 * k + 200 < cLine
theorem Room.mono {j k : Nat} {A : Around} (r : Room k A) (h : j ≤ k) : Room j A := ⟨r.hd, by have := r.dp; omega, by have := r.un; omega⟩
theorem Room.deeper {k : Nat} {A : Around} (r : Room (k + 1) A) (env : Env) : Room k (A.deeper env) :=
  ⟨r.hd, by have := r.dp; show A.depth + 1 + 3 * k + 5 < _; omega, by have := r.un; show A.units + 3 + 16 * k + 200 < _; omega⟩
theorem Room.depth {k : Nat} {A : Around} (r : Room k A) : A.depth < recursionLimit := by have := r.dp; omega
theorem Room.units {k : Nat} {A : Around} (r : Room k A) : A.units + 64 < cLine := by have := r.un; omega
def tNil : TA := fun _ H Q => Q [] H
def tCons (ta : TE) (tr : TA) : TA := fun σ H Q => ta σ H fun x H1 => tr σ H1 fun xs H2 => Q (x :: xs) H2
section
variable {X : Cx} {e : Expr} {es : List Expr} {te : TE} {t : TA} {pos : Pos}
theorem pa_nil : PA X [] tNil := fun _ _ _ _ H Q I h => Calls.spliced_nil ⟨[], H, I, .nil, h⟩
theorem pa_cons (ha : PE X e te) (hr : PA X es t) (hs : starEach (e :: es) X.env = (false, eval e X.env) :: starEach es X.env := by rfl) : PA X (e :: es) (tCons te t) := by
  intro pos pins s σ H Q I h
  rw [hs]
  show wpAny _ _ (spliced ((false, eval e X.env) :: backTo pos (starEach es X.env))) _ _ s
  refine Calls.spliced_cons (thn (ha pins s σ H _ I h) fun u s1 ⟨x, H1, I1, r1, q1⟩ => ?_)
  exact thn (hr pos pins s1 σ H1 _ I1 q1) fun us s2 ⟨xs, H2, I2, r2, q2⟩ => ⟨x :: xs, H2, I2, .cons r1 r2, q2⟩
def tTup (t : TA) : TE := fun σ H Q => t σ H fun xs H1 => xs.length ≤ sizeLine ∧ ∀ p, H1 p = none → Q (.ref p) (upd H1 p (.tup xs))
def tLst (t : TA) : TE := fun σ H Q => t σ H fun xs H1 => xs.length ≤ sizeLine ∧ ∀ p, H1 p = none → Q (.ref p) (upd H1 p (.lst xs))
theorem pe_tup {x1} (h : PA X es t) : PE X (.Tuple es x1 pos) (tTup t) := by
  intro pins s σ H Q I hq
  refine wpAny_Tuple_spliced (thn (h pos pins s σ H _ I hq) fun us s1 ⟨xs, H1, I1, r, z, q⟩ => ⟨by rw [← r.length]; exact z, ?_⟩)
  have hf : H1 s1.heap.objs.size = none := I1.hok.fresh (Nat.le_refl _)
  refine ⟨.ref s1.heap.objs.size, upd H1 s1.heap.objs.size (.tup xs), I1.laid (t' := s1.toks) (fun b u e => Heap.get?_push_of_some _ e) (Nat.le_refl _) ?_, rfl, q _ hf⟩
  exact ⟨z, us, r, ⟨⟨_, Heap.get?_push_size _ rfl, rfl, _, rfl⟩, _, Heap.get?_push_size _ rfl, rfl⟩⟩
theorem pe_lst (h : PA X es t) : PE X (.List es pos) (tLst t) := by
  intro pins s σ H Q I hq
  refine wpAny_List_spliced (thn (h pos pins s σ H _ I hq) fun us s1 ⟨xs, H1, I1, r, z, q⟩ => ⟨by rw [← r.length]; exact z, ?_⟩)
  have hf : H1 s1.heap.objs.size = none := I1.hok.fresh (Nat.le_refl _)
  refine ⟨.ref s1.heap.objs.size, upd H1 s1.heap.objs.size (.lst xs), I1.laid (t' := s1.toks) (fun b u e => Heap.get?_push_of_some _ e) (Nat.le_refl _) ?_, rfl, q _ hf⟩
  exact ⟨z, us, 0, r, Heap.get?_push_size _ rfl⟩
end
abbrev Sp := List V → Hp → VK → XK → Prop
abbrev CXT := List Env → Hp → Shared → XK → Value → Shared → Prop
structure Env0 (P : Program) (w : World) (K : PySem.W.Frag) (mg : Str → Option Value) (base : Heap) (A : Around) (outer : List Env) (s : Shared) (H : Hp) : Prop where
  frames : A.frames = some outer
  mod : Mod K mg base
  bs : ∀ b o, base.get? b = some o → s.heap.get? b = some o ∧ H b = none
  bsz : base.objs.size ≤ s.heap.objs.size
  funs : s.heap.FunFrames base outer
  frf : ∀ b ∈ frs outer, H b = none
  hok : HOk P w H s.heap
  bare : AllBare s.gens
def CE (outer : List Env) (P : Program) (w : World) (H : Hp) (s : Shared) (Q : VK) (u : Value) (s' : Shared) : Prop :=
  ∃ v H', s'.os = s.os ∧ AllBare s'.gens ∧ Un (frs outer) [] H H' s.heap s'.heap ∧ HOk P w H' s'.heap ∧ RelV v u ∧ Q v H'
def CR (CX : CXT) (outer : List Env) (P : Program) (w : World) (H : Hp) (s : Shared) (Q : VK) (E : XK) (r : Result) (s' : Shared) : Prop :=
  match r with
  | .ok (.ret u) => CE outer P w H s Q u s'
  | .ok _ => False
  | .error e => CX outer H s E e s'
structure FnOk (P : Program) (w : World) (K : PySem.W.Frag) (mg : Str → Option Value) (base : Heap) (CX : CXT) (k : Nat) (f : Addr) (fd : FuncData) (ps : List Str) (sp : Sp) : Prop where
  len : ∀ vs H Q E, sp vs H Q E → vs.length = ps.length
  run : ∀ (A : Around) (outer : List Env) (s : Shared) (H : Hp) (args : Args) (us : List Value) (vs : List V) (Q : VK) (E : XK), Room k A → Env0 P w K mg base A outer s H → BindsTo s fd args (ps.zip us) → Vals vs us → sp vs H Q E →
    codeAny (model P w) A (.call (.ref f) args) (CR CX outer P w H s Q E) s
theorem FnOk.mono {P : Program} {w : World} {K : PySem.W.Frag} {mg : Str → Option Value} {base : Heap} {CX : CXT} {j k : Nat} {f : Addr} {fd : FuncData} {ps : List Str} {sp : Sp} (F : FnOk P w K mg base CX j f fd ps sp) (h : j ≤ k) :
    FnOk P w K mg base CX k f fd ps sp := ⟨F.len, fun A outer s H args us vs Q E hr => F.run A outer s H args us vs Q E (hr.mono h)⟩
theorem FnOk.imp {P : Program} {w : World} {K : PySem.W.Frag} {mg : Str → Option Value} {base : Heap} {CX : CXT} {k : Nat} {f : Addr} {fd : FuncData} {ps : List Str} {sp sp' : Sp} (F : FnOk P w K mg base CX k f fd ps sp)
    (h : ∀ vs H Q E, sp' vs H Q E → sp vs H Q E) : FnOk P w K mg base CX k f fd ps sp' :=
  ⟨fun vs H Q E q => F.len vs H Q E (h _ _ _ _ q), fun A outer s H args us vs Q E hr he hb hv hs => F.run A outer s H args us vs Q E hr he hb hv (h _ _ _ _ hs)⟩
section
variable {X : Cx} {pins : List (Addr × Obj)} {σ : St} {H : Hp} {s s' : Shared}
theorem Inv.env0 (I : Inv X pins σ H s) : Env0 X.prog X.w X.K X.mg X.base X.A X.stack s H :=
  ⟨I.ok.frames, I.ok.mod, I.bs, Nat.le_trans I.ok.bsz I.sz, I.stack, I.stkFree, I.hok, I.bare⟩
theorem Inv.after {Q : VK} {u : Value} (I : Inv X pins σ H s) (h : CE X.stack X.prog X.w H s Q u s') : EP X pins σ Q u s' := by
  obtain ⟨v, H', os, bare, un, hok, r, q⟩ := h
  obtain ⟨hh, g, d, t, os'⟩ := s'
  obtain rfl : os' = s.os := os
  exact ⟨v, H', I.call (h' := hh) (g' := g) (d' := d) (t' := t) (ch := []) un hok bare (fun b z => absurd z (by simp)), r, q⟩
end
def tCall (sp : Sp) (dvs : List V) (E : XK) (t : TA) : TE := fun σ H Q => t σ H fun vs H1 => sp (vs ++ dvs) H1 Q E
def Binds (K : PySem.W.Frag) (fd : FuncData) (ps : List Str) (ds : List Value) : Prop :=
  ∀ (s : Shared) (us : List Value), K.In s.heap → (us ++ ds).length = ps.length → BindsTo s fd ⟨us, []⟩ (ps.zip (us ++ ds))
theorem Binds.all {K : PySem.W.Frag} {fd : FuncData} {ps : List Str} (h : ∀ us : List Value, us.length = ps.length → bindArgs fd ⟨us, []⟩ = pure (ps.zip us)) : Binds K fd ps [] := fun s us _ hl => by
  rw [List.append_nil] at hl ⊢
  exact .of_eq (h us hl)
def Passes (CX : CXT) (X : Cx) (E : XK) : Prop := ∀ (pins : List (Addr × Obj)) (σ : St) (H : Hp) (s : Shared) (e : Value) (s' : Shared), Inv X pins σ H s → CX X.stack H s E e s' → X.xe e s'
section
variable {X : Cx} {CX : CXT} {k : Nat} {f C : Addr} {fd : FuncData} {ps : List Str} {sp : Sp} {dvs : List V} {ds : List Value} {E : XK} {x m : Str} {p pos apos : Pos} {e o : Expr} {es : List Expr} {ta : TE} {t : TA}
theorem run_fn {pins : List (Addr × Obj)} {σ : St} {H : Hp} {s : Shared} {Q : VK} {us : List Value} {vs : List V} (F : FnOk X.prog X.w X.K X.mg X.base CX k f fd ps sp) (hr : Room k X.A) (hb : Binds X.K fd ps ds) (hd : Vals dvs ds) (hx : Passes CX X E)
    (I : Inv X pins σ H s) (r : Vals vs us) (h : sp (vs ++ dvs) H Q E) : wpAny (model X.prog X.w) X.A (call (.ref f) us) (EP X pins σ Q) X.xe s := by
  have r2 : Vals (vs ++ dvs) (us ++ ds) := r.append hd
  have hl : (us ++ ds).length = ps.length := by rw [← r2.length]; exact F.len _ _ _ _ h
  refine wpAny_call (codeAny_mono (F.run X.A X.stack s H ⟨us, []⟩ (us ++ ds) (vs ++ dvs) Q E hr I.env0 (hb s us I.kIn hl) r2 h) fun r s' hq => ?_)
  cases r with
  | error e => exact hx pins σ H s e s' I hq
  | ok fl =>
    cases fl with
    | ret u => exact I.after hq
    | next => exact False.elim hq
    | brk => exact False.elim hq
    | cont => exact False.elim hq
theorem pe_call (F : FnOk X.prog X.w X.K X.mg X.base CX k f fd ps sp) (hr : Room k X.A) (hg : Gl X x) (hm : X.mg x = some (.ref f)) (hk : PySem.W.keepIn X.K (.ref f) = true) (hb : Binds X.K fd ps ds) (hd : Vals dvs ds) (hx : Passes CX X E)
    (ha : PA X (e :: es) t) (hdb : (x == ("__debug__" : Str)) = false := by decide) (he : starEach (e :: es) X.env = (false, eval e X.env) :: starEach es X.env := by rfl) (hpl : (backTo pos (starEach es X.env)).any (·.1) = false := by rfl) :
    PE X (.Call (.Name x p) (e :: es) [] pos) (tCall sp dvs E t) := by
  intro pins s σ H Q I h
  refine wpAny_Call_Name_kw (ld_glob I hg hm ?_ hdb)
  refine PySem.W.callWith_K (h₀ := X.base) I.ok.mod.kin hk (thn (ha pos pins s σ H _ I h) fun us s1 ⟨vs, H1, I1, r, q⟩ => ⟨I1.kIn, ?_⟩) he hpl
  exact run_fn F hr hb hd hx I1 r q
end
section
variable {X : Cx} {CX : CXT} {k : Nat} {f C : Addr} {fd : FuncData} {ps ks : List Str} {sp : Sp} {E : XK} {x m : Str} {p pos apos kpos : Pos} {e o : Expr} {es : List Expr} {kws : List Keyword} {te ta : TE} {t tk : TA} {nm : Option Str}
variable {g : List Value → List Value → List Value} {gV : List V → List V → List V}
end
structure FnScope (N P : List Str) (sc : Scope) : Prop where
  kind : sc.kind = .function
  co : sc.isCoroutine = false
  gen : sc.isGenerator = false
  nd : N.Nodup
  pre : N.take P.length = P
  par : ∀ x ∈ P, sc.names.lookup x = some .local ∨ sc.names.lookup x = some .cell
  nofree : ∀ y ∈ sc.names, y.2 ≠ .free
theorem bindL_out {kindOf : Str → Option NameKind} {x : Str} : ∀ {binds : List (Str × Value)} {m : Str → Option Value}, (∀ v, (x, v) ∉ binds) → bindL kindOf binds m x = m x
  | [], _, _ => rfl
  | (n, v) :: r, m, h => by
    unfold bindL
    rw [bindL_out fun w hw => h w (List.mem_cons_of_mem _ hw)]
    split
    · have : x ≠ n := by rintro rfl; exact h v List.mem_cons_self
      simp [this]
    · rfl
theorem bindC_out {kindOf : Str → Option NameKind} {x : Str} : ∀ {binds : List (Str × Value)} {m : Str → Option Value}, (∀ v, (x, v) ∉ binds) → bindC kindOf binds m x = m x
  | [], _, _ => rfl
  | (n, v) :: r, m, h => by
    unfold bindC
    rw [bindC_out fun w hw => h w (List.mem_cons_of_mem _ hw)]
    split
    · rfl
    · have : x ≠ n := by rintro rfl; exact h v List.mem_cons_self
      simp [this]
theorem bindL_get {kindOf : Str → Option NameKind} {x : Str} {v : Value} : ∀ {P : List Str} {vs : List Value} {i : Nat} {m : Str → Option Value}, P.Nodup → P[i]? = some x → vs[i]? = some v → kindOf x = some .local →
    bindL kindOf (P.zip vs) m x = some v
  | [], _, _, _, _, h, _, _ => by simp at h
  | _ :: _, [], _, _, _, _, h, _ => by simp at h
  | p :: P, w :: vs, 0, m, nd, h1, h2, hk => by
    simp at h1 h2; subst h1; subst h2
    show bindL kindOf ((p, w) :: P.zip vs) m p = _
    unfold bindL
    rw [bindL_out fun v hv => (List.nodup_cons.mp nd).1 (List.of_mem_zip hv).1, if_pos hk]
    simp
  | p :: P, w :: vs, i + 1, m, nd, h1, h2, hk => by
    show bindL kindOf ((p, w) :: P.zip vs) m x = _
    unfold bindL
    exact bindL_get (i := i) (List.nodup_cons.mp nd).2 (by simpa using h1) (by simpa using h2) hk
theorem bindC_get {kindOf : Str → Option NameKind} {x : Str} {v : Value} : ∀ {P : List Str} {vs : List Value} {i : Nat} {m : Str → Option Value}, P.Nodup → P[i]? = some x → vs[i]? = some v → kindOf x ≠ some .local →
    bindC kindOf (P.zip vs) m x = some v
  | [], _, _, _, _, h, _, _ => by simp at h
  | _ :: _, [], _, _, _, _, h, _ => by simp at h
  | p :: P, w :: vs, 0, m, nd, h1, h2, hk => by
    simp at h1 h2; subst h1; subst h2
    show bindC kindOf ((p, w) :: P.zip vs) m p = _
    unfold bindC
    rw [bindC_out fun v hv => (List.nodup_cons.mp nd).1 (List.of_mem_zip hv).1, if_neg hk]
    simp
  | p :: P, w :: vs, i + 1, m, nd, h1, h2, hk => by
    show bindC kindOf ((p, w) :: P.zip vs) m x = _
    unfold bindC
    exact bindC_get (i := i) (List.nodup_cons.mp nd).2 (by simpa using h1) (by simpa using h2) hk
def start (N : List Str) (vs : List V) : St := vs.map some ++ List.replicate (N.length - vs.length) none
def cxOf (CX : CXT) (P : Program) (w : World) (K : PySem.W.Frag) (mg : Str → Option Value) (base : Heap) (N : List Str) (qual : Str) (scope : Scope) (f : Addr) (cd : Value) (A : Around) (outer : List Env) (s : Shared) (H : Hp) (E : XK) : Cx where
  prog := P
  w := w
  K := K
  mg := mg
  base := base
  A := A.deeper (envOfC qual scope s.heap.objs.size f cd)
  N := N
  s₀ := s
  H₀ := H
  env := envOfC qual scope s.heap.objs.size f cd
  outer := outer
  stack := envOfC qual scope s.heap.objs.size f cd :: outer
  ex := []
  calm := true
  fn := fun _ => true
  pn := []
  xe := fun e s' => wpAny (model P w) (A.deeper (envOfC qual scope s.heap.objs.size f cd)) (leaving (envOfC qual scope s.heap.objs.size f cd) e) (fun _ s'' => CX outer H s E e s'') (fun e' s'' => CX outer H s E e' s'') s'
theorem cell_has {sc : Scope} {n : Nat} {x : Str} (h : sc.names.lookup x = some .cell) : ∃ c, (cellsFrom n sc.names []).lookup x = some c := by
  have q := PySem.W.cellsFrom_some sc.names n [] (.inl h)
  exact Option.isSome_iff_exists.mp q
theorem inv_start {CX : CXT} {P : Program} {w : World} {K : PySem.W.Frag} {mg : Str → Option Value} {base : Heap} {N ps : List Str} {qual : Str} {scope : Scope} {f : Addr} {cd : Value} {A : Around} {outer : List Env} {s s1 : Shared} {H : Hp} {E : XK} {us : List Value} {vs : List V}
    (S : FnScope N ps scope) (hd : A.handled = none) (e0 : Env0 P w K mg base A outer s H) (hl : vs.length = ps.length) (r : Vals vs us)
    (x : InCallC s s.heap.objs.size (bindL (envOfC qual scope s.heap.objs.size f cd).kindOf (ps.zip us) fun _ => none) (cellsFrom (s.heap.objs.size + 1) scope.names []) (bindC (envOfC qual scope s.heap.objs.size f cd).kindOf (ps.zip us) fun _ => none) s1) :
    Inv (cxOf CX P w K mg base N qual scope f cd A outer s H E) [] (start N vs) H s1 := by
  have hpl : ps.length ≤ N.length := by have := congrArg List.length S.pre; rw [List.length_take] at this; omega
  obtain ⟨h1, tk, rfl, hk⟩ := x.done
  have noA : ∀ b : Addr, b ∉ (cxOf CX P w K mg base N qual scope f cd A outer s H E).ex := fun b z => absurd (show b ∈ ([] : List Addr) from z) (by simp)
  refine ⟨⟨e0.mod, S.kind, rfl, rfl, Nat.le_refl _, fun y z c h1 h2 => ?_, fun y hy => ?_, fun y c _ h => ?_, fun _ => hd, Around.frames_deeper e0.frames, .inr ⟨rfl, rfl⟩, fun b z => absurd z (noA b), e0.bs, e0.bsz, fun b _ _ => noA b, fun b z => absurd z (noA b), e0.funs, e0.frf⟩,
    rfl, e0.bare, Un.kept hk, ⟨_, x.toInCall.ns, fun i y v h1 h2 h3 => ?_⟩, fun y c h => ⟨_, x.cell y c h⟩, e0.hok.fresh (Nat.le_refl _), fun y c h => ?_, fun p hp => absurd (show p ∈ ([] : List (Addr × Obj)) from hp) (by simp), e0.hok.kept hk, ?_⟩
  · exact name_of_addr x.apart (PySem.mem_of_lookup h1) (PySem.mem_of_lookup h2)
  · have hy : scope.names.lookup y = some .cell ∨ scope.names.lookup y = some .free := hy
    rcases hy with hy | hy
    · exact cell_has hy
    · exact absurd rfl (S.nofree _ (PySem.mem_of_lookup hy))
  · exact Nat.le_of_lt (x.above y c (PySem.mem_of_lookup h))
  · have hi : i < vs.length := by
      unfold start at h2
      by_cases hi : i < vs.length
      · exact hi
      · rw [List.getElem?_append_right (by simpa using hi)] at h2
        rw [List.getElem?_replicate] at h2
        split at h2 <;> cases h2
    have ha : vs[i]? = some v := by
      unfold start at h2
      rw [List.getElem?_append_left (by simpa using hi), List.getElem?_map] at h2
      cases e : vs[i]? with
      | none => rw [e] at h2; cases h2
      | some a => rw [e] at h2; cases h2; rfl
    obtain ⟨u, hu, rv⟩ := r.get ha
    have hp : ps[i]? = some y := by
      rw [← S.pre, List.getElem?_take_of_lt (by omega)]; exact h1
    have ndP : ps.Nodup := by rw [← S.pre]; exact S.nd.sublist (List.take_sublist _ _)
    refine ⟨u, rv, ?_⟩
    rcases S.par y (List.mem_of_getElem? hp) with k | k
    · exact .inl ⟨k, bindL_get ndP hp hu k⟩
    · obtain ⟨c, e⟩ := cell_has (n := s.heap.objs.size + 1) k
      refine .inr ⟨.inl k, c, e, ?_⟩
      have q := x.cell y c e
      rw [bindC_get ndP hp hu (by show scope.names.lookup y ≠ _; rw [k]; decide)] at q
      exact q
  · exact e0.hok.fresh (Nat.le_of_lt (x.above y c (PySem.mem_of_lookup h)))
  · unfold start
    show _ = N.length
    rw [List.length_append, List.length_map, List.length_replicate]
    omega
theorem fn_of {CX : CXT} {P : Program} {w : World} {K : PySem.W.Frag} {mg : Str → Option Value} {base : Heap} {k : Nat} {f : Addr} {name qual : Str} {params : Arguments} {body : List Stmt} {scope : Scope} {dV kV doc pm cdv ct oc : Value} {an od : Option Addr}
    {osl : Array (Option Value)} {N ps : List Str} {sp : Sp} (lk : K.lookup f = some ⟨oc, od, .func (PySem.W.fnOf name qual params body scope dV kV doc pm an cdv ct), osl⟩) (hcd : PySem.W.codeIn K cdv qual = true) (S : FnScope N ps scope)
    (len : ∀ vs H Q E, sp vs H Q E → vs.length = ps.length)
    (hbody : ∀ (A : Around) (outer : List Env) (s : Shared) (H : Hp) (vs : List V) (Q : VK) (E : XK), Room k (A.deeper (envOfC qual scope s.heap.objs.size f cdv)) → sp vs H Q E →
      ∃ t, PSs (cxOf CX P w K mg base N qual scope f cdv A outer s H E) body t ∧ t { nx := fun _ H' => Q .non H', rt := Q } (start N vs) H) :
    FnOk P w K mg base CX (k + 1) f (PySem.W.fnOf name qual params body scope dV kV doc pm an cdv ct) ps sp := by
  refine ⟨len, fun A outer s H args us vs Q E hr e0 hb r hsp => ?_⟩
  have hl := len _ _ _ _ hsp
  have KX : K.In s.heap := e0.mod.kin.keeps fun b o e => (e0.bs b o e).1
  have lim : s.heap.NoLimit := e0.mod.nolimit.keeps fun b o e => (e0.bs b o e).1
  have hkind : ∀ y ∈ ps.zip us, scope.names.lookup y.1 = some .local ∨ (scope.names.lookup y.1 = some .cell ∧ ((cellsFrom (s.heap.objs.size + 1) scope.names []).lookup y.1).isSome = true) := fun ⟨n, v⟩ hy => by
    rcases S.par n (List.of_mem_zip hy).1 with q | q
    · exact .inl q
    · exact .inr ⟨q, PySem.W.cellsFrom_some _ _ _ (.inl q)⟩
  refine codeAny_call_function hr.depth (KX _ _ lk) rfl S.co S.gen rfl (PySem.W.codeRec_of KX hcd) (hb _ _ _ _ ?_)
  refine wpAny_newFunctionEnv_cells S.kind hkind fun env he s1 x => ?_
  subst he
  refine ⟨lim.keeps x.toInCall.keep, codeAny_func ?_⟩
  obtain ⟨t, ht, hq⟩ := hbody A outer s H vs Q E (hr.deeper _) hsp
  have I : Inv (cxOf CX P w K mg base N qual scope f cdv A outer s H E) [] (start N vs) H s1 := inv_start S hr.hd e0 hl r x
  refine wpAny_mono (ht [] s1 (start N vs) H _ I hq) (fun fl s' hs => ?_) fun e s' hs => hs
  have fin : ∀ {σ' : St} {H' : Hp} {v : V} {u : Value}, Inv (cxOf CX P w K mg base N qual scope f cdv A outer s H E) [] σ' H' s' → RelV v u → Q v H' → CE outer P w H s Q u s' :=
    fun {σ' H' v u} J rv q => ⟨v, H', J.os, J.bare, J.base, J.hok, rv, q⟩
  cases fl with
  | ret u =>
    obtain ⟨v, σ', H', J, rv, q⟩ := hs
    exact fin J rv q
  | next =>
    obtain ⟨σ', H', J, q⟩ := hs
    exact fin (v := V.non) (u := Value.none) J rfl q
  | brk =>
    obtain ⟨_, _, _, q⟩ := hs
    exact False.elim q
  | cont =>
    obtain ⟨_, _, _, q⟩ := hs
    exact False.elim q
end L2
namespace L2
open PySem PySem.Spec PyProof.Rows
section
variable {X : Cx} {x : Str} {p pos : Pos} {e : Expr} {es : List Expr} {t : TA} {id T : String} {r : List V → Hp → VK → Prop}
def tCB (r : List V → Hp → VK → Prop) (t : TA) : TE := fun σ H Q => t σ H fun vs H1 => r vs H1 Q
theorem pe_callB (hc : CallR X (.builtin id) r) (hg : Gl X x) (hm : X.mg x = none) (hv : bootBuiltins x = some (.builtin id)) (ha : PA X (e :: es) t) (hn : x ≠ "__name__" := by decide) (hdb : (x == ("__debug__" : Str)) = false := by decide)
    (he : starEach (e :: es) X.env = (false, eval e X.env) :: starEach es X.env := by rfl) (hpl : (backTo pos (starEach es X.env)).any (·.1) = false := by rfl) : PE X (.Call (.Name x p) (e :: es) [] pos) (tCB r t) := by
  intro pins s σ H Q I h
  refine wpAny_Call_Name_kw (ld_blt I hg hm hv ?_ hn hdb)
  exact PyProof.Rows.callWith_builtin1 (thn (ha pos pins s σ H _ I h) fun us s1 ⟨vs, H1, I1, r1, q1⟩ => hc pins s1 σ H1 vs us Q I1 r1 q1) he hpl
theorem pe_callTy (hc : CallR X (.type T) r) (hg : Gl X x) (hm : X.mg x = none) (hv : bootBuiltins x = some (.type T)) (ha : PA X (e :: es) t) (hn : x ≠ "__name__" := by decide) (hdb : (x == ("__debug__" : Str)) = false := by decide)
    (he : starEach (e :: es) X.env = (false, eval e X.env) :: starEach es X.env := by rfl) (hpl : (backTo pos (starEach es X.env)).any (·.1) = false := by rfl) : PE X (.Call (.Name x p) (e :: es) [] pos) (tCB r t) := by
  intro pins s σ H Q I h
  refine wpAny_Call_Name_kw (ld_blt I hg hm hv ?_ hn hdb)
  exact PyProof.Rows.callWith_type1 (thn (ha pos pins s σ H _ I h) fun us s1 ⟨vs, H1, I1, r1, q1⟩ => hc pins s1 σ H1 vs us Q I1 r1 q1) he hpl
end
end L2
namespace HT
open PySem PyProof.Rows
section
open PySem.SeqAt
open PySem.AutoSeq1 (wpAny_loadPart')
open PySem.MeetsSeq PySem.MeetsSeq2 PySem.MeetsSeq3
end
section
variable {prog : Program} {w : World} {A : Around} {E : Value → Shared → Prop} {s : Shared}
theorem cat_tup {t b : Addr} {vs ws : List Value} {Q : Value → Shared → Prop} (ht : IsTup s.heap t vs.toArray) (hb : IsTup s.heap b ws.toArray) (hv : vs ≠ [])
    (h1 : ws = [] → Q (.ref t) s) (h2 : ws ≠ [] → Q (.ref s.heap.objs.size) { s with heap := s.heap.push { cls := .type "tuple", data := .seq (vs ++ ws).toArray } })
    (hsz : vs.length + ws.length ≤ sizeLine) : wpAny (model prog w) A (binaryOp .Add (.ref t) (.ref b)) Q E s := by
  obtain ⟨⟨cls, dd, data, sl⟩, ho, hc, n, hd⟩ := id ht
  obtain ⟨⟨cls2, dd2, data2, sl2⟩, ho2, hc2, n2, hd2⟩ := id hb
  simp only at hc hd hc2 hd2
  subst hc hd hc2 hd2
  have e : vs.toArray ++ ws.toArray = (vs ++ ws).toArray := by simp
  by_cases hw : ws = []
  · exact concat_meets ⟨_, ho, rfl⟩ ⟨_, ho2, rfl⟩ noFill_tuple_add seq_tuple_add PySem.F.slot_tuple_add PySem.F.entry_tuple_add (PySem.F.args_tuple_add_2 _ _)
      (tuple_addW1 t b vs.toArray ws.toArray n n2 dd dd2 sl sl2 (by simpa using hv) (by simp [hw])) ⟨ho, ho2, h1 hw⟩
  · refine concat_meets ⟨_, ho, rfl⟩ ⟨_, ho2, rfl⟩ noFill_tuple_add seq_tuple_add PySem.F.slot_tuple_add PySem.F.entry_tuple_add (PySem.F.args_tuple_add_2 _ _)
      (tuple_addW2 t b vs.toArray ws.toArray n n2 dd dd2 sl sl2 (by simpa using hv) (by simpa using hw) (by rw [List.size_toArray, List.size_toArray]; exact hsz)) ⟨ho, ho2, ?_⟩
    rw [e]
    exact h2 hw
def sIx (n d : Nat) : Option Int → Nat
  | none => d
  | some v => if v < 0 then (v + (n : Int)).toNat else min v.toNat n
theorem sIx_le (n d : Nat) (hd : d ≤ n) (o : Option Int) : sIx n d o ≤ n := by
  cases o with
  | none => exact hd
  | some v =>
    show (if v < 0 then (v + (n : Int)).toNat else min v.toNat n) ≤ n
    by_cases hv : v < 0
    · rw [if_pos hv]; omega
    · rw [if_neg hv]; exact Nat.min_le_right _ _
theorem clip_eq (v : Int) (n d : Nat) : (if v < 0 then max (v + (n : Int)) 0 else min v (n : Int)) = ((sIx n d (some v) : Nat) : Int) := by
  show (if v < 0 then max (v + (n : Int)) 0 else min v (n : Int)) = (((if v < 0 then (v + (n : Int)).toNat else min v.toNat n) : Nat) : Int)
  by_cases hv : v < 0
  · simp only [if_pos hv]; omega
  · simp only [if_neg hv]; omega
theorem adjust_gen (lo hi : Option Int) (n : Nat) : Builtin.Slice.sliceAdjust lo hi 1 (n : Int) = (((sIx n 0 lo : Nat) : Int), ((sIx n n hi : Nat) : Int)) := by
  have h1 : ¬ ((1 : Int) < 0) := by omega
  unfold Builtin.Slice.sliceAdjust
  simp only [h1, if_false]
  refine Prod.ext ?_ ?_
  · cases lo with
    | none => rfl
    | some v => exact clip_eq v n 0
  · cases hi with
    | none => rfl
    | some v => exact clip_eq v n n
theorem places_gen (i j : Nat) : Builtin.Slice.slicePlaces (i : Int) (j : Int) 1 = j - i := by
  unfold Builtin.Slice.slicePlaces
  have h1 : (1 : Int) > 0 := by omega
  simp only [h1, if_true, Int.ediv_one]
  split <;> omega
theorem slicePart_ {v : Value} {o : Option Int} {Q : Option Int → Shared → Prop} (p : IsPart v o) (h : Q o s) : wpAny (model prog w) A (Builtin.Slice.slicePartIndex v) Q E s := by
  cases p with
  | none => exact slicePart_none h
  | int i t => exact slicePart_int h
theorem sliceApplied_gen {sl : Addr} {vl vu : Value} {lo hi : Option Int} {n : Nat} {Q : Int × Int × Nat → Shared → Prop} (hs : s.heap.IsSliceOf sl vl vu .none) (pl : IsPart vl lo) (pu : IsPart vu hi)
    (h : Q (((sIx n 0 lo : Nat) : Int), 1, sIx n n hi - sIx n 0 lo) s) : wpAny (model prog w) A (Builtin.Slice.sliceApplied (.ref sl) (pure (n : Int))) Q E s := by
  obtain ⟨os, hos, hcs, hds⟩ := id hs
  unfold Builtin.Slice.sliceApplied Builtin.Slice.sliceFields
  refine wpAny_bind (wpAny_bind (wpAny_field hos hds (x := vl) rfl (wpAny_bind (wpAny_field hos hds (x := vu) rfl (wpAny_bind (wpAny_field hos hds (x := .none) rfl (wpAny_pure ?_)))))))
  refine wpAny_bind (slicePart_none ?_)
  show wpAny _ _ (if ((1 : Int) == 0) = true then _ else _) _ _ s
  rw [if_neg (by decide)]
  refine wpAny_bind (slicePart_ pl (wpAny_bind (slicePart_ pu (wpAny_bind (wpAny_pure ?_)))))
  show wpAny _ _ (match Builtin.Slice.sliceAdjust lo hi 1 (n : Int) with | (lo, hi) => pure (lo, (1 : Int), Builtin.Slice.slicePlaces lo hi 1)) _ _ s
  rw [adjust_gen lo hi n]
  show wpAny _ _ (pure (((sIx n 0 lo : Nat) : Int), (1 : Int), Builtin.Slice.slicePlaces ((sIx n 0 lo : Nat) : Int) ((sIx n n hi : Nat) : Int) 1)) _ _ s
  rw [places_gen]
  exact wpAny_pure h
theorem pick_gen (xs : Array Value) (i k : Nat) : ((List.range k).filterMap fun (m : Nat) => xs[((i : Int) + (m : Int) * 1).toNat]?).toArray = ((xs.toList.drop i).take k).toArray := by
  have e : (fun (m : Nat) => xs[((i : Int) + (m : Int) * 1).toNat]?) = fun m => xs[i + m]? := by
    funext m
    have : ((i : Int) + (m : Int) * 1).toNat = i + m := by omega
    rw [this]
  rw [e]
  have := pick_run xs i k
  rw [List.filterMap_map] at this
  have e2 : ((fun x => xs[x]?) ∘ fun x => i + x) = fun m => xs[i + m]? := rfl
  rw [e2] at this
  rw [this]
theorem getItem_tuple_cut {t sl : Addr} {items : Array Value} {vl vu : Value} {lo hi : Option Int} {Q : Value → Shared → Prop} (ht : IsTup s.heap t items) (hs : s.heap.IsSliceOf sl vl vu .none) (pl : IsPart vl lo) (pu : IsPart vu hi)
    (hw : ¬ (sIx items.size 0 lo = 0 ∧ sIx items.size items.size hi = items.size))
    (h : Q (.ref s.heap.objs.size) { s with heap := s.heap.push { cls := .type "tuple", data := .seq ((items.toList.drop (sIx items.size 0 lo)).take (sIx items.size items.size hi - sIx items.size 0 lo)).toArray } })
    (hsz : items.size ≤ sizeLine) : wpAny (model prog w) A (getItem (.ref t) (.ref sl)) Q E s := by
  have htake : sizeOk (.seq ((items.toList.drop (sIx items.size 0 lo)).take (sIx items.size items.size hi - sIx items.size 0 lo)).toArray) := by
    show ((items.toList.drop (sIx items.size 0 lo)).take (sIx items.size items.size hi - sIx items.size 0 lo)).toArray.size ≤ sizeLine
    rw [List.size_toArray, List.length_take, List.length_drop, Array.length_toList]
    omega
  have hj : sIx items.size items.size hi ≤ items.size := sIx_le _ _ (Nat.le_refl _) hi
  obtain ⟨os, hos, hcs, hds⟩ := id hs
  have hTs : s.TypeIs (.ref sl) "slice" := ⟨os, hos, hcs⟩
  unfold getItem
  try with_reducible refine wpAny_holding ?_
  first | refine wpAny_bind (wpAny_pure ?_) | skip
  refine wpAny_bind (wpAny_sequenceKey ht.typeIs (by decide) ?_)
  refine wpAny_bind (wpAny_callSpecial?_slot (name := Str.ofString "__getitem__") ht.typeIs PyProof.Rows.slot_tuple_getitem
    (wpAny_call_entry PyProof.Rows.slot_tuple_getitem ht.typeIs entry_tuple_getitem ?_ (args_tuple_getitem _ _)))
  show wpAny _ _ (Builtin.Tuple.tupleItemsOf (.ref t) >>= _) _ _ s
  refine wpAny_bind (tupleItemsOf_ ht ?_)
  refine wpAny_bind (wpAny_typeOf hTs ?_)
  rw [if_pos (by decide)]
  refine wpAny_bind (sliceApplied_gen hs pl pu ?_)
  have hno : ¬ ((((sIx items.size 0 lo : Nat) : Int) == 0 && (1 : Int) == 1 && (sIx items.size items.size hi - sIx items.size 0 lo) == items.size) = true) := by
    intro q
    rw [Bool.and_eq_true, Bool.and_eq_true] at q
    have q1 : ((sIx items.size 0 lo : Nat) : Int) = 0 := eq_of_beq q.1.1
    have q2 : sIx items.size items.size hi - sIx items.size 0 lo = items.size := eq_of_beq q.2
    exact hw ⟨by omega, by omega⟩
  show wpAny _ _ (if (((sIx items.size 0 lo : Nat) : Int) == 0 && (1 : Int) == 1 && (sIx items.size items.size hi - sIx items.size 0 lo) == items.size) = true then _ else _) _ _ s
  rw [if_neg hno, pick_gen]
  first
    | exact wpAny_bind (m := Builtin.Tuple.tupleExact _) (wpAny_newObj_type (wpAny_pure ⟨_, rfl, wpAny_pure h⟩) htake)
    | exact wpAny_bind (m := Builtin.Tuple.tupleExact _) (wpAny_newObj_type (wpAny_bind (wpAny_pure (wpAny_pure ⟨_, rfl, wpAny_pure h⟩))) htake)
    | exact wpAny_bind (wpAny_bind (m := Builtin.Tuple.tupleExact _) (wpAny_newObj_type (wpAny_pure (wpAny_pure ⟨_, rfl, wpAny_pure h⟩)) htake))
    | exact wpAny_bind (wpAny_bind (m := Builtin.Tuple.tupleExact _) (wpAny_newObj_type (wpAny_pure ⟨_, rfl, wpAny_pure h⟩) htake))
end
end HT
namespace L2
open PySem PySem.Spec PyProof.Rows
abbrev TO := St → Hp → (Option Int → Hp → Prop) → Prop
def PO (X : Cx) (e : Option Expr) (t : TO) : Prop :=
  ∀ (pins : List (Addr × Obj)) (s : Shared) (σ : St) (H : Hp) (Q : Option Int → Hp → Prop), Inv X pins σ H s → t σ H Q →
    wpAny (model X.prog X.w) X.A (evalPart e X.env) (fun u s' => ∃ o H', Inv X pins σ H' s' ∧ IsPart u o ∧ Q o H') X.xe s
def tNoPart : TO := fun _ H Q => Q none H
def tPart (t : TE) : TO := fun σ H Q => t σ H fun x H1 => ∃ i, x = .int i ∧ Q (some i) H1
section
variable {X : Cx} {e : Expr} {te : TE} {lo hi : Option Expr} {tl th : TO} {pos p2 : Pos}
theorem po_none : PO X none tNoPart := by
  intro pins s σ H Q I h
  rw [evalPart_none]
  exact wpAny_pure ⟨none, H, I, .none, h⟩
theorem po_some (h : PE X e te) : PO X (some e) (tPart te) := by
  intro pins s σ H Q I hw
  rw [evalPart_some]
  refine thn (h pins s σ H _ I hw) fun u s1 ⟨x, H1, I1, r1, q1⟩ => ?_
  obtain ⟨i, rfl, q⟩ := q1
  obtain ⟨t, rfl⟩ := r1
  exact ⟨some i, H1, I1, .int i t, q⟩
def SlR (X : Cx) (r : V → Option Int → Option Int → Hp → VK → Prop) : Prop :=
  ∀ (pins : List (Addr × Obj)) (s : Shared) (σ : St) (H : Hp) (x : V) (v vl vu : Value) (lo hi : Option Int) (sl : Addr) (Q : VK), Inv X pins σ H s → RelV x v → s.heap.IsSliceOf sl vl vu .none → IsPart vl lo → IsPart vu hi → r x lo hi H Q →
    ∃ T id, typeLookup (.type T) "__getitem__" = pure (some (.builtin id)) ∧ s.TypeIs v T ∧ wpAny (model X.prog X.w) X.A (getItem v (.ref sl)) (EP X pins σ Q) X.xe s
def tSl (r : V → Option Int → Option Int → Hp → VK → Prop) (te : TE) (tl th : TO) : TE := fun σ H Q => te σ H fun x H1 => tl σ H1 fun l H2 => th σ H2 fun u H3 => r x l u H3 Q
theorem pe_slice {r : V → Option Int → Option Int → Hp → VK → Prop} (hr : SlR X r) (he : PE X e te) (hl : PO X lo tl) (hu : PO X hi th) : PE X (.Subscript e (.Slice lo hi none p2) pos) (tSl r te tl th) := by
  intro pins s σ H Q I h
  refine Subscript_ (thn (he pins s σ H _ I h) fun v s1 ⟨x, H1, I1, r1, q1⟩ => ?_)
  refine wpAny_Slice (thn (hl pins s1 σ H1 _ I1 q1) fun vl s2 ⟨l, H2, I2, pl, q2⟩ => thn (hu pins s2 σ H2 _ I2 q2) fun vu s3 ⟨u, H3, I3, pu, q3⟩ => ?_)
  rw [evalPart_none]
  refine wpAny_pure ?_
  have I4 : Inv X pins σ H3 { s3 with heap := s3.heap.push { cls := .type "slice", data := .fields #[vl, vu, .none] } } := I3.kept (t' := s3.toks) fun b ob q => Heap.get?_push_of_some _ q
  obtain ⟨T, id, hT, ht, hg⟩ := hr pins { s3 with heap := s3.heap.push { cls := .type "slice", data := .fields #[vl, vu, .none] } } σ H3 x v vl vu l u s3.heap.objs.size Q I4 r1 (Heap.IsSliceOf.new ..) pl pu q3
  show wpAny (model X.prog X.w) X.A (subscriptTail e (.Slice lo hi none p2) v (.ref s3.heap.objs.size)) (EP X pins σ Q) X.xe { s3 with heap := s3.heap.push { cls := .type "slice", data := .fields #[vl, vu, .none] } }
  exact tail_any (ops := [.ref s3.heap.objs.size, v]) ht hT hg (by with_unfolding_all rfl)
def cutV (xs : List V) (lo hi : Option Int) : List V := (xs.drop (HT.sIx xs.length 0 lo)).take (HT.sIx xs.length xs.length hi - HT.sIx xs.length 0 lo)
theorem cutV_length (xs : List V) (lo hi : Option Int) : (cutV xs lo hi).length ≤ xs.length := by
  unfold cutV
  rw [List.length_take, List.length_drop]
  omega
def rSlT (K : PySem.W.Frag) : V → Option Int → Option Int → Hp → VK → Prop := fun x lo hi H Q => ∃ a xs, x = .ref a ∧ SqT K H a xs ∧
  ¬ (HT.sIx xs.length 0 lo = 0 ∧ HT.sIx xs.length xs.length hi = xs.length) ∧ ∀ p, H p = none → Q (.ref p) (upd H p (.tup (cutV xs lo hi)))
theorem sl_tup : SlR X (rSlT X.K) := by
  intro pins s σ H x v vl vu lo hi sl Q I rx hs pl pu h
  obtain ⟨a, xs, rfl, hx, hw, q⟩ := h
  cases rx
  obtain ⟨its, r, ht, hz⟩ := I.tuple hx
  have hlen : its.toArray.size = xs.length := by rw [List.size_toArray]; exact r.length.symm
  refine ⟨"tuple", _, PyProof.Rows.slot_tuple_getitem.lookup, ht.typeIs, ?_⟩
  refine HT.getItem_tuple_cut ht hs pl pu (by rw [hlen]; exact hw) ?_ (by rw [hlen]; exact hz)
  rw [hlen]
  refine ⟨.ref s.heap.objs.size, _, I.laid (t' := s.toks) (o := .tup (cutV xs lo hi)) (fun b ob q => Heap.get?_push_of_some _ q) (Nat.le_refl _) ?_, rfl, q _ (I.hok.fresh (Nat.le_refl _))⟩
  exact ⟨Nat.le_trans (cutV_length xs lo hi) hz, _, (r.drop (HT.sIx xs.length 0 lo)).take (HT.sIx xs.length xs.length hi - HT.sIx xs.length 0 lo), IsTupN.new _ _⟩
def rCatT (K : PySem.W.Frag) : R2 := fun x y H Q => ∃ a b xs ys, x = .ref a ∧ y = .ref b ∧ SqT K H a xs ∧ SqT K H b ys ∧ xs ≠ [] ∧ xs.length + ys.length ≤ sizeLine ∧
  (ys = [] → Q (.ref a) H) ∧ (ys ≠ [] → ∀ p, H p = none → Q (.ref p) (upd H p (.tup (xs ++ ys))))
theorem Vals.nil_iff {xs : List V} {us : List Value} (r : Vals xs us) : us = [] ↔ xs = [] := by
  cases r with
  | nil => simp
  | cons _ _ => simp
theorem op_catT : OpR X (binaryOp .Add) (rCatT X.K) := by
  intro pins s σ H x y v u Q I rx ry h
  obtain ⟨a, b, xs, ys, rfl, rfl, ha, hb, hx, hz, q1, q2⟩ := h
  cases rx
  cases ry
  obtain ⟨its, r1, p1, _⟩ := I.tuple ha
  obtain ⟨its2, r2, p2, _⟩ := I.tuple hb
  refine HT.cat_tup p1 p2 (fun z => hx (r1.nil_iff.mp z)) (fun z => ⟨.ref a, H, I, rfl, q1 (r2.nil_iff.mp z)⟩) (fun z => ?_) (by rw [← r1.length, ← r2.length]; exact hz)
  refine ⟨.ref s.heap.objs.size, _, I.laid (t' := s.toks) (o := .tup (xs ++ ys)) (fun b ob q => Heap.get?_push_of_some _ q) (Nat.le_refl _) ?_, rfl, q2 (fun w => z (r2.nil_iff.mpr w)) _ (I.hok.fresh (Nat.le_refl _))⟩
  exact ⟨by rw [List.length_append]; exact hz, _, r1.append r2, IsTupN.new _ _⟩
end
end L2
namespace L2
open PySem PySem.Spec PyProof.Rows
def ixN (n : Nat) (i : Int) : Option Nat := if 0 ≤ i then (if i < n then some i.toNat else none) else if -(n : Int) ≤ i then some (i + n).toNat else none
def atI {α : Type} (xs : List α) (i : Int) : Option α := (ixN xs.length i).bind fun j => xs[j]?
theorem ixN_seq {n : Nat} {i : Int} {j : Nat} (h : ixN n i = some j) : seqIndex? i n = some j ∧ j < n ∧ -(n : Int) ≤ i ∧ i < n := by
  unfold ixN at h
  by_cases h0 : 0 ≤ i
  · rw [if_pos h0] at h
    by_cases h1 : i < n
    · rw [if_pos h1] at h
      have e : i.toNat = j := Option.some.inj h
      exact ⟨by rw [seqIndex_of h0 h1, e], by omega, by omega, h1⟩
    · rw [if_neg h1] at h; cases h
  · rw [if_neg h0] at h
    by_cases h1 : -(n : Int) ≤ i
    · rw [if_pos h1] at h
      have e : (i + n).toNat = j := Option.some.inj h
      exact ⟨by rw [seqIndex_neg (by omega) h1, e], by omega, h1, by omega⟩
    · rw [if_neg h1] at h; cases h
theorem atI_get {α : Type} {xs : List α} {i : Int} {v : α} (h : atI xs i = some v) : ∃ j, seqIndex? i xs.length = some j ∧ xs[j]? = some v ∧ j < xs.length ∧ -(xs.length : Int) ≤ i ∧ i < xs.length := by
  unfold atI at h
  cases e : ixN xs.length i with
  | none => rw [e] at h; cases h
  | some j =>
    rw [e] at h
    obtain ⟨h1, h2, h3, h4⟩ := ixN_seq e
    exact ⟨j, h1, h, h2, h3, h4⟩
theorem atI_nat {α : Type} {xs : List α} {j : Nat} {v : α} (h : xs[j]? = some v) : atI xs (j : Int) = some v := by
  have hj : j < xs.length := (List.getElem?_eq_some_iff.mp h).1
  have e : ixN xs.length (j : Int) = some j := by
    unfold ixN
    rw [if_pos (by omega), if_pos (by omega)]; simp
  unfold atI; rw [e]; exact h
def PlainIx (b : Expr) : Prop := ∀ o i, subscripted b false o i = operate [o, i] (getItem o i)
def IxR (X : Cx) (r : R2) : Prop :=
  ∀ (value slice : Expr) (pins : List (Addr × Obj)) (s : Shared) (σ : St) (H : Hp) (x y : V) (v u : Value) (Q : VK), Inv X pins σ H s → RelV x v → RelV y u → r x y H Q →
    subscripted slice false v u = operate [v, u] (getItem v u) → wpAny (model X.prog X.w) X.A (subscriptTail value slice v u) (EP X pins σ Q) X.xe s
def MtR (X : Cx) (id : String) (r : V → List V → Hp → VK → Prop) : Prop :=
  ∀ (pins : List (Addr × Obj)) (s : Shared) (σ : St) (H : Hp) (x : V) (xs : List V) (v : Value) (us : List Value) (Q : VK), Inv X pins σ H s → RelV x v → Vals xs us → r x xs H Q →
    wpAny (model X.prog X.w) X.A (call (.builtin id) (v :: us)) (EP X pins σ Q) X.xe s
section
variable {X : Cx} {a b : Expr} {ta tb : TE} {pos : Pos}
theorem IxR.or {r r' : R2} (h : IxR X r) (h' : IxR X r') : IxR X (fun x y H Q => r x y H Q ∨ r' x y H Q) := by
  intro value slice pins s σ H x y v u Q I rx ry q hs
  rcases q with q | q
  · exact h value slice pins s σ H x y v u Q I rx ry q hs
  · exact h' value slice pins s σ H x y v u Q I rx ry q hs
theorem pe_ix {r : R2} (hr : IxR X r) (ha : PE X a ta) (hb : PE X b tb) (hs : PlainIx b) : PE X (.Subscript a b pos) (tOp r ta tb) := by
  intro pins s σ H Q I h
  exact Subscript_ (binT ha hb I h fun v u s2 x y H2 I2 rx ry q => hr a b pins s2 σ H2 x y v u Q I2 rx ry q (hs _ _))
def rIxL (K : PySem.W.Frag) : R2 := fun x y H Q => ∃ p xs i v, x = .ref p ∧ y = .int i ∧ SqL K H p xs ∧ atI xs i = some v ∧ Q v H
def rIxT (K : PySem.W.Frag) : R2 := fun x y H Q => ∃ p xs i v, x = .ref p ∧ y = .int i ∧ SqT K H p xs ∧ atI xs i = some v ∧ Q v H
def rIxS : R2 := fun x y H Q => ∃ z i c, x = .str z ∧ y = .int i ∧ z.length ≤ sizeLine ∧ atI z.cps.toList i = some c ∧ Q (.str ⟨#[c]⟩) H
theorem ix_list : IxR X (rIxL X.K) := by
  intro value slice pins s σ H x y v u Q I rx ry h hs
  obtain ⟨p, xs, i, z, rfl, rfl, hq, he, q⟩ := h
  cases rx
  obtain ⟨t, rfl⟩ := ry
  obtain ⟨its, r, pl, hz⟩ := I.list hq
  obtain ⟨j, h1, h2, h3, h4, h5⟩ := atI_get he
  obtain ⟨w, ew, rw'⟩ := r.get h2
  have hl := r.length
  have hn := line63
  have fin : EP X pins σ Q w s := ⟨z, H, I, rw', q⟩
  by_cases h0 : 0 ≤ i
  · have hj : i.toNat = j := by
      rw [seqIndex_of h0 h5] at h1
      exact Option.some.inj h1
    exact item_listR pl.isList h0 (by omega) (by rw [hj]; simpa using ew) fin hs
  · have hj : (i + (its.toArray.size : Int)).toNat = j := by
      rw [seqIndex_neg (by omega) h4] at h1
      rw [List.size_toArray, ← hl]
      exact Option.some.inj h1
    exact subscriptTail_builtinR (x := w) pl.isList.typeIs slot_list_getitem.lookup
      (wpAny_getItem_list_neg (Q := fun r s' => r = w ∧ EP X pins σ Q r s') pl.isList (by omega) (by rw [List.size_toArray] <;> omega) (by omega) (by rw [hj]; simpa using ew) ⟨rfl, fin⟩) hs
theorem ix_tup : IxR X (rIxT X.K) := by
  intro value slice pins s σ H x y v u Q I rx ry h hs
  obtain ⟨p, xs, i, z, rfl, rfl, hq, he, q⟩ := h
  cases rx
  obtain ⟨t, rfl⟩ := ry
  obtain ⟨its, r, pl, hz⟩ := I.tuple hq
  obtain ⟨j, h1, h2, h3, h4, h5⟩ := atI_get he
  obtain ⟨w, ew, rw'⟩ := r.get h2
  have hl := r.length
  have hn := line63
  have fin : EP X pins σ Q w s := ⟨z, H, I, rw', q⟩
  exact subscriptTail_builtinR (x := w) pl.typeIs slot_tuple_getitem.lookup
    (getItem_tuple (j := j) (Q := fun r s' => r = w ∧ EP X pins σ Q r s') pl (by omega) (by omega) (by rw [List.size_toArray, ← hl]; exact h1) (by simpa using ew) ⟨rfl, fin⟩) hs
theorem ix_str : IxR X rIxS := by
  intro value slice pins s σ H x y v u Q I rx ry h hs
  obtain ⟨z, i, c, rfl, rfl, hz, he, q⟩ := h
  obtain ⟨t, rfl⟩ := rx
  obtain ⟨t', rfl⟩ := ry
  obtain ⟨j, h1, h2, h3, h4, h5⟩ := atI_get he
  have hl : z.cps.toList.length = z.length := by simp [Str.length]
  rw [hl] at h1 h4 h5
  have hn := line63
  exact tail_any (typeIs_str s z t) slot_str_getitem.lookup (getItem_str (c := c) (by
    have e1 : decide (i < -(2 ^ 63 : Int)) = false := decide_eq_false (by omega)
    have e2 : decide (i ≥ 2 ^ 63) = false := decide_eq_false (by omega)
    rw [e1, e2, Bool.or_false]) (by rw [h1]; simpa using h2) ⟨.str ⟨#[c]⟩, H, I.tok _, ⟨_, rfl⟩, q⟩) hs
def rIx (K : PySem.W.Frag) : R2 := fun x y H Q => rIxL K x y H Q ∨ rIxT K x y H Q ∨ rIxS x y H Q
theorem ix_seq : IxR X (rIx X.K) := ix_list.or (ix_tup.or ix_str)
theorem Inv.lst {pins : List (Addr × Obj)} {σ : St} {H : Hp} {s : Shared} {p : Addr} {xs : List V} (I : Inv X pins σ H s) (h : H p = some (.lst xs)) :
    ∃ (its : List Value) (n : Nat), Vals xs its ∧ s.heap.get? p = some { cls := .type "list", data := .seq its.toArray n } ∧ xs.length ≤ sizeLine := by
  obtain ⟨z, its, n, r, e⟩ := I.hok p _ h
  exact ⟨its, n, r, e, z⟩
theorem slice_bounds (lo hi : Option Int) (n : Nat) : (sliceBounds lo hi none n).1 = ((HT.sIx n 0 lo : Nat) : Int) ∧ (sliceBounds lo hi none n).2.1 = ((HT.sIx n n hi : Nat) : Int) ∧ (sliceBounds lo hi none n).2.2 = 1 := by
  refine ⟨?_, ?_, rfl⟩
  · cases lo with
    | none => simp [sliceBounds, HT.sIx]
    | some i =>
      simp only [sliceBounds, HT.sIx, Option.getD_none, show (1 : Int) > 0 by decide, if_true]
      by_cases h : i < 0
      · simp only [h, if_true] <;> omega
      · simp only [h, if_false] <;> omega
  · cases hi with
    | none => simp [sliceBounds, HT.sIx]
    | some i =>
      simp only [sliceBounds, HT.sIx, Option.getD_none, show (1 : Int) > 0 by decide, if_true]
      by_cases h : i < 0
      · simp only [h, if_true] <;> omega
      · simp only [h, if_false] <;> omega
theorem slicePick_cut (its : List Value) (lo hi : Option Int) : slicePick its.toArray lo hi none = ((its.drop (HT.sIx its.length 0 lo)).take (HT.sIx its.length its.length hi - HT.sIx its.length 0 lo)).toArray := by
  obtain ⟨h1, h2, h3⟩ := slice_bounds lo hi its.toArray.size
  unfold slicePick
  rw [h1, h2, h3]
  simp only [sliceRange_one, pick_run, List.size_toArray] <;> rfl
def rSlL (K : PySem.W.Frag) : V → Option Int → Option Int → Hp → VK → Prop := fun x lo hi H Q => ∃ a xs, x = .ref a ∧ SqL K H a xs ∧ ∀ p, H p = none → Q (.ref p) (upd H p (.lst (cutV xs lo hi)))
theorem sl_list : SlR X (rSlL X.K) := by
  intro pins s σ H x v vl vu lo hi sl Q I rx hs pl pu h
  obtain ⟨a, xs, rfl, hx, q⟩ := h
  cases rx
  obtain ⟨its, r, ht, hz⟩ := I.list hx
  have hlen := r.length
  refine ⟨"list", _, slot_list_getitem.lookup, ht.isList.typeIs, ?_⟩
  refine wpAny_getItem_list_slice ht.isList hs pl pu .none (by simp) ?_ (by rw [List.size_toArray] <;> omega)
  rw [slicePick_cut, ← hlen]
  refine ⟨.ref s.heap.objs.size, _, I.laid (t' := s.toks) (o := .lst (cutV xs lo hi)) (fun b ob q => Heap.get?_push_of_some _ q) (Nat.le_refl _) ?_, rfl, q _ (I.hok.fresh (Nat.le_refl _))⟩
  exact ⟨Nat.le_trans (cutV_length xs lo hi) hz, _, 0, (r.drop (HT.sIx xs.length 0 lo)).take (HT.sIx xs.length xs.length hi - HT.sIx xs.length 0 lo), Heap.get?_push_size _ rfl⟩
def flatV : V → Bool
  | .non => true
  | .bl _ => true
  | .int _ => true
  | .str _ => true
  | _ => false
def eqV : V → V → Bool
  | .non, .non => true
  | .bl a, .bl b => a == b
  | .bl a, .int b => (if a then 1 else 0) == b
  | .int a, .bl b => a == (if b then 1 else 0)
  | .int a, .int b => a == b
  | .str a, .str b => a == b
  | _, _ => false
theorem eqAt_V {A : Around} {s : Shared} {y x : V} {u v : Value} (ry : RelV y u) (rx : RelV x v) (fy : flatV y = true) (fx : flatV x = true) : SeqAt.EqAt A s u v (eqV y x) := by
  cases y with
  | non =>
    cases ry
    cases x with
    | non => cases rx; exact SeqAt.EqAt.same _
    | bl b => cases rx; exact SeqAt.EqAt.none_bool b
    | int b => obtain ⟨t, rfl⟩ := rx; exact SeqAt.EqAt.none_int b t
    | str b => obtain ⟨t, rfl⟩ := rx; exact SeqAt.EqAt.none_str b t
    | _ => exact absurd (show false = true from fx) Bool.false_ne_true
  | bl a =>
    cases ry
    cases x with
    | non => cases rx; exact SeqAt.EqAt.bool_none a
    | bl b => cases rx; exact SeqAt.EqAt.bool_bool a b
    | int b => obtain ⟨t, rfl⟩ := rx; exact SeqAt.EqAt.bool_int a b t
    | str b => obtain ⟨t, rfl⟩ := rx; exact SeqAt.EqAt.bool_str a b t
    | _ => exact absurd (show false = true from fx) Bool.false_ne_true
  | int a =>
    obtain ⟨t', rfl⟩ := ry
    cases x with
    | non => cases rx; exact SeqAt.EqAt.int_none a t'
    | bl b => cases rx; exact SeqAt.EqAt.int_bool a t' b
    | int b => obtain ⟨t, rfl⟩ := rx; exact SeqAt.EqAt.int_int a t' b t
    | str b => obtain ⟨t, rfl⟩ := rx; exact SeqAt.EqAt.int_str a t' b t
    | _ => exact absurd (show false = true from fx) Bool.false_ne_true
  | str a =>
    obtain ⟨t', rfl⟩ := ry
    cases x with
    | non => cases rx; exact SeqAt.EqAt.str_none a t'
    | bl b => cases rx; exact SeqAt.EqAt.str_bool a t' b
    | int b => obtain ⟨t, rfl⟩ := rx; exact SeqAt.EqAt.str_int a t' b t
    | str b => obtain ⟨t, rfl⟩ := rx; exact SeqAt.EqAt.str_str a t' b t
    | _ => exact absurd (show false = true from fx) Bool.false_ne_true
  | _ => exact absurd (show false = true from fy) Bool.false_ne_true
theorem call_len_seq : CallR X (.builtin "len") (fun xs H Q => ∃ p ys, xs = [.ref p] ∧ (SqL X.K H p ys ∨ SqT X.K H p ys) ∧ Q (.int ys.length) H) := by
  intro pins s σ H xs us Q I r h
  obtain ⟨p, ys, rfl, hq, q⟩ := h
  obtain ⟨u, rfl, rx⟩ := vals1 r
  cases rx
  have hn := line63
  rcases hq with hq | hq
  · obtain ⟨its, r', pl, hz⟩ := I.list hq
    have hlen := r'.length
    exact Calls.call_len_list pl.isList (by simp only [List.size_toArray] <;> omega) ⟨.int ys.length, H, I.tok _, ⟨s.toks + 1, by rw [List.size_toArray, hlen]⟩, q⟩
  · obtain ⟨its, r', pl, hz⟩ := I.tuple hq
    have hlen := r'.length
    exact len_tuple pl (by simp only [List.size_toArray] <;> omega) ⟨.int ys.length, H, I.tok _, ⟨s.toks + 1, by rw [List.size_toArray, hlen]⟩, q⟩
theorem call_len_str : CallR X (.builtin "len") (fun xs H Q => ∃ z, xs = [.str z] ∧ z.length ≤ sizeLine ∧ Q (.int z.length) H) := by
  intro pins s σ H xs us Q I r h
  obtain ⟨z, rfl, hz, q⟩ := h
  obtain ⟨u, rfl, t, rfl⟩ := vals1 r
  have hn := line63
  exact len_str (by omega) ⟨.int z.length, H, I.tok _, ⟨_, rfl⟩, q⟩
theorem CallR.or {f : Value} {r r' : List V → Hp → VK → Prop} (h : CallR X f r) (h' : CallR X f r') : CallR X f (fun xs H Q => r xs H Q ∨ r' xs H Q) := by
  intro pins s σ H xs us Q I rs q
  rcases q with q | q
  · exact h pins s σ H xs us Q I rs q
  · exact h' pins s σ H xs us Q I rs q
theorem call_list_of : CallR X (.type "list") (fun xs H Q => ∃ p ys, xs = [.ref p] ∧ (SqL X.K H p ys ∨ SqT X.K H p ys) ∧ ∀ l, H l = none → Q (.ref l) (upd H l (.lst ys))) := by
  intro pins s σ H xs us Q I r h
  obtain ⟨p, ys, rfl, hq, q⟩ := h
  obtain ⟨u, rfl, rx⟩ := vals1 r
  cases rx
  have fin : ∀ (its : List Value), Vals ys its → ys.length ≤ sizeLine → ∀ (h' : Heap) (c' : Nat), (∀ b o', s.heap.get? b = some o' → h'.get? b = some o') →
      h'.get? s.heap.objs.size = some { cls := .type "list", dict := none, data := .seq its.toArray c', slots := #[] } → EP X pins σ Q (.ref s.heap.objs.size) { s with heap := h' } := fun its r' hz h' c' kp e =>
    ⟨.ref s.heap.objs.size, _, I.laid (t' := s.toks) kp (Nat.le_refl _) (show ObjOk X.prog X.w _ h' _ (.lst ys) from ⟨hz, its, c', r', e⟩), rfl, q _ (I.hok.fresh (Nat.le_refl _))⟩
  rcases hq with hq | hq
  · obtain ⟨its, r', pl, hz⟩ := I.list hq
    have hlen := r'.length
    obtain ⟨o, ho, hc, n, hd⟩ := pl.isList
    exact call_list_seq p (.inl rfl) ho hc hd (fun h' c' kp e => fin its r' hz h' c' kp e) (by simp only [List.size_toArray] <;> omega)
  · obtain ⟨its, r', pl, hz⟩ := I.tuple hq
    have hlen := r'.length
    obtain ⟨o, ho, hc, n, hd⟩ := pl
    exact call_list_seq p (.inr rfl) ho hc hd (fun h' c' kp e => fin its r' hz h' c' kp e) (by simp only [List.size_toArray] <;> omega)
theorem call_tuple_of : CallR X (.type "tuple") (fun xs H Q => ∃ p ys, xs = [.ref p] ∧ ((SqL X.K H p ys ∧ ∀ l, H l = none → Q (.ref l) (upd H l (.tup ys))) ∨ (SqT X.K H p ys ∧ Q (.ref p) H))) := by
  intro pins s σ H xs us Q I r h
  obtain ⟨p, ys, rfl, h⟩ := h
  obtain ⟨u, rfl, rx⟩ := vals1 r
  cases rx
  rcases h with ⟨hq, q⟩ | ⟨hq, q⟩
  · obtain ⟨its, r', pl, hz⟩ := I.list hq
    have hlen := r'.length
    refine call_tuple_list pl.isList (fun h' kp => ?_) (by simp only [List.size_toArray] <;> omega)
    have I1 : Inv X pins σ H { s with heap := h' } := I.kept (t' := s.toks) kp
    have I2 : Inv X pins σ (upd H h'.objs.size (.tup ys)) { s with heap := h'.push { cls := .type "tuple", data := .seq its.toArray } } :=
      I1.laid (t' := s.toks) (fun b o e => Heap.get?_push_of_some _ e) (Nat.le_refl _) (show ObjOk X.prog X.w _ _ _ (.tup ys) from ⟨hz, its, r', IsTupN.new _ _⟩)
    exact ⟨.ref h'.objs.size, _, I2, rfl, q _ (I1.hok.fresh (Nat.le_refl _))⟩
  · obtain ⟨its, r', pl, hz⟩ := I.tuple hq
    exact call_tuple_same pl ⟨.ref p, H, I, rfl, q⟩
def tyV (K : PySem.W.Frag) (T : String) (x : V) (H : Hp) : Prop := match x with
  | .str _ => T = "str"
  | .int _ => T = "int"
  | .ref p => (T = "list" ∧ ∃ xs, SqL K H p xs) ∨ (T = "tuple" ∧ ∃ o, K.lookup p = some o ∧ o.cls = .type "tuple" ∧ o.dict = none) ∨
      (T = "dict" ∧ ((∃ kvs, H p = some (.dK kvs)) ∨ ∃ kvs, H p = some (.dT kvs))) ∨ (T = "set" ∧ ∃ S n, H p = some (.set S n))
  | _ => False
theorem tyV_is {pins : List (Addr × Obj)} {σ : St} {H : Hp} {s : Shared} {T : String} {x : V} {v : Value} (I : Inv X pins σ H s) (r : RelV x v) (ty : tyV X.K T x H) :
    s.TypeIs v T ∧ ∀ a, v = .ref a → ∃ ob, s.heap.get? a = some ob ∧ ob.dict = none := by
  cases x with
  | str z =>
    obtain ⟨t, rfl⟩ := r
    cases (show T = "str" from ty)
    exact ⟨typeIs_str s z t, fun _ e => nomatch e⟩
  | int i =>
    obtain ⟨t, rfl⟩ := r
    cases (show T = "int" from ty)
    exact ⟨typeIs_int s i t, fun _ e => nomatch e⟩
  | ref p =>
    cases r
    rcases ty with ⟨rfl, xs, hq⟩ | ⟨rfl, o, hk, hc, hd⟩ | ⟨rfl, hk⟩ | ⟨rfl, S, n, hk⟩
    · obtain ⟨its, _, pl, _⟩ := I.list hq
      refine ⟨pl.isList.typeIs, fun a e => ?_⟩
      cases e
      obtain ⟨o, n, e, c, hd, _⟩ := pl
      exact ⟨o, e, hd⟩
    · refine ⟨⟨o, I.kIn p o hk, hc⟩, fun a e => ?_⟩
      cases e
      exact ⟨o, I.kIn _ o hk, hd⟩
    · have z : ∃ o, s.heap.get? p = some o ∧ o.ExactDict := by
        rcases hk with ⟨kvs, hk⟩ | ⟨kvs, hk⟩
        · obtain ⟨_, _, _, _, o, _, _, e, ex, _⟩ := I.hok p _ hk
          exact ⟨o, e, ex⟩
        · obtain ⟨_, _, _, _, o, _, _, e, ex, _⟩ := I.hok p _ hk
          exact ⟨o, e, ex⟩
      obtain ⟨o, e, ex⟩ := z
      refine ⟨⟨o, e, ex.1⟩, fun a e2 => ?_⟩
      cases e2
      exact ⟨o, e, ex.2.1⟩
    · obtain ⟨o, _, _, _, e, ex, _⟩ := I.hok p _ hk
      refine ⟨⟨o, e, ex.1⟩, fun a e2 => ?_⟩
      cases e2
      exact ⟨o, e, ex.2.1⟩
  | _ => exact False.elim ty
def tBM (K : PySem.W.Frag) (T : String) (r : V → List V → Hp → VK → Prop) (to : TE) (t : TA) : TE := fun σ H Q => to σ H fun x H1 => tyV K T x H1 ∧ t σ H1 fun xs H2 => r x xs H2 Q
variable {o e : Expr} {es : List Expr} {to : TE} {t : TA} {name : Str} {apos cpos : Pos} {T id : String} {r : V → List V → Hp → VK → Prop}
theorem pe_bm (pa : PlainAttrs T) (slot : Slot T name id) (hty : typeOf (.builtin id) = pure (.type "method_descriptor")) (hm : MtR X id r) (ho : PE X o to) (ha : PA X (e :: es) t)
    (hbase : attributeBase o name X.env (eval o X.env) = eval o X.env := by rfl)
    (hfew : ((backTo cpos (starEach (e :: es) X.env)).all (fun x => !x.1) && (backToKw cpos (keywordEach [] X.env)).all (fun x => x.1.isSome)
      && decide ((e :: es).length + ([] : List Keyword).length + (if ([] : List Keyword).isEmpty then 0 else 1) < 30)) = true := by rfl)
    (hline : (apos.endLine == cpos.line) = true := by rfl) (hs : starEach (e :: es) X.env = (false, eval e X.env) :: starEach es X.env := by rfl) (hplain : (backTo cpos (starEach es X.env)).any (·.1) = false := by rfl) :
    PE X (.Call (.Attribute o name apos) (e :: es) [] cpos) (tBM X.K T r to t) := by
  intro pins s σ H Q I h
  refine wpAny_Call_method_late hbase hfew hline rfl (thn (ho pins s σ H _ I h) fun v s1 ⟨x, H1, I1, r1, ty, q1⟩ => ?_)
  obtain ⟨h1, h2⟩ := tyV_is I1 r1 ty
  refine ⟨T, id, pa, slot, hty, h1, h2, ?_⟩
  have hA := ha cpos pins s1 σ H1 _ I1 q1
  rw [hs] at hA ⊢
  refine Calls.callWith_builtin (by show (false || (backTo cpos (starEach es X.env)).any (·.1)) = false; rw [hplain] <;> rfl) (Calls.evalArgs_plain ?_)
  exact thn hA fun us s2 ⟨vs, H2, I2, r2, q2⟩ => hm pins s2 σ H2 x vs v us Q I2 r1 r2 q2
end
end L2
namespace L2
open PySem PySem.Spec PyProof.Rows
def MtM (X : Cx) (id : String) (r : V → List V → Hp → VK → Prop) : Prop :=
  ∀ (pins : List (Addr × Obj)) (s : Shared) (σ : St) (H : Hp) (x : V) (xs : List V) (v : Value) (us : List Value) (Q : VK), Inv X pins σ H s → RelV x v → Vals xs us → r x xs H Q →
    wpAny (model X.prog X.w) X.A (call (.builtin id) (v :: us)) (EP X pins σ Q) X.xe s
theorem Vals.one : ∀ {x : V} {us : List Value}, Vals [x] us → ∃ u, us = [u] ∧ RelV x u
  | _, _, .cons r .nil => ⟨_, rfl, r⟩
theorem Vals.zero : ∀ {us : List Value}, Vals [] us → us = []
  | _, .nil => rfl
section
variable {X : Cx} {pins : List (Addr × Obj)} {σ : St} {H : Hp} {s : Shared} {l b : Addr} {xs ys zs : List V}
theorem Inv.lset {its its' : List Value} {n : Nat} {f : Array Value → Array Value} {t' : Nat} (I : Inv X pins σ H s) (hH : H l = some (.lst xs))
    (e : s.heap.get? l = some { cls := .type "list", data := .seq its.toArray n }) (hf : f its.toArray = its'.toArray) (hv : Vals ys its') (hz : ys.length ≤ sizeLine) :
    Inv X pins σ (upd H l (.lst ys)) { s with heap := s.heap.update l (Obj.mapSeq f), toks := t' } := by
  have q := PySem.IsL.update e f
  rw [hf] at q
  refine I.write (x := l) (e := l) (by rw [hH]; exact trivial) (.inl rfl) (fun b' u hb hu => (Heap.get?_update_other s.heap (Obj.mapSeq f) (Ne.symm hb)).trans hu) ⟨_, q⟩ ?_
  exact ⟨hz, its', _, hv, q⟩
theorem Inv.lnew {its : List Value} {t' : Nat} (I : Inv X pins σ H s) (hv : Vals ys its) (hz : ys.length ≤ sizeLine) :
    Inv X pins σ (upd H s.heap.objs.size (.lst ys)) { s with heap := s.heap.push { cls := .type "list", data := .seq its.toArray }, toks := t' } :=
  I.laid (fun _ _ q => Heap.get?_push_of_some _ q) (Nat.le_refl _) ⟨hz, its, 0, hv, Heap.get?_push_size _ rfl⟩
theorem Inv.fresh (I : Inv X pins σ H s) : H s.heap.objs.size = none := I.hok.fresh (Nat.le_refl _)
theorem Inv.lstM (I : Inv X pins σ H s) (hH : H l = some (.lst xs)) : xs.length ≤ sizeLine ∧ ∃ (its : List Value) (n : Nat), Vals xs its ∧ xs.length = its.length ∧ s.heap.get? l = some { cls := .type "list", data := .seq its.toArray n } := by
  obtain ⟨z, its, n, r, e⟩ := I.hok l _ hH
  exact ⟨z, its, n, r, r.length, e⟩
theorem notLongL {n : Nat} (h : n ≤ sizeLine) : Builtin.List.listTooLong n = false := by
  unfold Builtin.List.listTooLong
  exact decide_eq_false (by omega)
end
section
variable {X : Cx}
def rAppend : V → List V → Hp → VK → Prop := fun x vs H Q => ∃ l xs y, x = .ref l ∧ vs = [y] ∧ H l = some (.lst xs) ∧ xs.length < sizeLine ∧ Q .non (upd H l (.lst (xs ++ [y])))
theorem mt_append : MtM X "list.append" rAppend := by
  intro pins s σ H x vs v us Q I rx rv h
  obtain ⟨l, xs, y, rfl, rfl, hH, hz, q⟩ := h
  cases rx
  obtain ⟨u, rfl, ru⟩ := rv.one
  obtain ⟨z, its, n, r, hl, e⟩ := I.lstM hH
  refine call_meets F.slot_list_append ⟨_, e, rfl⟩ F.entry_list_append (F.args_list_append_2 _ _) (PySem.list_append l its.toArray n u (by rw [List.size_toArray]; omega)) ⟨e, ?_⟩
  refine ⟨.non, _, I.lset (its' := its ++ [u]) hH e (by simp) (r.append (.cons ru .nil)) ?_, rfl, q⟩
  rw [List.length_append, List.length_singleton]
  omega
def rExtend : V → List V → Hp → VK → Prop := fun x vs H Q => ∃ l b xs zs, x = .ref l ∧ vs = [.ref b] ∧ H l = some (.lst xs) ∧ H b = some (.lst zs) ∧ xs.length + zs.length ≤ sizeLine ∧ Q .non (upd H l (.lst (xs ++ zs)))
theorem mt_extend : MtM X "list.extend" rExtend := by
  intro pins s σ H x vs v us Q I rx rv h
  obtain ⟨l, b, xs, zs, rfl, rfl, hH, hB, hz, q⟩ := h
  cases rx
  obtain ⟨u, rfl, ru⟩ := rv.one
  cases ru
  obtain ⟨z, its, n, r, hl, e⟩ := I.lstM hH
  obtain ⟨z2, its2, n2, r2, hl2, e2⟩ := I.lstM hB
  have hsz : its.toArray.size + its2.toArray.size ≤ sizeLine := by rw [List.size_toArray, List.size_toArray]; omega
  have hlong : ¬ (!its.toArray.isEmpty && Builtin.List.listTooLong (its.toArray.size + its2.toArray.size)) = true := by
    rw [notLongL hsz, Bool.and_false]
    exact Bool.false_ne_true
  refine call_meets F.slot_list_extend ⟨_, e, rfl⟩ F.entry_list_extend (F.args_list_extend_2 _ _)
    (AutoSeq1.list_extend_list_list_0 l its.toArray n b its2.toArray n2 hlong (by rw [List.size_toArray]; omega) (by omega)) ⟨e, e2, ?_⟩
  refine ⟨.non, _, I.lset (its' := its ++ its2) hH e (by simp) (r.append r2) ?_, rfl, q⟩
  rw [List.length_append]
  omega
end
section
variable {prog : Program} {w : World} {A : Around} {E : Value → Shared → Prop} {s : Shared}
set_option maxRecDepth 100000 in
end
section
variable {X : Cx}
end
end L2
namespace Att
open PySem PySem.W PySem.Calls PyProof.Rows
theorem ints_of_wellAll {P : Params} {h : Heap} : ∀ (ns : List Int) (vs : List Value), WellAll P h vs (ns.map WData.int) → IntsAre vs ns := by
  intro ns
  induction ns with
  | nil =>
    intro vs w
    rw [List.map_nil] at w
    cases w
    exact .nil
  | cons n ns ih =>
    intro vs w
    rw [List.map_cons] at w
    cases w with
    | cons a b =>
      cases a
      exact .cons _ _ (ih _ b)
theorem script_of {l : OpenLaw} {n : Nat} (hn : l.most = some n) {P : Params} {h : Heap} {args : List WData} {vals : List Value}
    (hpre : l.row.toRowW.claim.pre args = true) (hwl : WellAll P h vals args) :
    ∃ a vs ns, vals = [Value.ref a] ∧ args = [WData.list (ns.map WData.int)] ∧ h.get? a = some { cls := .type "list", data := .seq vs.toArray } ∧ IntsAre vs ns ∧ ns.length ≤ n := by
  have hsh : WShape.hasAll [] args [.list .int] = true := (pre_splitW hpre).1
  have hc : l.pre.holds [] { args := args } = true := (pre_splitW hpre).2
  obtain ⟨d, r, rfl, h1, h2⟩ := hasAllW_cons hsh
  obtain rfl := hasAllW_nil h2
  obtain ⟨xs, rfl, h3⟩ := hasW_list h1
  obtain ⟨ns, rfl⟩ := items_int h3
  have hlen : ns.length ≤ n := by
    unfold OpenLaw.pre at hc
    have h4 : (WTm.not (.lt (.lit (.int (n : Int))) (.len (.arg 0)))).holds [] { args := [.list (ns.map .int)] } = true := by
      have h4 := (holds_andW hc).1
      rw [hn] at h4
      exact h4
    have h5 := condW_of h4 (w_not (w_lt w_lit (w_len_list (w_arg rfl))))
    rw [List.length_map] at h5
    refine Nat.le_of_not_lt fun q => ?_
    have q' : (n : Int) < ((ns.length : Nat) : Int) := by omega
    first
      | (rw [decide_eq_true q'] at h5; exact absurd h5 (by decide))
      | (simp at h5; omega)
  cases hwl with
  | cons w1 w2 =>
    cases w2
    cases w1 with
    | list ho hall => exact ⟨_, _, ns, rfl, rfl, ho, ints_of_wellAll ns _ hall, hlen⟩
theorem post_true (l : OpenLaw) (args : List WData) : l.row.toRowW.claim.post args (.bool true) args = true :=
  postW_of (r := l.row.toRowW) (X := (true == true))
    (show WShape.has [] (.bool true) .bool = true by first | rfl | decide | simp [WShape.has, WShape.arms, WShape.armsAll])
    (show (WTm.eq .res (.lit (.bool true))).value [] { args := args, res := some (.bool true), after := args } = some (.bool (true == true)) from w_eq_bool (w_res rfl) w_lit) rfl
theorem attach_call {l : OpenLaw} {n : Nat} {q : Program} {loose : List Str} {XP : (Str → Option Value) → Heap → Prop} {YP : World → Heap → Prop} {d : DefRec}
    (hn : l.most = some n) (hdf : d.params.defaults = [])
    (call : ∀ (w : World) (s₀ s₁ : Shared) (mg mb : Str → Option Value) (fa : Addr) (o : Obj) (pm cd doc : Value) (a : Addr) (vs : List Value) (ns : List Int),
      Ground q loose [] XP w s₀ mg mb s₁.heap → YP w s₁.heap →
      s₁.heap.get? fa = some o → o.data = .func (docDef d.name d.params d.body d.scope pm cd doc) → s₁.heap.CodeRec cd d.name → mg d.name = some (.ref fa) →
      s₁.heap.get? a = some { cls := .type "list", data := .seq vs.toArray } → IntsAre vs ns → ns.length ≤ n → s₁.gens = #[] →
      codeAny (model l.prog w) callerA (.call (.ref fa) ⟨[.ref a], []⟩) (fun r s' => r = .ok (.ret (.bool true)) ∧ OldK s₁.heap s'.heap ∧ s'.os = s₁.os ∧ AllBare s'.gens) s₁) :
    WalkO q loose XP YP l.row.toRowW d [] (fun f vs => PySem.call f vs) := by
  intro w s₀ s₁ mg mb G Y fa o pm cd doc dV kV ho hd hcd hD hmg hg args vals as hpre hlay hrd hwl hlo
  obtain rfl : dV = .none := Dflts.none hD hdf
  obtain rfl : kV = .none := Dflts.noKw hD
  obtain ⟨a, vs, ns, rfl, rfl, hobj, hints, hlen⟩ := script_of hn hpre hwl
  refine enter_call (codeAny_mono (call w s₀ s₁ mg mb fa o pm cd doc a vs ns G Y ho (fd_plain hd) hcd hmg hobj hints hlen hg) fun r s' hq => ?_)
  obtain ⟨rfl, h2, h3, h4⟩ := hq
  exact ⟨.inl ⟨.bool true, .bool true, [], rfl, fun _ => rfl, .bool true, post_true l _, fun _ => ⟨List.Pairwise.nil, fun _ hm => (nomatch hm)⟩⟩, h2, h3, h4⟩
section
variable {prog : Program} {w : World} {A : Around} {E : Value → Shared → Prop} {s : Shared} {K : Frag}
end
end Att
namespace L2
open PySem PySem.Spec PyProof.Rows
theorem vals_ints : ∀ {vs : List Value} {ns : List Int}, IntsAre vs ns → Vals (ns.map V.int) vs
  | _, _, .nil => .nil
  | _, _, .cons n t h => .cons ⟨t, rfl⟩ (vals_ints h)
def Only (H : Hp) : Prop := ∀ b, H b = none ∨ ∃ o xs, H b = some (.frz o (.lst xs))
theorem law_call {P : Program} {w : World} {K : PySem.W.Frag} {mg mb : Str → Option Value} {CX : CXT} {k : Nat} {fa a : Addr} {fd : FuncData} {x : Str} {sp : Sp} {s₁ : Shared} {vs : List Value} {ns : List Int}
    (KX : K.In s₁.heap) (hns : s₁.heap.Ns mainGlobals mg) (hb : s₁.heap.Ns builtinsNs mb) (hbb : ∀ x : Str, x ≠ "__name__" → mb x = bootBuiltins x) (hlim : s₁.heap.NoLimit) (hg : s₁.gens = #[])
    (ha : s₁.heap.get? a = some { cls := .type "list", data := .seq vs.toArray }) (hi : IntsAre vs ns) (hl : ns.length ≤ sizeLine) (hr : Room k callerA)
    (F : ∀ base : Heap, K.In base → base.Ns mainGlobals mg → FnOk P w K mg base CX k fa fd [x] sp) (hbind : ∀ (s : Shared) (u : Value), BindsTo s fd ⟨[u], []⟩ [(x, u)])
    (hsp : ∀ H : Hp, Only H → SqL K H a (ns.map V.int) → sp [.ref a] H (fun v _ => v = .bl true) fun _ _ _ => False)
    (hCX : ∀ H e s', CX [] H s₁ (fun _ _ _ => False) e s' → False) :
    codeAny (model P w) callerA (.call (.ref fa) ⟨[.ref a], []⟩) (fun r s' => r = .ok (.ret (.bool true)) ∧ OldK s₁.heap s'.heap ∧ s'.os = s₁.os ∧ AllBare s'.gens) s₁ := by
  have rv := vals_ints hi
  have lenV := hi.length
  -- from an abstract heap in which nothing but the script may be tracked
  have core : ∀ H : Hp, Only H → SqL K H a (ns.map V.int) → HOk P w H s₁.heap → (∀ b, H b ≠ none → b = a) → (H a ≠ none → K.lookup a = none) →
      codeAny (model P w) callerA (.call (.ref fa) ⟨[.ref a], []⟩) (fun r s' => r = .ok (.ret (.bool true)) ∧ OldK s₁.heap s'.heap ∧ s'.os = s₁.os ∧ AllBare s'.gens) s₁ := by
    intro H hO hS hok hA hK
    have base_of : ∀ {b : Addr} {o : Obj}, s₁.heap.get? b = some o → H b = none → (hidT s₁.heap H).get? b = some o := fun e n => hidT_get e n
    have noA : ∀ {b : Addr} {o : Obj} {es : Array DictEntry} {ep : Nat}, s₁.heap.get? b = some o → o.data = .dict es ep → H b = none := fun {b o es ep} e d => by
      cases q : H b with
      | none => rfl
      | some u =>
        have e' : b = a := hA b (by rw [q]; simp)
        subst e'
        rw [ha] at e; cases e
        have d' : Data.seq vs.toArray _ = Data.dict es ep := d
        cases d'
    have nsK : ∀ {b : Addr} {m : Str → Option Value}, s₁.heap.Ns b m → (hidT s₁.heap H).Ns b m := fun {b m} ⟨o, es, ep, e, d, r⟩ => ⟨o, es, ep, base_of e (noA e d), d, r⟩
    have hKb : K.In (hidT s₁.heap H) := fun b o e => base_of (KX b o e) (by
      cases q : H b with
      | none => rfl
      | some u =>
        have e' : b = a := hA b (by rw [q]; simp)
        subst e'
        rw [hK (by rw [q]; simp)] at e; cases e)
    have hM : Mod K mg (hidT s₁.heap H) := ⟨hKb, nsK hns, ⟨mb, nsK hb, hbb⟩, let ⟨mc, h1, h2⟩ := hlim; ⟨mc, nsK h1, h2⟩⟩
    have e0 : Env0 P w K mg (hidT s₁.heap H) callerA [] s₁ H := ⟨rfl, hM, fun b o e => of_hidT e, Nat.le_of_eq (hidT_size _ _), trivial, fun b hb => absurd (show b ∈ ([] : List Addr) from hb) (by simp), hok, .of_eq hg⟩
    refine codeAny_mono ((F _ hKb (nsK hns)).run callerA [] s₁ H ⟨[.ref a], []⟩ [.ref a] [.ref a] _ _ hr e0 (hbind s₁ (.ref a)) (.cons rfl .nil) (hsp H hO hS)) fun r s' h => ?_
    cases r with
    | error e => exact (hCX H e s' h).elim
    | ok fl =>
      cases fl with
      | next => exact False.elim h
      | brk => exact False.elim h
      | cont => exact False.elim h
      | ret u =>
        obtain ⟨v, H', os, bare, un, hok', r', q⟩ := h
        have q' : v = .bl true := q
        subst q'
        obtain rfl : u = Value.bool true := r'
        refine ⟨rfl, OldK.of_keep fun b o e => ?_, os, bare⟩
        cases q : H b with
        | none => exact un.keep b o e q (by intro z; exact absurd (show b ∈ ([] : List Addr) from z) (by simp)) (by simp)
        | some u =>
          rcases hO b with z | ⟨ob, xs, z⟩
          · rw [q] at z; cases z
          · have z2 := un.frzs b ob _ z
            obtain ⟨e1, _⟩ := hok b _ z
            obtain ⟨e2, _⟩ := hok' b _ z2
            rw [e] at e1; cases e1
            exact e2
  cases hk : K.lookup a with
  | some o =>
    -- the script is one of the module's own objects
    have e := KX a o hk
    rw [ha] at e
    cases e
    refine core (fun _ => none) (fun _ => .inl rfl) (.inr ⟨_, vs.toArray, _, hk, rfl, rfl, rfl, by rw [List.size_toArray, lenV]; exact hl, by simpa using rv⟩) (fun b u z => by have z' : (none : Option HO) = some u := z; cases z') (fun b z => absurd rfl z) fun z => absurd rfl z
  | none =>
    refine core (fun b => if b = a then some (.frz { cls := .type "list", data := .seq vs.toArray } (.lst (ns.map V.int))) else none) (fun b => ?_) (.inl (.inr ⟨{ cls := .type "list", data := .seq vs.toArray }, if_pos rfl⟩)) (fun b u z => ?_) (fun b z => ?_) fun _ => hk
    · by_cases hb : b = a
      · exact .inr ⟨_, _, if_pos hb⟩
      · exact .inl (if_neg hb)
    · by_cases hb : b = a
      · have z' := (if_pos hb).symm.trans z
        cases z'
        subst hb
        exact ⟨ha, by rw [List.length_map]; exact hl, vs, _, rv, ha⟩
      · have z' := (if_neg hb).symm.trans z
        cases z'
    · by_cases hb : b = a
      · exact hb
      · exact absurd (if_neg hb) z
end L2
namespace L2
open PySem PySem.Spec PyProof.Rows
theorem walk_of {l : PySem.W.OpenLaw} {n k : Nat} {q : Program} {loose : List Str} {XP : (Str → Option Value) → Heap → Prop} {YP : World → Heap → Prop} {d : DefRec} {K : Params → PySem.W.Frag} {CX : World → CXT} {sp : World → Sp} {x : Str}
    (hn : l.most = some n) (hn2 : n ≤ sizeLine) (hdf : d.params.defaults = []) (hr : Room k callerA)
    (hY : ∀ (w : World) (h : Heap), YP w h → (K w.params).In h)
    (F : ∀ (w : World) (mg : Str → Option Value) (fa : Addr) (h : Heap), (K w.params).In h → h.Ns mainGlobals mg → mg d.name = some (.ref fa) →
      ∃ fd : FuncData, (∀ (s : Shared) (u : Value), BindsTo s fd ⟨[u], []⟩ [(x, u)]) ∧
        ∀ base : Heap, (K w.params).In base → base.Ns mainGlobals mg → FnOk l.prog w (K w.params) mg base (CX w) k fa fd [x] (sp w))
    (hsp : ∀ (w : World) (H : Hp) (a : Addr) (ns : List Int), ns.length ≤ n → Only H → SqL (K w.params) H a (ns.map V.int) → sp w [.ref a] H (fun v _ => v = .bl true) fun _ _ _ => False)
    (hCX : ∀ (w : World) (H : Hp) (s : Shared) (e : Value) (s' : Shared), CX w [] H s (fun _ _ _ => False) e s' → False) :
    PySem.W.WalkO q loose XP YP l.row.toRowW d [] (fun f vs => PySem.call f vs) := by
  refine Att.attach_call hn hdf fun w s₀ s₁ mg mb fa o pm cd doc a vs ns G Y ho hd hcd hmg hobj hints hlen hg => ?_
  have KX := hY w _ Y
  obtain ⟨fd, hb, hF⟩ := F w mg fa _ KX G.T.g hmg
  exact law_call KX G.T.g G.T.b G.T.builtins G.T.nolimit hg hobj hints (Nat.le_trans hlen hn2) hr hF hb (fun H hO hS => hsp w H a ns hlen hO hS) fun H e s' => hCX w H s₁ e s'
end L2
namespace L2
open PySem PySem.Spec PyProof.Rows
def defArgs (s : Stmt) : Arguments := match s with
  | .FunctionDef _ a _ _ _ _ _ _ _ _ => a
  | _ => { posonlyargs := [], args := [], vararg := none, kwonlyargs := [], kw_defaults := [], kwarg := none, defaults := [] }
def defBody (s : Stmt) : List Stmt := match s with
  | .FunctionDef _ _ b _ _ _ _ _ _ _ => b
  | _ => []
def defScope (s : Stmt) : Scope := match s with
  | .FunctionDef _ _ _ _ _ _ sc _ _ _ => sc
  | _ => { kind := .function, names := [], isGenerator := false, isCoroutine := false }
abbrev CX0 : CXT := fun _ _ _ _ _ _ => False
abbrev E0 : XK := fun _ _ _ => False
theorem pass0 {X : Cx} : Passes CX0 X E0 := fun _ _ _ _ _ _ _ h => h.elim
structure Fun (K : PySem.W.Frag) (x qual : Str) (st : Stmt) (f : Addr) (fd : FuncData) : Prop where
  ex : ∃ (oc : Value) (od : Option Addr) (kV doc pm : Value) (an : Option Addr) (cdv ct : Value) (osl : Array (Option Value)),
    fd = PySem.W.fnOf x qual (defArgs st) (defBody st) (defScope st) .none kV doc pm an cdv ct ∧ K.lookup f = some ⟨oc, od, .func fd, osl⟩ ∧ PySem.W.codeIn K cdv qual = true
  kp : PySem.W.keepIn K (.ref f) = true
section
variable {P : Program} {w : World} {K : PySem.W.Frag} {mg : Str → Option Value} {base : Heap}
theorem Fun.ok {x qual : Str} {st : Stmt} {f : Addr} {fd : FuncData} {N ps : List Str} {k : Nat} {sp : Sp} (F : Fun K x qual st f fd) (S : FnScope N ps (defScope st)) (len : ∀ vs H Q E, sp vs H Q E → vs.length = ps.length)
    (hbody : ∀ (cdv : Value) (A : Around) (outer : List Env) (s : Shared) (H : Hp) (vs : List V) (Q : VK) (E : XK), Room k (A.deeper (envOfC qual (defScope st) s.heap.objs.size f cdv)) → sp vs H Q E →
      ∃ t, PSs (cxOf CX0 P w K mg base N qual (defScope st) f cdv A outer s H E).nox (defBody st) t ∧ t { nx := fun _ H' => Q .non H', rt := Q } (start N vs) H) : FnOk P w K mg base CX0 (k + 1) f fd ps sp := by
  obtain ⟨oc, od, kV, doc, pm, an, cdv, ct, osl, rfl, lk, hcd⟩ := F.ex
  refine fn_of lk hcd S len fun A outer s H vs Q E hr hsp => ?_
  obtain ⟨t, h, q⟩ := hbody cdv A outer s H vs Q E hr hsp
  exact ⟨t, h.nox, q⟩
theorem Fun.binds {x qual : Str} {st : Stmt} {f : Addr} {fd : FuncData} {ps : List Str} (F : Fun K x qual st f fd)
    (h : ∀ (kV doc pm : Value) (an : Option Addr) (cdv ct : Value) (us : List Value), us.length = ps.length → bindArgs (PySem.W.fnOf x qual (defArgs st) (defBody st) (defScope st) .none kV doc pm an cdv ct) ⟨us, []⟩ = pure (ps.zip us)) : Binds K fd ps [] := by
  obtain ⟨oc, od, kV, doc, pm, an, cdv, ct, osl, rfl, lk, hcd⟩ := F.ex
  exact .all (h kV doc pm an cdv ct)
theorem fun_mk {x qual : Str} {st : Stmt} {f : Addr} {oc : Value} {od an : Option Addr} {osl : Array (Option Value)} {kV doc pm cdv ct : Value} (l : K.lookup f = some ⟨oc, od, .func (PySem.W.fnOf x qual (defArgs st) (defBody st) (defScope st) .none kV doc pm an cdv ct), osl⟩)
    (c : PySem.W.codeIn K cdv qual = true) (k : PySem.W.keepIn K (.ref f) = true) : Fun K x qual st f (PySem.W.fnOf x qual (defArgs st) (defBody st) (defScope st) .none kV doc pm an cdv ct) := ⟨⟨oc, od, kV, doc, pm, an, cdv, ct, osl, rfl, l, c⟩, k⟩
end
theorem hu_of {A : Around} {k : Nat} (hr : Room k A) : A.units + 1 < cLine := Nat.lt_of_le_of_lt (Nat.add_le_add_left (by decide : 1 ≤ 64) _) hr.units
section
variable {X : Cx}
theorem pv (i : Nat) {x : Str} {pos : Pos} (hN : X.N[i]? = some x := by rfl) (hv : Vis X.env.scope x := by first | exact Or.inl rfl | exact Or.inr (Or.inl rfl) | exact Or.inr (Or.inr rfl)) (hd : (x == ("__debug__" : Str)) = false := by decide)
    (hcd : (x == ("__classdict__" : Str)) = false := by decide) : PE X (.Name x pos) (tVar i) := pe_var hN hv hd hcd
end
theorem iteF {A B : Prop} (h : B) : if false = true then A else B := by
  rw [if_neg Bool.false_ne_true]
  exact h
theorem iteT {A B : Prop} (h : A) : if true = true then A else B := by
  rw [if_pos rfl]
  exact h
theorem ite2 {c A B : Prop} [Decidable c] (h1 : c → A) (h2 : ¬ c → B) : if c then A else B := by
  by_cases h : c
  · rw [if_pos h]
    exact h1 h
  · rw [if_neg h]
    exact h2 h
def Same (H H' : Hp) : Prop := ∀ b o, H b = some o → H' b = some o
theorem Same.refl (H : Hp) : Same H H := fun _ _ h => h
theorem Same.trans {H H1 H2 : Hp} (a : Same H H1) (b : Same H1 H2) : Same H H2 := fun c o h => b c o (a c o h)
theorem Same.free {H H' : Hp} (e : Same H H') {l : Addr} (h : H' l = Option.none) : H l = Option.none := by
  cases q : H l with
  | none => rfl
  | some o =>
    rw [e l o q] at h
    cases h
theorem Same.seq {K : PySem.W.Frag} {H H' : Hp} {a : Addr} {xs : List V} (e : Same H H') (h : SqL K H a xs) : SqL K H' a xs := by
  rcases h with (h | ⟨o, h⟩) | h
  · exact .inl (.inl (e _ _ h))
  · exact .inl (.inr ⟨o, e _ _ h⟩)
  · exact .inr h
end L2
namespace L2
open PySem PySem.Spec PyProof.Rows
section
variable {κ : Type} [DecidableEq κ]
def valV (kvs : List (κ × V)) (k : κ) : Option V := (kvs.find? fun kv => decide (kv.1 = k)).map (·.2)
def putK (kvs : List (κ × V)) (k : κ) (v : V) : List (κ × V) :=
  if (kvs.any fun kv => decide (kv.1 = k)) = true then kvs.map (fun kv => if kv.1 = k then (kv.1, v) else kv) else kvs ++ [(k, v)]
def dropK (kvs : List (κ × V)) (k : κ) : List (κ × V) := kvs.filter fun kv => decide (kv.1 ≠ k)
theorem valV_pos {p : κ × V} {r : List (κ × V)} {k : κ} (e : p.1 = k) : valV (p :: r) k = some p.2 := by simp [valV, List.find?_cons, e]
theorem valV_neg {p : κ × V} {r : List (κ × V)} {k : κ} (e : ¬ p.1 = k) : valV (p :: r) k = valV r k := by simp [valV, List.find?_cons, e]
theorem valV_any (k : κ) : ∀ kvs : List (κ × V), (kvs.any fun kv => decide (kv.1 = k)) = (valV kvs k).isSome
  | [] => rfl
  | p :: r => by
    rw [List.any_cons]
    by_cases e : p.1 = k
    · simp only [valV_pos e, decide_eq_true e, Bool.true_or, Option.isSome_some]
    · rw [valV_neg e, decide_eq_false e, Bool.false_or]; exact valV_any k r
theorem valV_map (k j : κ) (y : V) : ∀ kvs : List (κ × V), valV (kvs.map fun kv => if kv.1 = k then (kv.1, y) else kv) j = (valV kvs j).map fun x => if j = k then y else x
  | [] => rfl
  | p :: r => by
    have ih := valV_map k j y r
    rw [List.map_cons]
    by_cases h : p.1 = k
    · rw [if_pos h]
      by_cases e : p.1 = j
      · rw [valV_pos (p := (p.1, y)) e, valV_pos e, Option.map_some, if_pos (e.symm.trans h)]
      · rw [valV_neg (p := (p.1, y)) e, valV_neg e, ih]
    · rw [if_neg h]
      by_cases e : p.1 = j
      · rw [valV_pos (p := p) e, valV_pos e, Option.map_some, if_neg (fun z => h (e.trans z))]
      · rw [valV_neg (p := p) e, valV_neg e, ih]
theorem valV_snoc (k j : κ) (y : V) : ∀ kvs : List (κ × V), valV kvs k = none → valV (kvs ++ [(k, y)]) j = if j = k then some y else valV kvs j
  | [], _ => by
    by_cases e : k = j
    · rw [if_pos e.symm]; exact valV_pos (p := (k, y)) e
    · rw [if_neg (fun z => e z.symm)]; exact valV_neg (p := (k, y)) e
  | p :: r, hn => by
    rw [List.cons_append]
    have hk : ¬ p.1 = k := fun z => by rw [valV_pos z] at hn; cases hn
    rw [valV_neg hk] at hn
    have ih := valV_snoc k j y r hn
    by_cases e : p.1 = j
    · rw [valV_pos e, valV_pos e, if_neg (fun z => hk (e.trans z))]
    · rw [valV_neg e, valV_neg e, ih]
theorem valV_put (kvs : List (κ × V)) (k j : κ) (y : V) : valV (putK kvs k y) j = if j = k then some y else valV kvs j := by
  unfold putK
  by_cases a : (kvs.any fun kv => decide (kv.1 = k)) = true
  · rw [if_pos a, valV_map]
    rw [valV_any] at a
    by_cases e : j = k
    · obtain ⟨x, hx⟩ := Option.isSome_iff_exists.mp a
      rw [if_pos e, e, hx, Option.map_some, if_pos rfl]
    · rw [if_neg e]
      cases valV kvs j with
      | none => rfl
      | some x => rw [Option.map_some, if_neg e]
  · rw [if_neg a]
    refine valV_snoc k j y kvs ?_
    rw [valV_any] at a
    cases q : valV kvs k with
    | none => rfl
    | some x => rw [q] at a; exact (a rfl).elim
theorem length_putK (kvs : List (κ × V)) (k : κ) (v : V) : (putK kvs k v).length ≤ kvs.length + 1 := by
  unfold putK
  split
  · rw [List.length_map]; omega
  · rw [List.length_append, List.length_cons, List.length_nil]; omega
theorem RelO.isSome_eq {o : Option V} {u : Option Value} (r : RelO o u) : o.isSome = u.isSome := by
  cases o with
  | none => cases u with
    | none => rfl
    | some _ => exact (show False from r).elim
  | some _ => cases u with
    | none => exact (show False from r).elim
    | some _ => rfl
theorem RelO.getD {o : Option V} {u : Option Value} {d : V} {d' : Value} (r : RelO o u) (rd : RelV d d') : RelV (o.getD d) (u.getD d') := by
  cases o with
  | none => cases u with
    | none => exact rd
    | some _ => exact (show False from r).elim
  | some _ => cases u with
    | none => exact (show False from r).elim
    | some _ => exact r
theorem KV.val {kvs : List (κ × V)} {vs : List (κ × Value)} (r : KV kvs vs) (k : κ) : RelO (valV kvs k) (valueAt vs k) := by
  unfold KV at r
  induction r with
  | nil => exact True.intro
  | @cons p q ps qs h t ih =>
    obtain ⟨h1, h2⟩ := h
    by_cases e : p.1 = k
    · have e' : q.1 = k := h1.symm.trans e
      have b : valueAt (q :: qs) k = some q.2 := by simp [valueAt, List.find?_cons, e']
      rw [valV_pos e, b]; exact h2
    · have e' : ¬ q.1 = k := fun z => e (h1.trans z)
      have b : valueAt (q :: qs) k = valueAt qs k := by simp [valueAt, List.find?_cons, e']
      rw [valV_neg e, b]; exact ih
theorem KV.any {kvs : List (κ × V)} {vs : List (κ × Value)} (r : KV kvs vs) (k : κ) : (kvs.any fun kv => decide (kv.1 = k)) = vs.any fun kv => decide (kv.1 = k) := by
  unfold KV at r
  induction r with
  | nil => rfl
  | cons h t ih => rw [List.any_cons, List.any_cons, ih, h.1]
theorem KV.repl {kvs : List (κ × V)} {vs : List (κ × Value)} (r : KV kvs vs) (k : κ) {y : V} {u : Value} (ry : RelV y u) :
    KV (kvs.map fun kv => if kv.1 = k then (kv.1, y) else kv) (vs.map fun kv => if kv.1 = k then (kv.1, u) else kv) := by
  unfold KV at r ⊢
  induction r with
  | nil => exact .nil
  | @cons p q ps qs h t ih =>
    rw [List.map_cons, List.map_cons]
    refine .cons ?_ ih
    obtain ⟨h1, h2⟩ := h
    by_cases e : p.1 = k
    · rw [if_pos e, if_pos (h1.symm.trans e)]; exact ⟨h1, ry⟩
    · rw [if_neg e, if_neg (fun z => e (h1.trans z))]; exact ⟨h1, h2⟩
theorem KV.put {kvs : List (κ × V)} {vs : List (κ × Value)} (r : KV kvs vs) (k : κ) {y : V} {u : Value} (ry : RelV y u) : KV (putK kvs k y) (stored vs k u) := by
  unfold putK stored
  rw [r.any k]
  by_cases e : (vs.any fun kv => decide (kv.1 = k)) = true
  · rw [if_pos e, if_pos e]; exact r.repl k ry
  · rw [if_neg e, if_neg e]; exact Paired.snoc r ⟨rfl, ry⟩
theorem KV.drop {kvs : List (κ × V)} {vs : List (κ × Value)} (r : KV kvs vs) (k : κ) : KV (dropK kvs k) (without vs k) := by
  unfold KV at r ⊢
  unfold dropK without
  induction r with
  | nil => exact .nil
  | @cons p q ps qs h t ih =>
    obtain ⟨h1, h2⟩ := h
    rw [List.filter_cons, List.filter_cons]
    by_cases e : p.1 = k
    · have a : ¬ decide (p.1 ≠ k) = true := by simp [e]
      have b : ¬ decide (q.1 ≠ k) = true := by simp [h1.symm.trans e]
      rw [if_neg a, if_neg b]; exact ih
    · have e' : ¬ q.1 = k := fun z => e (h1.trans z)
      have a : decide (p.1 ≠ k) = true := by simp [e]
      have b : decide (q.1 ≠ k) = true := by simp [e']
      rw [if_pos a, if_pos b]; exact .cons ⟨h1, h2⟩ ih
theorem KV.keys {kvs : List (κ × V)} {vs : List (κ × Value)} (r : KV kvs vs) : kvs.map (·.1) = vs.map (·.1) := by
  unfold KV at r
  induction r with
  | nil => rfl
  | cons h t ih => rw [List.map_cons, List.map_cons, ih, h.1]
theorem KV.length {kvs : List (κ × V)} {vs : List (κ × Value)} (r : KV kvs vs) : kvs.length = vs.length := Paired.length r
end
theorem kV_is {P : Program} {w : World} {k : Key} {u : Value} (r : RelV (kV k) u) : (mixKind P w).is k u = true := by
  cases k with
  | inl i => obtain ⟨t, e⟩ := (show ∃ t, u = Value.int i t from r); subst e; exact mixKind_int P w i t
  | inr x => obtain ⟨t, e⟩ := (show ∃ t, u = Value.str x t from r); subst e; exact mixKind_str P w x t
theorem items_are {P : Program} {w : World} : ∀ {ks : List Key} {us : List Value}, Vals (ks.map kV) us → ItemsAre (mixKind P w) ks us
  | [], _, r => by rw [List.map_nil] at r; cases r; exact .nil
  | k :: ks, _, r => by
    rw [List.map_cons] at r
    cases r with
    | cons h t => exact .cons (kV_is h) (items_are t)
abbrev KT (H : Hp) : List (List Key × V) → List (List Key × Addr × Value) → Prop := Paired fun p q => p.1 = q.1 ∧ H q.2.1 = some (.tup (p.1.map kV)) ∧ RelV p.2 q.2.2
theorem KT.val {H : Hp} {kvs : List (List Key × V)} {xs : List (List Key × Addr × Value)} (r : KT H kvs xs) (k : List Key) : RelO (valV kvs k) ((atKey xs k).map (·.2)) := by
  induction r with
  | nil => exact True.intro
  | @cons p q ps qs h t ih =>
    obtain ⟨h1, _, h2⟩ := h
    by_cases e : p.1 = k
    · have e' : q.1 = k := h1.symm.trans e
      have b : atKey (q :: qs) k = some q.2 := by simp [atKey, List.find?_cons, e']
      rw [valV_pos e, b]; exact h2
    · have e' : ¬ q.1 = k := fun z => e (h1.trans z)
      have b : atKey (q :: qs) k = atKey qs k := by simp [atKey, List.find?_cons, e']
      rw [valV_neg e, b]; exact ih
theorem KT.repl {H : Hp} {kvs : List (List Key × V)} {xs : List (List Key × Addr × Value)} (r : KT H kvs xs) (k : List Key) {y : V} {u : Value} (ry : RelV y u) :
    KT H (kvs.map fun kv => if kv.1 = k then (kv.1, y) else kv) (xs.map (putAt k u)) := by
  induction r with
  | nil => exact .nil
  | @cons p q ps qs h t ih =>
    rw [List.map_cons, List.map_cons]
    refine .cons ?_ ih
    obtain ⟨h1, h2, h3⟩ := h
    unfold putAt
    by_cases e : p.1 = k
    · rw [if_pos e, if_pos (h1.symm.trans e)]; exact ⟨h1, h2, ry⟩
    · rw [if_neg e, if_neg (fun z => e (h1.trans z))]; exact ⟨h1, h2, h3⟩
theorem KT.put {H : Hp} {kvs : List (List Key × V)} {xs : List (List Key × Addr × Value)} (r : KT H kvs xs) (k : List Key) {b : Addr} {y : V} {u : Value} (hb : H b = some (.tup (k.map kV))) (ry : RelV y u) :
    KT H (putK kvs k y) (storedH xs k b u) := by
  have e : (kvs.any fun kv => decide (kv.1 = k)) = (atKey xs k).isSome := by
    rw [valV_any, (r.val k).isSome_eq, Option.isSome_map]
  unfold putK storedH
  rw [e]
  by_cases q : (atKey xs k).isSome = true
  · rw [if_pos q, if_pos q]; exact r.repl k ry
  · rw [if_neg q, if_neg q]; exact Paired.snoc r ⟨rfl, hb, ry⟩
theorem KT.keeps {H H' : Hp} {kvs : List (List Key × V)} {xs : List (List Key × Addr × Value)} (r : KT H kvs xs) (ht : ∀ b ys, H b = some (.tup ys) → H' b = some (.tup ys)) : KT H' kvs xs :=
  Paired.mapP r fun _ _ z => ⟨z.1, ht _ _ z.2.1, z.2.2⟩
section
variable {P : Program} {w : World} {H : Hp} {h : Heap} {a : Addr}
theorem rd_of {u : HO} (ok : HOk P w H h) (e : Rd H a u) : ObjOk P w H h a u := e.ok ok
theorem dk_rd {kvs : List (Key × V)} (ok : HOk P w H h) (e : Rd H a (.dK kvs)) : kvs.length ≤ sizeLine ∧ (a == sysModules) = false ∧ ∃ vs, KV kvs vs ∧ h.DictOf (mixKind P w) a vs :=
  show ObjOk P w H h a (.dK kvs) from rd_of ok e
theorem dk_of {kvs : List (Key × V)} (ok : HOk P w H h) (e : H a = some (.dK kvs)) : kvs.length ≤ sizeLine ∧ (a == sysModules) = false ∧ ∃ vs, KV kvs vs ∧ h.DictOf (mixKind P w) a vs := dk_rd ok (.inl e)
theorem key_of {ks : List Key} (ok : HOk P w H h) (e : H a = some (.tup (ks.map kV))) : (tupleKind (mixKind P w)).is h ks a := by
  obtain ⟨_, its, r, ⟨o, h1, h2, n, h3⟩, _⟩ := (show ObjOk P w H h a (.tup (ks.map kV)) from ok a _ e)
  exact ⟨o, its.toArray, n, h1, h2, h3, by simpa using items_are r⟩
theorem dt_rd {kvs : List (List Key × V)} (ok : HOk P w H h) (e : Rd H a (.dT kvs)) : kvs.length ≤ sizeLine ∧ (a == sysModules) = false ∧
    ∃ xs, KT H kvs xs ∧ h.DictOfH (tupleKind (mixKind P w)) a xs := by
  obtain ⟨z, y, xs, r, o, es, ep, h1, h2, h3, h4, h5⟩ := (show ObjOk P w H h a (.dT kvs) from rd_of ok e)
  refine ⟨z, y, xs, r, o, es, ep, h1, h2, h3, h4, fun x hx => ?_, h5⟩
  have all : ∀ {l : List (List Key × V)} {m : List (List Key × Addr × Value)}, KT H l m → ∀ x ∈ m, (tupleKind (mixKind P w)).is h x.1 x.2.1 := by
    intro l m q
    induction q with
    | nil => intro x hx; exact nomatch hx
    | @cons p q ps qs hq t ih =>
      intro x hx
      rcases List.mem_cons.mp hx with e | hx
      · subst e
        exact key_of ok (by rw [← hq.1]; exact hq.2.1)
      · exact ih x hx
  exact all r x hx
theorem dt_of {kvs : List (List Key × V)} (ok : HOk P w H h) (e : H a = some (.dT kvs)) : kvs.length ≤ sizeLine ∧ (a == sysModules) = false ∧
    ∃ xs, KT H kvs xs ∧ h.DictOfH (tupleKind (mixKind P w)) a xs := dt_rd ok (.inl e)
end
def DGet (H : Hp) (a : Addr) (y : V) (r : Option V) : Prop :=
  (∃ kvs k, Rd H a (.dK kvs) ∧ y = kV k ∧ r = valV kvs k) ∨ ∃ kvs k b, Rd H a (.dT kvs) ∧ y = .ref b ∧ H b = some (.tup (k.map kV)) ∧ r = valV kvs k
def DPut (H : Hp) (a : Addr) (y v : V) (H' : Hp) : Prop :=
  (∃ kvs k, H a = some (.dK kvs) ∧ y = kV k ∧ kvs.length < sizeLine ∧ H' = upd H a (.dK (putK kvs k v))) ∨
  ∃ kvs k b, H a = some (.dT kvs) ∧ y = .ref b ∧ H b = some (.tup (k.map kV)) ∧ kvs.length < sizeLine ∧ H' = upd H a (.dT (putK kvs k v))
theorem DGet.k {H : Hp} {a : Addr} {kvs : List (Key × V)} {k : Key} (e : H a = some (.dK kvs)) : DGet H a (kV k) (valV kvs k) := .inl ⟨kvs, k, .inl e, rfl, rfl⟩
theorem DGet.t {H : Hp} {a b : Addr} {kvs : List (List Key × V)} {k : List Key} (e : H a = some (.dT kvs)) (eb : H b = some (.tup (k.map kV))) : DGet H a (.ref b) (valV kvs k) := .inr ⟨kvs, k, b, .inl e, rfl, eb, rfl⟩
theorem DPut.k {H : Hp} {a : Addr} {kvs : List (Key × V)} {k : Key} {v : V} (e : H a = some (.dK kvs)) (hl : kvs.length < sizeLine) : DPut H a (kV k) v (upd H a (.dK (putK kvs k v))) := .inl ⟨kvs, k, e, rfl, hl, rfl⟩
theorem DPut.t {H : Hp} {a b : Addr} {kvs : List (List Key × V)} {k : List Key} {v : V} (e : H a = some (.dT kvs)) (eb : H b = some (.tup (k.map kV))) (hl : kvs.length < sizeLine) :
    DPut H a (.ref b) v (upd H a (.dT (putK kvs k v))) := .inr ⟨kvs, k, b, e, rfl, eb, hl, rfl⟩
section
variable {X : Cx} {pins : List (Addr × Obj)} {σ : St} {H : Hp} {s : Shared} {a : Addr} {y v : V} {u r : Value} {o : Option V} {A : Around} {E : Value → Shared → Prop}
theorem Inv.big (I : Inv X pins σ H s) : sysModules < s.heap.objs.size := by
  have h : mainGlobals < s.heap.objs.size := (I.mod.glob.keeps I.bk).lt
  exact Nat.lt_trans (by decide) h
theorem d_getItem {Q : Value → Shared → Prop} (hu : A.units + 1 < cLine) (I : Inv X pins σ H s) (g : DGet H a y (some v)) (ry : RelV y u) (h : ∀ w' s', Inv X pins σ H s' → RelV v w' → Q w' s') :
    wpAny (model X.prog X.w) A (getItem (.ref a) u) Q E s := by
  rcases g with ⟨kvs, k, e, ey, l⟩ | ⟨kvs, k, b, e, ey, eb, l⟩
  · subst ey
    obtain ⟨z, hd, vs, rel, dd⟩ := dk_rd I.hok e
    obtain ⟨w', hw, rw'⟩ := RelO.some_of (v := v) (o := valueAt vs k) (by rw [l]; exact rel.val k)
    exact wpAny_getItem_of (kV_is ry) dd.mapOf hw (h w' _ (I.tok _) rw')
  · subst ey
    cases (show u = Value.ref b from ry)
    obtain ⟨z, hd, xs, rel, dd⟩ := dt_rd I.hok e
    obtain ⟨w', hw, rw'⟩ := RelO.some_of (v := v) (o := (atKey xs k).map (·.2)) (by rw [l]; exact rel.val k)
    obtain ⟨p, hp, hp2⟩ := Option.map_eq_some_iff.mp hw
    refine wpAny_getItem_heap (tupleKind_room_in1 hu) (key_of I.hok eb) dd hp ?_
    rw [hp2]
    exact h w' _ (I.tok _) rw'
theorem d_notIn {Q : Value → Shared → Prop} (hu : A.units + 1 < cLine) (I : Inv X pins σ H s) (g : DGet H a y o) (ry : RelV y u) (h : ∀ s', Inv X pins σ H s' → Q (.bool (!o.isSome)) s') :
    wpAny (model X.prog X.w) A (compareOp .NotIn u (.ref a)) Q E s := by
  rcases g with ⟨kvs, k, e, ey, l⟩ | ⟨kvs, k, b, e, ey, eb, l⟩
  · subst ey
    obtain ⟨z, hd, vs, rel, dd⟩ := dk_rd I.hok e
    refine wpAny_notIn_of (kV_is ry) hd dd.mapOf ?_
    rw [← (rel.val k).isSome_eq, ← l]
    exact h _ (I.tok _)
  · subst ey
    cases (show u = Value.ref b from ry)
    obtain ⟨z, hd, xs, rel, dd⟩ := dt_rd I.hok e
    refine wpAny_notIn_heap (tupleKind_room_in1 hu) (key_of I.hok eb) hd dd ?_
    have q := (rel.val k).isSome_eq
    rw [Option.isSome_map] at q
    rw [← q, ← l]
    exact h _ (I.tok _)
theorem d_write {h' : Heap} {t' : Nat} {ob : HO} (I : Inv X pins σ H s) (mu : Mut (H a)) (hs : Heap.SameBut a s.heap h') (he : ∃ q, h'.get? a = some q) (new : ObjOk X.prog X.w (upd H a ob) h' a ob) :
    Inv X pins σ (upd H a ob) { s with heap := h', toks := t' } :=
  I.write (x := a) (e := a) mu (.inl rfl) (fun b q hb z => (hs.2 b hb).trans z) he new
theorem dk_new {P : Program} {w : World} {H' : Hp} {h' : Heap} {kvs : List (Key × V)} {vs : List (Key × Value)} (z : kvs.length ≤ sizeLine) (hd : (a == sysModules) = false) (rel : KV kvs vs) (dd : h'.DictOf (mixKind P w) a vs) :
    ObjOk P w H' h' a (.dK kvs) := ⟨z, hd, vs, rel, dd⟩
theorem d_setItem {H' : Hp} {Q : Unit → Shared → Prop} (hu : A.units + 1 < cLine) (I : Inv X pins σ H s) (g : DPut H a y v H') (ry : RelV y u) (rv : RelV v r) (h : ∀ s', Inv X pins σ H' s' → Q () s') :
    wpAny (model X.prog X.w) A (setItem (.ref a) u r) Q E s := by
  rcases g with ⟨kvs, k, e, ey, l, eH⟩ | ⟨kvs, k, b, e, ey, eb, l, eH⟩
  · subst ey eH
    obtain ⟨z, hd, vs, rel, dd⟩ := dk_of I.hok e
    have hz : vs.length ≤ sizeLine := by rw [← rel.length]; exact z
    have hl : (putK kvs k v).length ≤ sizeLine := by have := length_putK kvs k v; omega
    refine wpAny_setItem_pairs (hsz := hz) (kV_is ry) dd fun h' dd' hs => h _ ?_
    have he : ∃ q, h'.get? a = some q := let ⟨q, _, _, hq, _⟩ := dd'; ⟨q, hq⟩
    exact d_write I (by rw [e]; exact True.intro) hs he (dk_new hl hd (rel.put k rv) dd')
  · subst ey eH
    cases (show u = Value.ref b from ry)
    obtain ⟨z, hd, xs, rel, dd⟩ := dt_of I.hok e
    have hz : xs.length ≤ sizeLine := by rw [← Paired.length rel]; exact z
    have hl : (putK kvs k v).length ≤ sizeLine := by have := length_putK kvs k v; omega
    refine wpAny_setItem_heap (hsz := hz) (tupleKind_room_in1 hu) (key_of I.hok eb) dd fun h' dd' hs => h _ ?_
    obtain ⟨q, es, ep, hq, h2, h3, h4, _, h5⟩ := dd'
    refine d_write I (by rw [e]; exact True.intro) hs ⟨q, hq⟩ ⟨hl, hd, _, (rel.put k eb rv).keeps fun c ys ec => ?_, q, es, ep, hq, h2, h3, h4, h5⟩
    rw [upd_ne (ne_of ec e (fun z => nomatch z))]
    exact ec
end
section
variable {X : Cx} {pins : List (Addr × Obj)} {σ : St} {H : Hp} {s : Shared} {a : Addr} {kvs : List (Key × V)} {k : Key} {u : Value} {A : Around} {E : Value → Shared → Prop}
end
def NoSl (i : Expr) : Prop := ∀ ov iv, subscripted i false ov iv = operate [ov, iv] (getItem ov iv)
theorem subD_of {prog : Program} {w : World} {A : Around} {E : Value → Shared → Prop} {s : Shared} {env : Env} {value slice : Expr} {pos : Pos} {T id : String} {Q : Value → Shared → Prop}
    (hl : typeLookup (.type T) "__getitem__" = pure (some (.builtin id))) (hs : NoSl slice)
    (h : wpAny (model prog w) A (eval value env) (fun o s₁ => wpAny (model prog w) A (eval slice env) (fun i s₂ => s₂.TypeIs o T ∧ wpAny (model prog w) A (getItem o i) Q E s₂) E s₁) E s) :
    wpAny (model prog w) A (eval (.Subscript value slice pos) env) Q E s := by
  refine Subscript_ (wpAny_mono h (fun o s₁ h₁ => wpAny_mono h₁ (fun i s₂ h₂ => ?_) fun _ _ x => x) fun _ _ x => x)
  obtain ⟨hT, h₂⟩ := h₂
  unfold subscriptTail
  refine wpAny_bind ?_
  rw [getitemInPython_of_ne hT.not_modules]
  refine wpAny_bind (wpAny_specialOf hT hl ?_)
  have fin : wpAny (model prog w) A (subscripted slice false o i) (fun r s₃ => wpAny (model prog w) A (letTemporaryGo value o r >>= fun _ => pure r) Q E s₃) E s₂ := by
    rw [hs o i]
    exact wpAny_operating (wpAny_mono h₂ (fun r s₃ h₃ => wpAny_bind (wpAny_letTemporaryGo (wpAny_pure h₃))) fun _ _ x => x)
  first
    | exact wpAny_pure (wpAny_bind fin)
    | exact wpAny_bind (wpAny_pure (wpAny_bind fin))
    | exact wpAny_bind fin
theorem dict_typeIs {X : Cx} {pins : List (Addr × Obj)} {σ : St} {H : Hp} {s : Shared} {a : Addr} {y : V} {o : Option V} (I : Inv X pins σ H s) (g : DGet H a y o) : s.TypeIs (.ref a) "dict" := by
  rcases g with ⟨kvs, k, e, _, _⟩ | ⟨kvs, k, b, e, _, _, _⟩
  · obtain ⟨_, _, vs, _, dd⟩ := dk_rd I.hok e
    exact dd.typeIs
  · obtain ⟨_, _, xs, _, dd⟩ := dt_rd I.hok e
    exact dd.typeIs
def tDGet (td ty : TE) : TE := fun σ H Q => td σ H fun x H1 => ty σ H1 fun y H2 => ∃ a v, x = .ref a ∧ DGet H2 a y (some v) ∧ Q v H2
def tDNotIn (ty td : TE) : TE := fun σ H Q => ty σ H fun y H1 => td σ H1 fun x H2 => ∃ a o, x = .ref a ∧ DGet H2 a y o ∧ Q (.bl (!o.isSome)) H2
def sDPut (td ty tv : TE) : TS := fun D σ H => tv σ H fun v H1 => td σ H1 fun x H2 => ty σ H2 fun y H3 => ∃ a H4, x = .ref a ∧ DPut H3 a y v H4 ∧ D.nx σ H4
section
variable {X : Cx} {o i e value : Expr} {pos pos' tpos : Pos} {td ty tv : TE}
theorem pe_dget (hu : X.A.units + 1 < cLine) (ho : PE X o td) (hi : PE X i ty) (hs : NoSl i) : PE X (.Subscript o i pos) (tDGet td ty) := by
  intro pins s σ H Q I h
  refine subD_of PySem.F.slot_dict_getitem.lookup hs (thn (ho pins s σ H _ I h) fun u s1 ⟨x, H1, I1, rx, q1⟩ => thn (hi pins s1 σ H1 _ I1 q1) fun iv s2 ⟨y, H2, I2, ry, a, v, ex, g, q2⟩ => ?_)
  subst ex
  obtain rfl : u = Value.ref a := rx
  exact ⟨dict_typeIs I2 g, d_getItem hu I2 g ry fun w' s3 I3 rw' => ⟨v, H2, I3, rw', q2⟩⟩
theorem pc_dnotin (hu : X.A.units + 1 < cLine) (hi : PE X i ty) (ho : PE X o td) : PC X .NotIn i o (tDNotIn ty td) := by
  intro pins s σ H Q I h
  refine thn (hi pins s σ H _ I h) fun iv s1 ⟨y, H1, I1, ry, q1⟩ => thn (ho pins s1 σ H1 _ I1 q1) fun u s2 ⟨x, H2, I2, rx, a, ov, ex, g, q2⟩ => ?_
  subst ex
  obtain rfl : u = Value.ref a := rx
  exact d_notIn hu I2 g ry fun s3 I3 => ⟨.bl (!ov.isSome), H2, I3, rfl, q2⟩
theorem ps_dput (hu : X.A.units + 1 < cLine) (ho : PE X o td) (hi : PE X i ty) (hv : PE X value tv) (hs : swapsWith value (some (.Subscript o i pos')) pos.line X.env = pure false) :
    PS X (.Assign [.Subscript o i pos'] value pos) (sDPut td ty tv) := by
  intro pins s σ H D I h
  refine wpAny_Assign_Subscript (thn (hv pins s σ H _ I h) fun r s1 ⟨v, H1, I1, rv, q1⟩ => thn (ho pins s1 σ H1 _ I1 q1) fun u s2 ⟨x, H2, I2, rx, q2⟩ => thn (hi pins s2 σ H2 _ I2 q2) fun iv s3 ⟨y, H3, I3, ry, a, H4, ex, g, q3⟩ => ?_) hs
  subst ex
  obtain rfl : u = Value.ref a := rx
  exact d_setItem hu I3 g ry rv fun s4 I4 => ⟨σ, H4, I4, q3⟩
end
theorem dt_empty {P : Program} {w : World} {H : Hp} (h : Heap) (hb : sysModules < h.objs.size) : ObjOk P w H (h.push { cls := .type "dict", data := .dict #[] }) h.objs.size (.dT []) :=
  ⟨Nat.zero_le _, beq_eq_false_iff_ne.mpr (Ne.symm (Nat.ne_of_lt hb)), [], .nil, _, #[], 0, Heap.get?_push_size _ rfl, ⟨rfl, rfl, rfl⟩, rfl, rfl, List.nodup_nil⟩
def tDNewT : TE := fun _ H Q => ∀ p, H p = none → Q (.ref p) (upd H p (.dT []))
section
variable {X : Cx} {pos : Pos}
theorem pe_dnewT : PE X (.Dict [] [] pos) tDNewT := fun pins s σ H Q I h =>
  wpAny_Dict_empty ⟨.ref s.heap.objs.size, _, I.laid (a := s.heap.objs.size) (o := .dT []) (t' := s.toks) (fun _ _ q => Heap.get?_push_of_some _ q) (Nat.le_refl _) (dt_empty s.heap I.big), rfl, h _ (I.hok.fresh (Nat.le_refl _))⟩
end
section
variable {X : Cx} {pins : List (Addr × Obj)} {σ : St} {H : Hp} {s : Shared} {a : Addr} {y d : V} {u r : Value} {o : Option V} {A : Around} {E : Value → Shared → Prop}
end
section
variable {X : Cx} {o e f : Expr} {apos cpos : Pos} {td ty tx : TE}
end
section
variable {X : Cx} {pins : List (Addr × Obj)} {σ : St} {H : Hp} {s : Shared} {a : Addr} {kvs : List (Key × V)} {A : Around} {E : Value → Shared → Prop}
end
section
variable {X : Cx} {pins : List (Addr × Obj)} {σ : St} {H : Hp} {s : Shared} {a : Addr} {y : V} {u : Value} {A : Around} {E : Value → Shared → Prop}
end
end L2
set_option maxHeartbeats 4000000
namespace L2
open PySem
end L2
namespace L2
open PySem PySem.Spec PyProof.Rows
def cxComp (X : Cx) (scope : Scope) (x : Str) (C : Addr) (s : Shared) (H : Hp) (fp : List Addr) : Cx :=
  { X with
    N := [x]
    s₀ := s
    H₀ := H
    env := { scope := scope, locals := C, globals := X.env.globals, cells := [], qual := X.env.qual, func := none, code := X.env.code, frame := X.env.frame, builtins := X.env.builtins }
    outer := X.stack
    stack := X.stack
    ex := fp
    fn := fun _ => true
    pn := []
    xe := fun _ _ => False }
def tComp (wi : TI) (te : TE) : TE := fun σ H Q => wi σ H fun J H1 => ∀ D, H1 D = none → ∃ W : Nat → Nat → List V → Hp → Prop,
  (∃ m, W 0 m [] (upd H1 D (.lst []))) ∧ ∀ i m ys H2, W i m ys H2 → H2 D = some (.lst ys) ∧
    ((J.stop i H2 ∧ Q (.ref D) H2) ∨ (J.go i H2 ∧ ∀ x H3, J.yld i H2 x H3 → te [some x] H3 fun y H4 => H4 D = some (.lst ys) ∧ ys.length < sizeLine ∧ ∃ m', m' < m ∧ W (i + 1) m' (ys ++ [y]) (upd H4 D (.lst (ys ++ [y])))))
section
variable {X : Cx}
theorem pe_comp {elt iter : Expr} {x : Str} {px pos : Pos} {scope : Scope} {wi : TI} {te : TE} (hc : X.calm = true)
    (hfree : ∀ nk ∈ scope.names, nk.2 ≠ .free) (hcell : ∀ nk ∈ scope.names, nk.2 ≠ .cell) (hkind : scope.kind = .function)
    (hnames : ∀ nk ∈ scope.names, nk.2 = .local → scope.names.lookup nk.1 = some .local) (hx : scope.names.lookup x = some .local)
    (hi : PI X (.Name x px) iter wi) (he : ∀ C s H fp, PE (cxComp X scope x C s H fp) elt te)
    (hs : ∀ v, foldedSetIterable iter X.env v = pure v := by intro _; rfl) : PE X (.ListComp elt [⟨.Name x px, iter, [], 0⟩] scope pos) (tComp wi te) := by
  intro pins s σ H Q I h
  refine wpAny_ListComp hfree hkind hnames (thn (hi pins s σ H _ I h) fun v s1 h1 => thn h1 fun itv s2 h2 => ?_) hs
  obtain ⟨it, fp, tn, J, H2, e, I2, T, st2, f2, hR⟩ := h2
  subst e
  have hD0 : H2 s2.heap.objs.size = none := I2.fresh
  obtain ⟨W, ⟨m0, w0⟩, turnW⟩ := hR _ hD0
  have I3 : Inv X pins σ (upd H2 s2.heap.objs.size (.lst [])) { s2 with heap := s2.heap.push { cls := .type "list", data := .seq ([] : List Value).toArray } } := I2.lnew (t' := s2.toks) .nil (Nat.zero_le _)
  refine wpAny_newObj_type (wpAny_newFunctionEnv hcell (fun nk hnk => by simp at hnk) (fun h₁ hns₁ hsb₁ => ?_) hkind)
  dsimp only at hns₁ hsb₁ ⊢
  generalize hs3 : ({ s2 with heap := s2.heap.push { cls := .type "list", data := .seq ([] : List Value).toArray } } : Shared) = s3 at I3
  have eh3 : s3.heap = s2.heap.push { cls := .type "list", data := .seq ([] : List Value).toArray } := by rw [← hs3]
  have hC : s3.heap.objs.size = s2.heap.objs.size + 1 := by rw [eh3, Heap.size_push]
  have old : ∀ b o, s3.heap.get? b = some o → h₁.get? b = some o := fun b o e => by
    have hb : b ≠ s3.heap.objs.size := Nat.ne_of_lt (Heap.lt_size e)
    rw [eh3] at e hb
    exact hsb₁.extBut b o hb (Heap.get?_push_of_some _ e)
  have fpl : ∀ b ∈ fp, b < s2.heap.objs.size := fun b hb => let ⟨o, e, _⟩ := T.obj _ _ st2 b hb; Heap.lt_size e
  have fps : ∀ b ∈ fp, b ∉ frs X.stack := fun b hb z => (List.mem_cons.mp (I2.stkSub b z)).elim (f2 b hb).2.1 (f2 b hb).2.2.1
  let X' : Cx := cxComp X scope x s3.heap.objs.size s3 (upd H2 s2.heap.objs.size (.lst [])) fp
  have noc : ∀ (y : Str) (c : Addr), ¬ (([] : List (Str × Addr)).lookup y = some c) := fun y c e => by cases e
  have okX : X'.Ok := by
    refine ⟨I2.ok.mod, hkind, I2.ok.glob, I2.ok.blt, Nat.le_refl _, fun y z c e => absurd e (noc y c), fun y hy => ?_, fun y c _ e => absurd e (noc y c), I2.ok.hd, I2.ok.frames, .inl rfl, fun b hb => ⟨?_, fun y c e => absurd e (noc y c)⟩,
      I3.bs, Nat.le_trans I3.ok.bsz I3.sz, fun b o e hb => ?_, fps, I3.stack, I3.stkFree⟩
    · have hy' : scope.names.lookup y = some .cell ∨ scope.names.lookup y = some .free := hy
      rcases hy' with q | q
      · exact absurd rfl (hcell _ (PySem.mem_of_lookup q))
      · exact absurd rfl (hfree _ (PySem.mem_of_lookup q))
    · exact Nat.ne_of_lt (Nat.lt_of_lt_of_le (fpl b hb) (by show s2.heap.objs.size ≤ s3.heap.objs.size; rw [hC]; exact Nat.le_succ _))
    · rcases (f2 b hb).2.2.2.1 with z | z
      · exact I2.ok.noex b o e z
      · exact absurd (Nat.lt_of_lt_of_le (Heap.lt_size (I2.ok.bs b o e).1) z) (Nat.lt_irrefl _)
  have stat : ∀ {H' : Hp}, (∀ b ∈ fp, H' b = none) → ∀ b ∈ fp, FpOk X' [] H' b := fun hn b hb => by
    refine ⟨hn b hb, ?_, fps b hb, .inl hb, fun y c e => absurd e (noc y c), fun p hp => absurd (show p ∈ ([] : List (Addr × Obj)) from hp) (by simp)⟩
    exact Nat.ne_of_lt (Nat.lt_of_lt_of_le (fpl b hb) (by show s2.heap.objs.size ≤ s3.heap.objs.size; rw [hC]; exact Nat.le_succ _))
  have I4 : ∀ tk : Nat, Inv X' [] [none] (upd H2 s2.heap.objs.size (.lst [])) { s3 with heap := h₁, toks := tk } := fun tk => by
    refine ⟨okX, rfl, I3.bare, Un.kept old, ⟨_, by rw [← eh3] at hns₁; exact hns₁, fun i y v _ e2 _ => ?_⟩, fun y c e => absurd e (noc y c), I3.hok.fresh (Nat.le_refl _), fun y c e => absurd e (noc y c), fun p hp => absurd (show p ∈ ([] : List (Addr × Obj)) from hp) (by simp), I3.hok.kept old, rfl⟩
    cases i with
    | zero => simp at e2
    | succ i => simp at e2
  have fr0 : ∀ b ∈ fp, (upd H2 s2.heap.objs.size (.lst []) : Hp) b = none := fun b hb => by rw [upd_ne (Nat.ne_of_lt (fpl b hb))]; exact (f2 b hb).1
  have st4 : tn 0 h₁ := T.keep 0 _ _ st2 fun b hb o e => old b o (by rw [eh3]; exact Heap.get?_push_of_some _ e)
  have fin : ∀ {v0 : Option V} {H' : Hp} {s5 : Shared} {h' : Heap}, Inv X' [] [v0] H' s5 → Heap.SameBut s3.heap.objs.size s5.heap h' → Q (.ref s2.heap.objs.size) H' → EP X pins σ Q (.ref s2.heap.objs.size) { s5 with heap := h' } := by
    intro v0 H' s5 h' I5 sb q
    obtain ⟨hh, g, d, t, os'⟩ := s5
    have eo : os' = s3.os := I5.os
    subst eo
    have keepC : ∀ b o, b ≠ s3.heap.objs.size → hh.get? b = some o → h'.get? b = some o := fun b o hb e => sb.extBut b o hb e
    have ne3 : ∀ b o, s3.heap.get? b = some o → b ≠ s3.heap.objs.size := fun b o e => Nat.ne_of_lt (Heap.lt_size e)
    have u : Un (frs X.stack) fp (upd H2 s2.heap.objs.size (.lst [])) H' s3.heap hh := I5.base
    have un : Un (frs X.stack) fp (upd H2 s2.heap.objs.size (.lst [])) H' s3.heap h' :=
      ⟨fun b o e n hb hx => keepC b o (ne3 b o e) (u.keep b o e n hb hx), fun b o e n hb hx => let ⟨sl, q⟩ := u.slot b o e n hb hx; ⟨sl, keepC b _ (ne3 b o e) q⟩, u.free, fun b o e hx => let ⟨o', q⟩ := u.there b o e hx; ⟨o', keepC b o' (ne3 b o e) q⟩, u.tups, u.frzs, u.tbls⟩
    have hfree' : H' s3.heap.objs.size = none := I5.free
    have hok' : HOk X.prog X.w H' h' := fun b u e => by
      refine (I5.hok b u e).stay (fun c v hc q => keepC c v ?_ q) (fun _ q => q) fun _ _ q => q
      rcases hc with z | z
      · rw [z]; intro z2; rw [z2, hfree'] at e; cases e
      · intro z2; rw [z2, hfree'] at z; cases z
    have J := I3.call (h' := h') (g' := g) (d' := d) (t' := t) (ch := fp) un hok' I5.bare (fun b hb => let ⟨_, h1, _, h2, h3, h4⟩ := f2 b hb; ⟨h2, h1, h3, h4⟩)
    exact ⟨.ref s2.heap.objs.size, H', J, rfl, q⟩
  have loop : ∀ s4 : Shared, s4.heap = h₁ → (∃ tk, s4 = { s3 with heap := h₁, toks := tk }) →
      codeAny (model X.prog X.w) X.A (.compLoop (.ListComp elt [⟨.Name x px, iter, [], 0⟩] scope pos) 0 (.ref it) (.ref s2.heap.objs.size) X'.env)
        (fun r s' => ∃ m, s'.heap.Ns s3.heap.objs.size m ∧ ∀ h', Heap.SameBut s3.heap.objs.size s'.heap h' →
          match r with | .ok _ => EP X pins σ Q (.ref s2.heap.objs.size) { s' with heap := h' } | .error x => wpAny (model X.prog X.w) X.A (passOn "comprehension.variables-let-go" x X'.env) (EP X pins σ Q) X.xe { s' with heap := h' }) s4 := by
    rintro s4 e4 ⟨tk, rfl⟩
    refine codeAny_compLoop_list (fun n s' => ∃ i ys v0 H', Inv X' [] [v0] H' s' ∧ tn i s'.heap ∧ (∀ b ∈ fp, H' b = none) ∧ W i n ys H') ?_ m0 ⟨0, [], none, _, I4 tk, st4, fr0, w0⟩
    rintro n s5 ⟨i, ys, v0, H5, I5, st5, fr5, w5⟩
    obtain ⟨hD5, ⟨js, q⟩ | ⟨jg, step⟩⟩ := turnW i n ys H5 w5
    · refine wpAny_mono (T.done X' rfl rfl rfl hc i [] s5 _ H5 (fun _ _ => False) I5 (stat fr5) st5 js) (fun r s6 hr => ?_) fun _ _ z => z.elim
      obtain ⟨rfl, I6⟩ := hr
      obtain ⟨m, hn, _⟩ := I6.loc
      exact ⟨m, hn, fun h' sb => fin I6 sb q⟩
    · refine wpAny_mono (T.item X' rfl rfl rfl hc i [] s5 _ H5 (fun _ _ => False) I5 (stat fr5) st5 jg) (fun r s6 hr => ?_) fun _ _ z => z.elim
      obtain ⟨u, rfl, h6⟩ := hr
      show wpAny _ _ (letOwnedTupleGo (.Name x px) (.ref it) u >>= fun _ => assign (.Name x px) X'.env u) _ _ s6
      refine wpAny_bind (wpAny_mono h6 (fun _ s7 h7 => ?_) fun _ _ z => z.elim)
      obtain ⟨xv, H7, I7, r7, y7, st7, fr7⟩ := h7
      have I7' := I7.pinned (stat fr7) (T.obj _ _ st7)
      have nd : X'.N.Nodup := by show ([x] : List Str).Nodup; simp
      refine wpAny_mono (pg_name (X := X') (pos := px) (i := 0) (x := x) nd rfl (.inl hx) (.inl rfl) _ s7 [v0] H7 xv u (fun σ' H' => σ' = [some xv] ∧ H' = H7) I7' r7 ⟨rfl, rfl⟩) (fun _ s8 h8 => ?_) fun _ _ z => z.elim
      obtain ⟨σ8, H8, I8, rfl, rfl⟩ := h8
      refine wpAny_mono (he s3.heap.objs.size s3 (upd H2 s2.heap.objs.size (.lst [])) fp _ s8 [some xv] H8 _ I8 (step xv H8 y7)) (fun y s9 h9 => ?_) fun _ _ z => z.elim
      obtain ⟨yv, H9, I9, r9, hD9, hl9, m', lt, w9⟩ := h9
      refine wpAny_mono (mt_append (X := X') _ s9 [some xv] H9 (.ref s2.heap.objs.size) [yv] (.ref s2.heap.objs.size) [y] (fun _ H' => H' = upd H9 s2.heap.objs.size (.lst (ys ++ [yv]))) I9 rfl (.cons r9 .nil) ⟨_, ys, yv, rfl, rfl, hD9, hl9, rfl⟩) (fun _ s10 h10 => ?_) fun _ _ z => z.elim
      obtain ⟨_, H10, I10, _, rfl⟩ := h10
      refine ⟨m', lt, i + 1, ys ++ [yv], some xv, _, I10.unpinned, T.keep _ _ _ st7 fun b hb o e => (I10.pin (b, o) (List.mem_append_right _ (List.mem_append_right _ (mem_pinsAt hb e)))).1, fun b hb => ?_, w9⟩
      obtain ⟨o, e, d⟩ := T.obj _ _ st7 b hb
      exact (I10.pin (b, o) (List.mem_append_right _ (List.mem_append_right _ (mem_pinsAt hb e)))).2.1
  have L := loop { s3 with heap := h₁, toks := s2.toks + ([] : List (Str × Value)).length } rfl ⟨_, rfl⟩
  subst hs3
  exact codeAny_compStart_list L (T.self _ 0 _ _ _ st4 L)
end
section
variable {X : Cx} {tg : Expr}
end
theorem Same.new {H : Hp} {p : Addr} (h : H p = none) (o : HO) : Same H (upd H p o) := fun b u q => by rw [upd_ne (ne_of_none q h)]; exact q
theorem Same.put {H H' : Hp} {p : Addr} {o o' : HO} (e : Same (upd H p o) H') (h : H p = none) : Same H (upd H' p o') := fun b u q => by
  have hb : b ≠ p := ne_of_none q h
  rw [upd_ne hb]
  exact e b u (by rw [upd_ne hb]; exact q)
theorem vals_strs : ∀ l : List (Str × Tok), Vals (l.map fun p => V.str p.1) (strValues l)
  | [] => .nil
  | p :: r => .cons ⟨p.2, rfl⟩ (vals_strs r)
theorem vals_strs' {l : List (Str × Tok)} {ts : List Str} (h : l.map (·.1) = ts) : Vals (ts.map V.str) (strValues l) := by
  subst h
  rw [List.map_map]
  exact vals_strs l
theorem strsAre_vals : ∀ {ts : List Str} {us : List Value}, Vals (ts.map V.str) us → StrsAre us ts
  | [], _, .nil => .nil
  | t :: ts, _, .cons ⟨k, e⟩ r => by
    subst e
    exact .cons t k (strsAre_vals r)
section
variable {X : Cx}
theorem Inv.strs {pins : List (Addr × Obj)} {σ : St} {H : Hp} {s : Shared} (I : Inv X pins σ H s) {l : List (Str × Tok)} {ts : List Str} (h : l.map (·.1) = ts) (hz : ts.length ≤ sizeLine) (k : Nat) :
    Inv X pins σ (upd H s.heap.objs.size (.lst (ts.map V.str))) { s with heap := s.heap.push { cls := .type "list", data := .seq (strValues l).toArray }, toks := k } :=
  I.lnew (vals_strs' h) (by rw [List.length_map]; exact hz)
theorem Same.tup {K : PySem.W.Frag} {H H' : Hp} {a : Addr} {xs : List V} (e : Same H H') (h : SqT K H a xs) : SqT K H' a xs := by
  rcases h with (h | ⟨o, h⟩) | h
  · exact .inl (.inl (e _ _ h))
  · exact .inl (.inr ⟨o, e _ _ h⟩)
  · exact .inr h
end
end L2
namespace L2
open PySem PySem.Spec PyProof.Rows
theorem runs_toks {M : Model} {Γ : PySem.Ctx} {p : Pos} {t : Sem Fin} {fs : List Frame} {s s' : Shared} {e : End} (h : Runs M Γ p t fs s e s') : s.toks ≤ s'.toks := by
  induction h with
  | done => exact Nat.le_refl _
  | raise => exact Nat.le_refl _
  | yield => exact Nat.le_refl _
  | fresh _ ih => exact Nat.le_trans (Nat.le_succ _) ih
  | call _ _ a b => exact Nat.le_trans a b
  | resumeFresh _ _ _ _ a b => exact Nat.le_trans a b
  | resumeSuspended _ _ _ _ a b => exact Nat.le_trans a b
  | segRet _ _ a b => exact Nat.le_trans a b
  | segGen _ _ a b => exact Nat.le_trans a b
  | segSuspGen _ _ _ _ a b => exact Nat.le_trans a b
  | again _ _ ih => exact ih
  | rule _ ih => exact ih
  | «at» _ ih => exact ih
  | load _ _ ih => exact ih
  | update _ _ ih => exact ih
  | loadIfAlive _ ih => exact ih
  | point _ ih => exact ih
  | alloc _ ih => exact ih
  | ask _ ih => exact ih
  | choose _ _ ih => exact ih
  | os _ ih => exact ih
  | handled _ ih => exact ih
  | genState _ _ ih => exact ih
  | stack _ ih => exact ih
  | thread _ ih => exact ih
  | newGen _ ih => exact ih
  | callSusp _ ih => exact ih
  | resumeJustStarted _ _ _ ih => exact ih
  | resumeThrowFresh _ _ ih => exact ih
  | resumeRunning _ _ ih => exact ih
  | resumeFinished _ _ ih => exact ih
  | segSuspOut _ _ ih => exact ih
theorem wakes_toks {M : Model} {Γ : PySem.Ctx} {p : Pos} {g : Nat} {r : Resume} {s s' : Shared} {res : GenResult} (h : Wakes M Γ p g r s res s') : s.toks ≤ s'.toks := by
  unfold Wakes at h
  split at h
  · exact h.elim
  · split at h
    · obtain ⟨e1, s1, hr, _, _, rfl⟩ := h
      have := runs_toks hr
      exact this
    · obtain ⟨_, rfl⟩ := h; exact Nat.le_refl _
    · obtain ⟨_, rfl⟩ := h; exact Nat.le_refl _
  · obtain ⟨e1, s1, hr, _, _, rfl⟩ := h
    have := runs_toks hr
    exact this
  · obtain ⟨_, rfl⟩ := h; exact Nat.le_refl _
  · obtain ⟨_, rfl⟩ := h; exact Nat.le_refl _
theorem wp_toks {α : Type} {M : Model} {Γ : PySem.Ctx} (n : Nat) (t : Sem α) {Q : α → Pos → Shared → Prop} {E : Value → Pos → Shared → Prop} {p : Pos} {s : Shared} (hn : n ≤ s.toks) (h : Sem.wp M Γ t Q E p s) :
    Sem.wp M Γ t (fun a p' s' => Q a p' s' ∧ n ≤ s'.toks) E p s := by
  induction t generalizing p s with
  | pure a => exact ⟨h, hn⟩
  | raise v => exact h
  | unsupported => exact h
  | finish => exact h
  | yield => exact h
  | fork => exact h
  | await => exact h
  | register => exact h
  | rule _ k ih => exact ih _ hn h
  | «at» _ k ih => exact ih _ hn h
  | alloc _ k ih => exact ih _ hn h
  | loadIfAlive _ k ih => exact ih _ hn h
  | point _ k ih => exact ih _ hn h
  | fresh k ih => exact ih _ (Nat.le_succ_of_le hn) h
  | ask k ih => exact ih _ hn h
  | os _ _ k ih => exact ih _ hn h
  | handled _ k ih => exact ih _ hn h
  | newGen _ k ih => exact ih _ hn h
  | stack k ih => exact ih _ hn h
  | thread k ih => exact ih _ hn h
  | load a _ k ih => obtain ⟨o, ho, h⟩ := h; exact ⟨o, ho, ih _ hn h⟩
  | genState a k ih => obtain ⟨o, ho, h⟩ := h; exact ⟨o, ho, ih _ hn h⟩
  | update a _ f k ih => obtain ⟨ha, h⟩ := h; exact ⟨ha, ih _ hn h⟩
  | choose _ _ k ih => obtain ⟨ha, h⟩ := h; exact ⟨ha, ih _ hn h⟩
  | call c hh g l k ih => obtain ⟨r, s', hr, h⟩ := h; exact ⟨r, s', hr, ih r (Nat.le_trans hn (runs_toks hr)) h⟩
  | resume g r l k ih => obtain ⟨res, s', hw, h⟩ := h; exact ⟨res, s', hw, ih _ (Nat.le_trans hn (wakes_toks hw)) h⟩
theorem tk {α : Type} {M : Model} {A : Around} {t : Sem α} {Q : α → Shared → Prop} {E : Value → Shared → Prop} {s : Shared} (h : wpAny M A t Q E s) : wpAny M A t (fun a s' => Q a s' ∧ s.toks ≤ s'.toks) E s :=
  fun Γ p hΓ => wp_toks s.toks t (Nat.le_refl _) (h Γ p hΓ)
end L2
namespace L2
open PySem PySem.Spec PyProof.Rows
def PSk (X : Cx) (st : Stmt) (t : TS) : Prop :=
  ∀ (pins : List (Addr × Obj)) (s : Shared) (σ : St) (H : Hp) (D : Ends), 0 < s.toks → Inv X pins σ H s → t D σ H → wpAny (model X.prog X.w) X.A (exec st X.env) (SP X pins D) X.xe s
def PSsk (X : Cx) (st : List Stmt) (t : TS) : Prop :=
  ∀ (pins : List (Addr × Obj)) (s : Shared) (σ : St) (H : Hp) (D : Ends), 0 < s.toks → Inv X pins σ H s → t D σ H → wpAny (model X.prog X.w) X.A (execs st X.env) (SP X pins D) X.xe s
section
variable {X : Cx} {st : Stmt} {rest : List Stmt} {t u : TS} {e : Expr} {te : TE} {pos : Pos} {tg : Expr}
theorem PS.k (h : PS X st t) : PSk X st t := fun pins s σ H D _ I hw => h pins s σ H D I hw
theorem PSs.k (h : PSs X rest t) : PSsk X rest t := fun pins s σ H D _ I hw => h pins s σ H D I hw
end
end L2
namespace L2
open PySem PySem.Spec PyProof.Rows
section
variable {prog : Program} {w : World} {A : Around} {R : Result → Shared → Prop} {s : Shared}
theorem comp_turns {elt target iter : Expr} {ifs : List Expr} {scope : Scope} {pos : Pos} {it acc : Value} {env : Env} (I : Nat → Shared → Prop)
    (turn : ∀ n s, I n s → wpAny (model prog w) A (pyNext it) (fun r s1 => match r with
      | none => R (.ok .next) s1
      | some v => wpAny (model prog w) A (letOwnedTupleGo target it v) (fun _ s1' => wpAny (model prog w) A (assign target env v) (fun _ s2 =>
          wpAny (model prog w) A (forIn ifs true fun c r => if r = true then do let ok ← isTrue c env (eval c env); pure (ForInStep.yield ok) else pure (ForInStep.yield r)) (fun ok s3 =>
            if ok = true then wpAny (model prog w) A (eval elt env) (fun x s4 => wpAny (model prog w) A (call (.builtin "list.append") [acc, x]) (fun _ s5 => ∃ m, m < n ∧ I m s5) (fun _ _ => False) s4) (fun _ _ => False) s3
            else ∃ m, m < n ∧ I m s3) (fun _ _ => False) s2) (fun _ _ => False) s1') (fun _ _ => False) s1) (fun _ _ => False) s)
    (n : Nat) (h : I n s) : codeAny (model prog w) A (.compLoop (.ListComp elt [⟨target, iter, ifs, 0⟩] scope pos) 0 it acc env) R s := by
  refine codeAny_loop rfl I (fun n s hI => ?_) n h
  show wpAny _ A ((compTurn (.ListComp elt [⟨target, iter, ifs, 0⟩] scope pos) 0 it acc env).onRaise (fun x => do noteFrame x env; theTreesLotGoes x)) _ _ s
  refine wpAny_noted ?_
  rw [compTurn_list]
  refine wpAny_bind (wpAny_standAt (wpAny_bind (wpAny_mono (turn n s hI) (fun r s1 h1 => ?_) fun _ _ z => z.elim)))
  cases r with
  | none => exact wpAny_pure h1
  | some v =>
    refine wpAny_bind (wpAny_mono h1 (fun _ s1' h1' => wpAny_bind (wpAny_mono h1' (fun _ s2 h2 => wpAny_bind (wpAny_mono h2 (fun ok s3 h3 => ?_) fun _ _ z => z.elim)) fun _ _ z => z.elim)) fun _ _ z => z.elim)
    cases ok with
    | false => exact wpAny_pure ⟨rfl, h3⟩
    | true => exact wpAny_bind (wpAny_bind (wpAny_mono h3 (fun x s4 h4 => wpAny_bind (wpAny_mono h4 (fun _ s5 h5 => wpAny_pure (wpAny_pure ⟨rfl, h5⟩)) fun _ _ z => z.elim)) fun _ _ z => z.elim))
end
theorem clos_of {env : Env} : ∀ (names : List (Str × NameKind)) (acc : List (Str × Addr)), (∀ nk ∈ names, nk.2 = .free → ∃ c, env.cells.lookup nk.1 = some c) → (∀ y c, acc.lookup y = some c → env.cells.lookup y = some c) →
    ∃ cl, (forIn names acc (fun (x : Str × NameKind) (r : List (Str × Addr)) => (if x.2 == .free then do let a ← cellOf env x.1; pure (ForInStep.yield ((x.1, a) :: r)) else pure (ForInStep.yield r) : Sem (ForInStep (List (Str × Addr)))))) = (pure cl : Sem _) ∧
      (∀ y c, cl.lookup y = some c → env.cells.lookup y = some c) ∧ (∀ y c, acc.lookup y = some c → ∃ c, cl.lookup y = some c) ∧ ∀ y, names.lookup y = some .free → ∃ c, cl.lookup y = some c
  | [], acc, _, ha => ⟨acc, rfl, ha, fun y c e => ⟨c, e⟩, fun y e => by simp at e⟩
  | (n, k) :: names, acc, hf, ha => by
    cases hk : k == NameKind.free with
    | false =>
      obtain ⟨cl, e, h1, h2, h3⟩ := clos_of names acc (fun nk h => hf nk (List.mem_cons_of_mem _ h)) ha
      refine ⟨cl, ?_, h1, h2, fun y hy => ?_⟩
      · rw [List.forIn_cons]
        simp only [hk, Bool.false_eq_true, if_false]
        exact e
      · rw [List.lookup_cons] at hy
        cases hyn : y == n with
        | true => rw [hyn] at hy; cases hy; cases hk
        | false => rw [hyn] at hy; exact h3 y hy
    | true =>
      have ek : k = .free := eq_of_beq hk
      obtain ⟨c, hc⟩ := hf (n, k) (List.mem_cons_self ..) ek
      have ha' : ∀ y c', ((n, c) :: acc).lookup y = some c' → env.cells.lookup y = some c' := fun y c' e => by
        rw [List.lookup_cons] at e
        cases hyn : y == n with
        | true => rw [hyn] at e; cases e; rw [eq_of_beq hyn]; exact hc
        | false => rw [hyn] at e; exact ha y c' e
      obtain ⟨cl, e, h1, h2, h3⟩ := clos_of names ((n, c) :: acc) (fun nk h => hf nk (List.mem_cons_of_mem _ h)) ha'
      have in_acc : ∀ y c', acc.lookup y = some c' → ∃ c'', ((n, c) :: acc).lookup y = some c'' := fun y c' e => by
        rw [List.lookup_cons]
        cases hyn : y == n with
        | true => exact ⟨c, rfl⟩
        | false => exact ⟨c', e⟩
      refine ⟨cl, ?_, h1, fun y c' e' => let ⟨c'', e''⟩ := in_acc y c' e'; h2 y c'' e'', fun y hy => ?_⟩
      · have e0 : cellOf env n = pure c := by unfold cellOf; rw [hc]
        rw [List.forIn_cons]
        simp only [hk, if_true, e0]
        exact e
      · rw [List.lookup_cons] at hy
        cases hyn : y == n with
        | true => exact h2 y c (by rw [List.lookup_cons, hyn])
        | false => rw [hyn] at hy; exact h3 y hy
theorem closure_of {scope : Scope} {env : Env} (hf : ∀ nk ∈ scope.names, nk.2 = .free → ∃ c, env.cells.lookup nk.1 = some c) :
    ∃ cl, closureFor scope env = pure cl ∧ (∀ y c, cl.lookup y = some c → env.cells.lookup y = some c) ∧ ∀ y, scope.names.lookup y = some .free → ∃ c, cl.lookup y = some c := by
  obtain ⟨cl, e, h1, _, h3⟩ := clos_of (env := env) scope.names [] hf (fun y c e => by simp at e)
  refine ⟨cl, ?_, h1, h3⟩
  unfold closureFor
  simp only [bind_pure]
  exact e
theorem relab_free {env : Env} : ∀ {names : List (Str × NameKind)} {y : Str}, names.lookup y = some .free →
    (names.map fun (n, k) => if (k == NameKind.free && env.scope.kind == .function && env.kindOf n == some .cell) then (n, NameKind.cell) else (n, k)).lookup y = some .cell ∨
    (names.map fun (n, k) => if (k == NameKind.free && env.scope.kind == .function && env.kindOf n == some .cell) then (n, NameKind.cell) else (n, k)).lookup y = some .free
  | [], _, h => by simp at h
  | (n, k) :: r, y, h => by
    have ih := @relab_free env r y
    show List.lookup y ((if (k == NameKind.free && env.scope.kind == .function && env.kindOf n == some .cell) = true then (n, NameKind.cell) else (n, k)) :: _) = _ ∨ List.lookup y ((if (k == NameKind.free && env.scope.kind == .function && env.kindOf n == some .cell) = true then (n, NameKind.cell) else (n, k)) :: _) = _
    cases hx : y == n with
    | true =>
      simp only [List.lookup_cons, hx] at h
      cases h
      by_cases hc : (NameKind.free == NameKind.free && env.scope.kind == .function && env.kindOf n == some .cell) = true
      · rw [if_pos hc]; simp only [List.lookup_cons, hx]; exact .inl trivial
      · rw [if_neg hc]; simp only [List.lookup_cons, hx]; exact .inr trivial
    | false =>
      simp only [List.lookup_cons, hx] at h
      by_cases hc : (k == NameKind.free && env.scope.kind == .function && env.kindOf n == some .cell) = true
      · rw [if_pos hc]; simp only [List.lookup_cons, hx]; exact ih h
      · rw [if_neg hc]; simp only [List.lookup_cons, hx]; exact ih h
theorem relab_inv {env : Env} : ∀ {names : List (Str × NameKind)} {y : Str}, (∀ nk ∈ names, nk.2 ≠ .cell) →
    ((names.map fun (n, k) => if (k == NameKind.free && env.scope.kind == .function && env.kindOf n == some .cell) then (n, NameKind.cell) else (n, k)).lookup y = some .cell ∨
    (names.map fun (n, k) => if (k == NameKind.free && env.scope.kind == .function && env.kindOf n == some .cell) then (n, NameKind.cell) else (n, k)).lookup y = some .free) → names.lookup y = some .free
  | [], _, _, h => by simp at h
  | (n, k) :: r, y, hn, h => by
    have ih := @relab_inv env r y (fun nk h => hn nk (List.mem_cons_of_mem _ h))
    have h' : List.lookup y ((if (k == NameKind.free && env.scope.kind == .function && env.kindOf n == some .cell) = true then (n, NameKind.cell) else (n, k)) :: r.map fun (n, k) => if (k == NameKind.free && env.scope.kind == .function && env.kindOf n == some .cell) then (n, NameKind.cell) else (n, k)) = some .cell ∨ List.lookup y ((if (k == NameKind.free && env.scope.kind == .function && env.kindOf n == some .cell) = true then (n, NameKind.cell) else (n, k)) :: r.map fun (n, k) => if (k == NameKind.free && env.scope.kind == .function && env.kindOf n == some .cell) then (n, NameKind.cell) else (n, k)) = some .free := h
    cases hx : y == n with
    | true =>
      simp only [List.lookup_cons, hx]
      by_cases hc : (k == NameKind.free && env.scope.kind == .function && env.kindOf n == some .cell) = true
      · have : (k == NameKind.free) = true := by
          cases hk : k == NameKind.free with
          | true => rfl
          | false => rw [hk] at hc; simp at hc
        rw [eq_of_beq this]
      · rw [if_neg hc] at h'
        simp only [List.lookup_cons, hx] at h'
        rcases h' with h' | h'
        · cases h'; exact absurd rfl (hn (n, .cell) (List.mem_cons_self ..))
        · exact h'
    | false =>
      simp only [List.lookup_cons, hx]
      by_cases hc : (k == NameKind.free && env.scope.kind == .function && env.kindOf n == some .cell) = true
      · rw [if_pos hc] at h'; simp only [List.lookup_cons, hx] at h'; exact ih h'
      · rw [if_neg hc] at h'; simp only [List.lookup_cons, hx] at h'; exact ih h'
def cxCF (X : Cx) (scope : Scope) (cl : List (Str × Addr)) (Ns : List Str) (C : Addr) (s : Shared) (H : Hp) (fp : List Addr) : Cx :=
  { X with
    N := Ns
    s₀ := s
    H₀ := H
    env := compEnvC scope cl C X.env
    outer := X.stack
    stack := X.stack
    ex := fp
    fn := fun _ => false
    pn := []
    xe := fun _ _ => False }
def frOf (σ : St) (js : List Nat) : St := js.map fun j => (σ[j]?).join
def tCompF (wi : TI) (g : TG) (n : Nat) (js : List Nat) (tt : TT) (te : TE) : TE := fun σ H Q => wi σ H fun J H1 => ∀ D, H1 D = none → ∃ W : Nat → Nat → List V → Hp → Prop,
  (∃ m, W 0 m [] (upd H1 D (.lst []))) ∧ ∀ i m ys H2, W i m ys H2 → H2 D = some (.lst ys) ∧
    ((J.stop i H2 ∧ Q (.ref D) H2) ∨ (J.go i H2 ∧ ∀ x H3, J.yld i H2 x H3 → ∀ pre : St, pre.length = n → g x (pre ++ frOf σ js) H3 fun σ4 H4 => (∃ pre' : St, pre'.length = n ∧ σ4 = pre' ++ frOf σ js) ∧
      tt σ4 H4 fun b H5 => if b = true then te σ4 H5 (fun y H6 => H6 D = some (.lst ys) ∧ ys.length < sizeLine ∧ ∃ m', m' < m ∧ W (i + 1) m' (ys ++ [y]) (upd H6 D (.lst (ys ++ [y])))) else ∃ m', m' < m ∧ W (i + 1) m' ys H5))
def PTs (X : Cx) (ifs : List Expr) (t : TT) : Prop :=
  ∀ (pins : List (Addr × Obj)) (s : Shared) (σ : St) (H : Hp) (Q : Bool → Hp → Prop), Inv X pins σ H s → t σ H Q →
    wpAny (model X.prog X.w) X.A (forIn ifs true fun c r => if r = true then do let ok ← isTrue c X.env (eval c X.env); pure (ForInStep.yield ok) else pure (ForInStep.yield r)) (TP X pins σ Q) X.xe s
def tTrue : TT := fun _ H Q => Q true H
theorem pts_nil {X : Cx} : PTs X [] tTrue := fun _ _ _ H _ I h => wpAny_tests_nil ⟨H, I, h⟩
theorem pts_one {X : Cx} {c : Expr} {t : TT} (h : PT X c t) : PTs X [c] t := fun pins s σ H Q I hw => wpAny_tests_one (h pins s σ H Q I hw)
def FreeOk (X : Cx) (scope : Scope) : List Str → List Nat → Prop
  | [], [] => True
  | y :: ys, j :: js => X.N[j]? = some y ∧ (X.env.kindOf y = some .cell ∨ X.env.kindOf y = some .free) ∧ scope.names.lookup y = some .free ∧ FreeOk X scope ys js
  | _, _ => False
theorem FreeOk.at {X : Cx} {scope : Scope} : ∀ {ys : List Str} {js : List Nat}, FreeOk X scope ys js → ys.length = js.length ∧ ∀ (k : Nat) (y : Str), ys[k]? = some y → ∃ j, js[k]? = some j ∧ X.N[j]? = some y ∧ (X.env.kindOf y = some .cell ∨ X.env.kindOf y = some .free) ∧ scope.names.lookup y = some .free
  | [], [], _ => ⟨rfl, fun k y e => by simp at e⟩
  | [], _ :: _, h => h.elim
  | _ :: _, [], h => h.elim
  | y :: ys, j :: js, h => by
    obtain ⟨h1, h2, h3, h4⟩ := h
    obtain ⟨l, ih⟩ := FreeOk.at h4
    refine ⟨by simp [l], fun k y' e => ?_⟩
    cases k with
    | zero => simp at e; subst e; exact ⟨j, rfl, h1, h2, h3⟩
    | succ k => simpa using ih k y' (by simpa using e)
section
variable {X : Cx}
theorem pe_compF {elt iter target : Expr} {ifs : List Expr} {xs ys : List Str} {js : List Nat} {pos : Pos} {scope : Scope} {wi : TI} {g : TG} {tt : TT} {te : TE} (hc : X.calm = true)
    (hfree : ∀ nk ∈ scope.names, nk.2 = .free → nk.1 ∈ ys) (hcell : ∀ nk ∈ scope.names, nk.2 ≠ .cell) (hkind : scope.kind = .function)
    (hnames : ∀ nk ∈ scope.names, nk.2 = .local → scope.names.lookup nk.1 = some .local) (hfo : FreeOk X scope ys js)
    (hi : PI X target iter wi) (hg : ∀ cl C s H fp, PG (cxCF X scope cl (xs ++ ys) C s H fp) target g) (ht : ∀ cl C s H fp, PTs (cxCF X scope cl (xs ++ ys) C s H fp) ifs tt)
    (he : ∀ cl C s H fp, PE (cxCF X scope cl (xs ++ ys) C s H fp) elt te)
    (hs : ∀ v, foldedSetIterable iter X.env v = pure v := by intro _; rfl) : PE X (.ListComp elt [⟨target, iter, ifs, 0⟩] scope pos) (tCompF wi g xs.length js tt te) := by
  intro pins s σ H Q I h
  obtain ⟨ylen, yat⟩ := hfo.at
  have hkd : ∀ nk ∈ scope.names, nk.2 = .free → X.env.kindOf nk.1 = some .cell ∨ X.env.kindOf nk.1 = some .free := fun nk hnk hf => by
    obtain ⟨k, hk, e⟩ := List.mem_iff_getElem.mp (hfree nk hnk hf)
    obtain ⟨_, _, _, hk2, _⟩ := yat k nk.1 (by rw [List.getElem?_eq_getElem hk, e])
    exact hk2
  obtain ⟨cl, hclos, hsub, hhas⟩ := closure_of (scope := scope) (env := X.env) fun nk hnk hf => I.ok.has _ (hkd nk hnk hf)
  rw [eval_ListComp]
  refine wpAny_comprehension_free (use := none) rfl hs hclos hkind hnames (thn (hi pins s σ H _ I h) fun v s1 h1 => thn h1 fun itv s2 h2 => ?_)
  obtain ⟨it, fp, tn, J, H2, e, I2, T, st2, f2, hR⟩ := h2
  subst e
  have hD0 : H2 s2.heap.objs.size = none := I2.fresh
  obtain ⟨W, ⟨m0, w0⟩, turnW⟩ := hR _ hD0
  have I3 : Inv X pins σ (upd H2 s2.heap.objs.size (.lst [])) { s2 with heap := s2.heap.push { cls := .type "list", data := .seq ([] : List Value).toArray } } := I2.lnew (t' := s2.toks) .nil (Nat.zero_le _)
  refine wpAny_newObj_type (wpAny_newFunctionEnv hcell (fun nk hnk => by simp at hnk) (fun h₁ hns₁ hsb₁ => ?_) hkind)
  dsimp only at hns₁ hsb₁ ⊢
  generalize hs3 : ({ s2 with heap := s2.heap.push { cls := .type "list", data := .seq ([] : List Value).toArray } } : Shared) = s3 at I3
  have eh3 : s3.heap = s2.heap.push { cls := .type "list", data := .seq ([] : List Value).toArray } := by rw [← hs3]
  have hC : s3.heap.objs.size = s2.heap.objs.size + 1 := by rw [eh3, Heap.size_push]
  have old : ∀ b o, s3.heap.get? b = some o → h₁.get? b = some o := fun b o e => by
    have hb : b ≠ s3.heap.objs.size := Nat.ne_of_lt (Heap.lt_size e)
    rw [eh3] at e hb
    exact hsb₁.extBut b o hb (Heap.get?_push_of_some _ e)
  have fpl : ∀ b ∈ fp, b < s2.heap.objs.size := fun b hb => let ⟨o, e, _⟩ := T.obj _ _ st2 b hb; Heap.lt_size e
  have fps : ∀ b ∈ fp, b ∉ frs X.stack := fun b hb z => (List.mem_cons.mp (I2.stkSub b z)).elim (f2 b hb).2.1 (f2 b hb).2.2.1
  have fpc : ∀ b ∈ fp, ∀ y c, cl.lookup y = some c → c ≠ b := fun b hb y c e => (f2 b hb).2.2.2.2.1 y c (hsub y c e)
  have cne : ∀ y c, cl.lookup y = some c → c ≠ s3.heap.objs.size := fun y c e z => by
    obtain ⟨v, q⟩ := I3.cell y c (hsub y c e)
    exact absurd q.lt (by rw [z]; exact Nat.lt_irrefl _)
  let X' : Cx := cxCF X scope cl (xs ++ ys) s3.heap.objs.size s3 (upd H2 s2.heap.objs.size (.lst [])) fp
  have okX : X'.Ok := by
    refine ⟨I2.ok.mod, hkind, I2.ok.glob, I2.ok.blt, Nat.le_refl _, fun y z c e1 e2 => I2.ok.inj y z c (hsub _ _ e1) (hsub _ _ e2), fun y hy => hhas y (relab_inv hcell hy), fun y c z _ => absurd z (by simp [X', cxCF]), I2.ok.hd, I2.ok.frames, .inl rfl, fun b hb => ⟨?_, fun y c e => fpc b hb y c e⟩,
      I3.bs, Nat.le_trans I3.ok.bsz I3.sz, fun b o e hb => ?_, fps, I3.stack, I3.stkFree⟩
    · exact Nat.ne_of_lt (Nat.lt_of_lt_of_le (fpl b hb) (by show s2.heap.objs.size ≤ s3.heap.objs.size; rw [hC]; exact Nat.le_succ _))
    · rcases (f2 b hb).2.2.2.1 with z | z
      · exact I2.ok.noex b o e z
      · exact absurd (Nat.lt_of_lt_of_le (Heap.lt_size (I2.ok.bs b o e).1) z) (Nat.lt_irrefl _)
  have stat : ∀ {H' : Hp}, (∀ b ∈ fp, H' b = none) → ∀ b ∈ fp, FpOk X' [] H' b := fun hn b hb => by
    refine ⟨hn b hb, ?_, fps b hb, .inl hb, fun y c e => fpc b hb y c e, fun p hp => absurd (show p ∈ ([] : List (Addr × Obj)) from hp) (by simp)⟩
    exact Nat.ne_of_lt (Nat.lt_of_lt_of_le (fpl b hb) (by show s2.heap.objs.size ≤ s3.heap.objs.size; rw [hC]; exact Nat.le_succ _))
  have I4 : ∀ tk : Nat, Inv X' [] (List.replicate xs.length none ++ frOf σ js) (upd H2 s2.heap.objs.size (.lst [])) { s3 with heap := h₁, toks := tk } := fun tk => by
    refine ⟨okX, rfl, I3.bare, Un.kept old, ⟨_, by rw [← eh3] at hns₁; exact hns₁, fun i y v e1 e2 _ => ?_⟩, fun y c e => let ⟨v, q⟩ := I3.cell y c (hsub y c e); let ⟨o, q1, q2⟩ := q; ⟨v, o, old c o q1, q2⟩, I3.hok.fresh (Nat.le_refl _), fun y c e => I3.freeC y c (hsub y c e), fun p hp => absurd (show p ∈ ([] : List (Addr × Obj)) from hp) (by simp), I3.hok.kept old, by simp [X', cxCF, frOf, ylen]⟩
    by_cases hlt : i < xs.length
    · rw [List.getElem?_append_left (by simpa using hlt), List.getElem?_replicate, if_pos hlt] at e2
      cases e2
    · have hge : xs.length ≤ i := Nat.le_of_not_lt hlt
      have e1' : (xs ++ ys)[i]? = some y := e1
      rw [List.getElem?_append_right hge] at e1'
      rw [List.getElem?_append_right (by simpa using hge), List.length_replicate] at e2
      obtain ⟨j, hj, hN, hk, hfr⟩ := yat _ y e1'
      have e3 : (σ[j]?).join = some v := by
        unfold frOf at e2
        rw [List.getElem?_map, hj] at e2
        exact Option.some.inj e2
      have e4 : σ[j]? = some (some v) := by
        cases q : σ[j]? with
        | none => rw [q] at e3; cases e3
        | some w => rw [q] at e3; have : w = some v := e3; rw [this]
      obtain ⟨m3, _, hl3⟩ := I3.loc
      obtain ⟨u, ru, lk⟩ := hl3 j y v hN e4 (by rcases hk with z | z; exact .inr (.inl z); exact .inr (.inr z))
      refine ⟨u, ru, .inr ⟨relab_free hfr, ?_⟩⟩
      rcases lk with ⟨z, _⟩ | ⟨_, c, hc1, hc2⟩
      · rcases hk with z2 | z2 <;> rw [z] at z2 <;> cases z2
      · obtain ⟨c', hc'⟩ := hhas y hfr
        have : c' = c := by have := hsub y c' hc'; rw [hc1] at this; exact (Option.some.inj this).symm
        subst this
        obtain ⟨o, q1, q2⟩ := hc2
        exact ⟨c', hc', o, old c' o q1, q2⟩
  have fr0 : ∀ b ∈ fp, (upd H2 s2.heap.objs.size (.lst []) : Hp) b = none := fun b hb => by rw [upd_ne (Nat.ne_of_lt (fpl b hb))]; exact (f2 b hb).1
  have st4 : tn 0 h₁ := T.keep 0 _ _ st2 fun b hb o e => old b o (by rw [eh3]; exact Heap.get?_push_of_some _ e)
  have fin : ∀ {σ5 : St} {H' : Hp} {s5 : Shared} {h' : Heap}, Inv X' [] σ5 H' s5 → Heap.SameBut s3.heap.objs.size s5.heap h' → Q (.ref s2.heap.objs.size) H' → EP X pins σ Q (.ref s2.heap.objs.size) { s5 with heap := h' } := by
    intro σ5 H' s5 h' I5 sb q
    obtain ⟨hh, gg, d, t, os'⟩ := s5
    have eo : os' = s3.os := I5.os
    subst eo
    have keepC : ∀ b o, b ≠ s3.heap.objs.size → hh.get? b = some o → h'.get? b = some o := fun b o hb e => sb.extBut b o hb e
    have ne3 : ∀ b o, s3.heap.get? b = some o → b ≠ s3.heap.objs.size := fun b o e => Nat.ne_of_lt (Heap.lt_size e)
    have u : Un (frs X.stack) fp (upd H2 s2.heap.objs.size (.lst [])) H' s3.heap hh := I5.base
    have un : Un (frs X.stack) fp (upd H2 s2.heap.objs.size (.lst [])) H' s3.heap h' :=
      ⟨fun b o e n hb hx => keepC b o (ne3 b o e) (u.keep b o e n hb hx), fun b o e n hb hx => let ⟨sl, q⟩ := u.slot b o e n hb hx; ⟨sl, keepC b _ (ne3 b o e) q⟩, u.free, fun b o e hx => let ⟨o', q⟩ := u.there b o e hx; ⟨o', keepC b o' (ne3 b o e) q⟩, u.tups, u.frzs, u.tbls⟩
    have hfree' : H' s3.heap.objs.size = none := I5.free
    have hok' : HOk X.prog X.w H' h' := fun b u e => by
      refine (I5.hok b u e).stay (fun c v hc q => keepC c v ?_ q) (fun _ q => q) fun _ _ q => q
      rcases hc with z | z
      · rw [z]; intro z2; rw [z2, hfree'] at e; cases e
      · intro z2; rw [z2, hfree'] at z; cases z
    have J := I3.call (h' := h') (g' := gg) (d' := d) (t' := t) (ch := fp) un hok' I5.bare (fun b hb => let ⟨_, h1, _, h2, h3, h4⟩ := f2 b hb; ⟨h2, h1, h3, h4⟩)
    exact ⟨.ref s2.heap.objs.size, H', J, rfl, q⟩
  have loop : ∀ s4 : Shared, (∃ tk, s4 = { s3 with heap := h₁, toks := tk }) →
      codeAny (model X.prog X.w) X.A (.compLoop (.ListComp elt [⟨target, iter, ifs, 0⟩] scope pos) 0 (.ref it) (.ref s2.heap.objs.size) X'.env)
        (compPost (model X.prog X.w) X.A X.xe none (EP X pins σ Q) (.ref s2.heap.objs.size) s3.heap.objs.size) s4 := by
    rintro s4 ⟨tk, rfl⟩
    refine comp_turns (fun n s' => ∃ i ys' pre H', Inv X' [] (pre ++ frOf σ js) H' s' ∧ pre.length = xs.length ∧ tn i s'.heap ∧ (∀ b ∈ fp, H' b = none) ∧ W i n ys' H') ?_ m0 ⟨0, [], List.replicate xs.length none, _, I4 tk, by simp, st4, fr0, w0⟩
    rintro n s5 ⟨i, ys', pre, H5, I5, hpre, st5, fr5, w5⟩
    obtain ⟨hD5, ⟨js5, q⟩ | ⟨jg, step⟩⟩ := turnW i n ys' H5 w5
    · refine wpAny_mono (T.done X' rfl rfl rfl hc i [] s5 _ H5 (fun _ _ => False) I5 (stat fr5) st5 js5) (fun r s6 hr => ?_) fun _ _ z => z.elim
      obtain ⟨rfl, I6⟩ := hr
      obtain ⟨m, hn, _⟩ := I6.loc
      exact ⟨m, hn, fun h' sb => fin I6 sb q⟩
    · refine wpAny_mono (T.item X' rfl rfl rfl hc i [] s5 _ H5 (fun _ _ => False) I5 (stat fr5) st5 jg) (fun r s6 hr => ?_) fun _ _ z => z.elim
      obtain ⟨u, rfl, h6⟩ := hr
      refine wpAny_mono h6 (fun _ s7 h7 => ?_) fun _ _ z => z.elim
      obtain ⟨xv, H7, I7, r7, y7, st7, fr7⟩ := h7
      have I7' := I7.pinned (stat fr7) (T.obj _ _ st7)
      refine wpAny_mono (hg cl s3.heap.objs.size s3 (upd H2 s2.heap.objs.size (.lst [])) fp _ s7 _ H7 xv u _ I7' r7 (step xv H7 y7 pre hpre)) (fun _ s8 h8 => ?_) fun _ _ z => z.elim
      obtain ⟨σ8, H8, I8, ⟨pre', hpre', e8⟩, q8⟩ := h8
      subst e8
      refine wpAny_mono (ht cl s3.heap.objs.size s3 (upd H2 s2.heap.objs.size (.lst [])) fp _ s8 _ H8 _ I8 q8) (fun ok s9 h9 => ?_) fun _ _ z => z.elim
      obtain ⟨H9, I9, q9⟩ := h9
      have stay : ∀ {H' : Hp} {s' : Shared}, Inv X' ([] ++ pinsAt fp s7.heap) (pre' ++ frOf σ js) H' s' → tn (i + 1) s'.heap ∧ ∀ b ∈ fp, H' b = none := fun {H' s'} I' => by
        refine ⟨T.keep _ _ _ st7 fun b hb o e => (I'.pin (b, o) (List.mem_append_right _ (List.mem_append_right _ (mem_pinsAt hb e)))).1, fun b hb => ?_⟩
        obtain ⟨o, e, d⟩ := T.obj _ _ st7 b hb
        exact (I'.pin (b, o) (List.mem_append_right _ (List.mem_append_right _ (mem_pinsAt hb e)))).2.1
      cases ok with
      | false =>
        obtain ⟨m', lt, w9⟩ := (show ∃ m', m' < n ∧ W (i + 1) m' ys' H9 by simpa using q9)
        obtain ⟨k1, k2⟩ := stay I9
        exact ⟨m', lt, i + 1, ys', pre', H9, I9.unpinned, hpre', k1, k2, w9⟩
      | true =>
        have q9' : te (pre' ++ frOf σ js) H9 (fun y H6 => H6 s2.heap.objs.size = some (.lst ys') ∧ ys'.length < sizeLine ∧ ∃ m', m' < n ∧ W (i + 1) m' (ys' ++ [y]) (upd H6 s2.heap.objs.size (.lst (ys' ++ [y])))) := by simpa using q9
        refine wpAny_mono (he cl s3.heap.objs.size s3 (upd H2 s2.heap.objs.size (.lst [])) fp _ s9 _ H9 _ I9 q9') (fun y s10 h10 => ?_) fun _ _ z => z.elim
        obtain ⟨yv, H10, I10, r10, hD10, hl10, m', lt, w10⟩ := h10
        refine wpAny_mono (mt_append (X := X') _ s10 _ H10 (.ref s2.heap.objs.size) [yv] (.ref s2.heap.objs.size) [y] (fun _ H' => H' = upd H10 s2.heap.objs.size (.lst (ys' ++ [yv]))) I10 rfl (.cons r10 .nil) ⟨_, ys', yv, rfl, rfl, hD10, hl10, rfl⟩) (fun _ s11 h11 => ?_) fun _ _ z => z.elim
        obtain ⟨_, H11, I11, _, rfl⟩ := h11
        obtain ⟨k1, k2⟩ := stay I11
        exact ⟨m', lt, i + 1, ys' ++ [yv], pre', _, I11.unpinned, hpre', k1, k2, w10⟩
  have L := loop { s3 with heap := h₁, toks := s2.toks + ([] : List (Str × Value)).length } ⟨_, rfl⟩
  subst hs3
  exact codeAny_compStart_list L (T.self _ 0 _ _ _ st4 L)
end
structure Tells (J : It) (H1 : Hp) (xs : List V) : Prop where
  go : ∀ H2 i, Same H1 H2 → i < xs.length → J.go i H2
  yld : ∀ H2 i x H3, Same H1 H2 → J.yld i H2 x H3 → H3 = H2 ∧ xs[i]? = some x
  stop : ∀ H2, Same H1 H2 → J.stop xs.length H2
theorem tells_tup {K : PySem.W.Frag} {H1 : Hp} {a : Addr} {xs : List V} (h : SqT K H1 a xs) : Tells (Itt K a) H1 xs :=
  ⟨fun H2 i sm hi => ⟨xs, xs[i], sm.tup h, by simp [hi]⟩, fun H2 i x H3 sm y => by obtain ⟨e, y⟩ := y; exact ⟨e, y xs (sm.tup h)⟩, fun H2 sm => ⟨xs, sm.tup h, Nat.le_refl _⟩⟩
theorem tells_list {K : PySem.W.Frag} {H1 : Hp} {a : Addr} {xs : List V} (h : SqL K H1 a xs) : Tells (Itl K a) H1 xs :=
  ⟨fun H2 i sm hi => ⟨xs, xs[i], sm.seq h, by simp [hi]⟩, fun H2 i x H3 sm y => by obtain ⟨e, y⟩ := y; exact ⟨e, y xs (sm.seq h)⟩, fun H2 sm => ⟨xs, sm.seq h, Nat.le_refl _⟩⟩
end L2
namespace HT
open PySem PySem.Spec PyProof.Rows PySem.Builtin
section
variable {prog : Program} {w : World} {A : Around} {E : Value → Shared → Prop} {s : Shared}
end
end HT
namespace L2
open PySem PySem.Spec PyProof.Rows
section
variable {X : Cx}
end
end L2
namespace L2
open PySem PySem.Spec PyProof.Rows
section
variable {X : Cx}
variable {e : Expr} {es : List Expr} {te : TE} {t : TA} {tg : Expr}
end
end L2
namespace L2
open PySem PySem.Spec PyProof.Rows
section
variable {X : Cx}
theorem ps_compF {ix : Nat} {yn : Str} {py spos : Pos} {elt iter target : Expr} {ifs : List Expr} {xs ys : List Str} {js : List Nat} {pos : Pos} {scope : Scope} {wi : TI} {g : TG} {tt : TT} {te : TE} (hc : X.calm = true)
    (hfree : ∀ nk ∈ scope.names, nk.2 = .free → nk.1 ∈ ys) (hcell : ∀ nk ∈ scope.names, nk.2 ≠ .cell) (hkind : scope.kind = .function)
    (hnames : ∀ nk ∈ scope.names, nk.2 = .local → scope.names.lookup nk.1 = some .local) (hfo : FreeOk X scope ys js)
    (hi : PI X target iter wi) (hg : ∀ cl C s H fp, PG (cxCF X scope cl (xs ++ ys) C s H fp) target g) (ht : ∀ cl C s H fp, PTs (cxCF X scope cl (xs ++ ys) C s H fp) ifs tt)
    (he : ∀ cl C s H fp, PE (cxCF X scope cl (xs ++ ys) C s H fp) elt te)
    (hN : X.N.Nodup) (hix : X.N[ix]? = some yn) (hyn : Loc X.env.scope yn)
    (hs : ∀ v, foldedSetIterable iter X.env v = pure v := by intro _; rfl) (hsw : swapsWith (.ListComp elt [⟨target, iter, ifs, 0⟩] scope pos) (some (.Name yn py)) spos.line X.env = pure true := by rfl)
    (hf : X.fn yn = true ∨ X.env.scope.names.lookup yn = some .local := by first | exact .inl rfl | exact .inr rfl | assumption) :
    PS X (.Assign [.Name yn py] (.ListComp elt [⟨target, iter, ifs, 0⟩] scope pos) spos) (tAsg (tCompF wi g xs.length js tt te) (gName ix)) := by
  intro pins s σ H D0 I h
  obtain ⟨Q, hQ⟩ : ∃ Q : VK, Q = fun x H1 => gName ix x σ H1 D0.nx := ⟨_, rfl⟩
  have h : tCompF wi g xs.length js tt te σ H Q := by rw [hQ]; exact h
  obtain ⟨ylen, yat⟩ := hfo.at
  have hkd : ∀ nk ∈ scope.names, nk.2 = .free → X.env.kindOf nk.1 = some .cell ∨ X.env.kindOf nk.1 = some .free := fun nk hnk hf => by
    obtain ⟨k, hk, e⟩ := List.mem_iff_getElem.mp (hfree nk hnk hf)
    obtain ⟨_, _, _, hk2, _⟩ := yat k nk.1 (by rw [List.getElem?_eq_getElem hk, e])
    exact hk2
  obtain ⟨cl, hclos, hsub, hhas⟩ := closure_of (scope := scope) (env := X.env) fun nk hnk hf => I.ok.has _ (hkd nk hnk hf)
  rw [exec_Assign_Name_used _ _ _ _ hsw]
  refine wpAny_bind (wpAny_standAt (wpAny_bind ?_))
  show wpAny _ X.A (do let _ ← comprehension (.ListComp elt [⟨target, iter, ifs, 0⟩] scope pos) scope X.env _ (newList []) false (eval iter X.env) (some (assign (.Name yn py) X.env))) _ _ s
  refine wpAny_bind (wpAny_mono (wpAny_comprehension_free (use := some (assign (.Name yn py) X.env)) (Q := fun _ s' => SP X pins D0 .next s') rfl hs hclos hkind hnames (thn (hi pins s σ H _ I h) fun v s1 h1 => thn h1 fun itv s2 h2 => ?_)) (fun _ s' hq => wpAny_pure (wpAny_pure hq)) fun _ _ e => e)
  obtain ⟨it, fp, tn, J, H2, e, I2, T, st2, f2, hR⟩ := h2
  subst e
  have hD0 : H2 s2.heap.objs.size = none := I2.fresh
  obtain ⟨W, ⟨m0, w0⟩, turnW⟩ := hR _ hD0
  have I3 : Inv X pins σ (upd H2 s2.heap.objs.size (.lst [])) { s2 with heap := s2.heap.push { cls := .type "list", data := .seq ([] : List Value).toArray } } := I2.lnew (t' := s2.toks) .nil (Nat.zero_le _)
  refine wpAny_newObj_type (wpAny_newFunctionEnv hcell (fun nk hnk => by simp at hnk) (fun h₁ hns₁ hsb₁ => ?_) hkind)
  dsimp only at hns₁ hsb₁ ⊢
  generalize hs3 : ({ s2 with heap := s2.heap.push { cls := .type "list", data := .seq ([] : List Value).toArray } } : Shared) = s3 at I3
  have eh3 : s3.heap = s2.heap.push { cls := .type "list", data := .seq ([] : List Value).toArray } := by rw [← hs3]
  have hC : s3.heap.objs.size = s2.heap.objs.size + 1 := by rw [eh3, Heap.size_push]
  have old : ∀ b o, s3.heap.get? b = some o → h₁.get? b = some o := fun b o e => by
    have hb : b ≠ s3.heap.objs.size := Nat.ne_of_lt (Heap.lt_size e)
    rw [eh3] at e hb
    exact hsb₁.extBut b o hb (Heap.get?_push_of_some _ e)
  have fpl : ∀ b ∈ fp, b < s2.heap.objs.size := fun b hb => let ⟨o, e, _⟩ := T.obj _ _ st2 b hb; Heap.lt_size e
  have fps : ∀ b ∈ fp, b ∉ frs X.stack := fun b hb z => (List.mem_cons.mp (I2.stkSub b z)).elim (f2 b hb).2.1 (f2 b hb).2.2.1
  have fpc : ∀ b ∈ fp, ∀ y c, cl.lookup y = some c → c ≠ b := fun b hb y c e => (f2 b hb).2.2.2.2.1 y c (hsub y c e)
  have cne : ∀ y c, cl.lookup y = some c → c ≠ s3.heap.objs.size := fun y c e z => by
    obtain ⟨v, q⟩ := I3.cell y c (hsub y c e)
    exact absurd q.lt (by rw [z]; exact Nat.lt_irrefl _)
  let X' : Cx := cxCF X scope cl (xs ++ ys) s3.heap.objs.size s3 (upd H2 s2.heap.objs.size (.lst [])) fp
  have okX : X'.Ok := by
    refine ⟨I2.ok.mod, hkind, I2.ok.glob, I2.ok.blt, Nat.le_refl _, fun y z c e1 e2 => I2.ok.inj y z c (hsub _ _ e1) (hsub _ _ e2), fun y hy => hhas y (relab_inv hcell hy), fun y c z _ => absurd z (by simp [X', cxCF]), I2.ok.hd, I2.ok.frames, .inl rfl, fun b hb => ⟨?_, fun y c e => fpc b hb y c e⟩,
      I3.bs, Nat.le_trans I3.ok.bsz I3.sz, fun b o e hb => ?_, fps, I3.stack, I3.stkFree⟩
    · exact Nat.ne_of_lt (Nat.lt_of_lt_of_le (fpl b hb) (by show s2.heap.objs.size ≤ s3.heap.objs.size; rw [hC]; exact Nat.le_succ _))
    · rcases (f2 b hb).2.2.2.1 with z | z
      · exact I2.ok.noex b o e z
      · exact absurd (Nat.lt_of_lt_of_le (Heap.lt_size (I2.ok.bs b o e).1) z) (Nat.lt_irrefl _)
  have stat : ∀ {H' : Hp}, (∀ b ∈ fp, H' b = none) → ∀ b ∈ fp, FpOk X' [] H' b := fun hn b hb => by
    refine ⟨hn b hb, ?_, fps b hb, .inl hb, fun y c e => fpc b hb y c e, fun p hp => absurd (show p ∈ ([] : List (Addr × Obj)) from hp) (by simp)⟩
    exact Nat.ne_of_lt (Nat.lt_of_lt_of_le (fpl b hb) (by show s2.heap.objs.size ≤ s3.heap.objs.size; rw [hC]; exact Nat.le_succ _))
  have I4 : ∀ tk : Nat, Inv X' [] (List.replicate xs.length none ++ frOf σ js) (upd H2 s2.heap.objs.size (.lst [])) { s3 with heap := h₁, toks := tk } := fun tk => by
    refine ⟨okX, rfl, I3.bare, Un.kept old, ⟨_, by rw [← eh3] at hns₁; exact hns₁, fun i y v e1 e2 _ => ?_⟩, fun y c e => let ⟨v, q⟩ := I3.cell y c (hsub y c e); let ⟨o, q1, q2⟩ := q; ⟨v, o, old c o q1, q2⟩, I3.hok.fresh (Nat.le_refl _), fun y c e => I3.freeC y c (hsub y c e), fun p hp => absurd (show p ∈ ([] : List (Addr × Obj)) from hp) (by simp), I3.hok.kept old, by simp [X', cxCF, frOf, ylen]⟩
    by_cases hlt : i < xs.length
    · rw [List.getElem?_append_left (by simpa using hlt), List.getElem?_replicate, if_pos hlt] at e2
      cases e2
    · have hge : xs.length ≤ i := Nat.le_of_not_lt hlt
      have e1' : (xs ++ ys)[i]? = some y := e1
      rw [List.getElem?_append_right hge] at e1'
      rw [List.getElem?_append_right (by simpa using hge), List.length_replicate] at e2
      obtain ⟨j, hj, hN, hk, hfr⟩ := yat _ y e1'
      have e3 : (σ[j]?).join = some v := by
        unfold frOf at e2
        rw [List.getElem?_map, hj] at e2
        exact Option.some.inj e2
      have e4 : σ[j]? = some (some v) := by
        cases q : σ[j]? with
        | none => rw [q] at e3; cases e3
        | some w => rw [q] at e3; have : w = some v := e3; rw [this]
      obtain ⟨m3, _, hl3⟩ := I3.loc
      obtain ⟨u, ru, lk⟩ := hl3 j y v hN e4 (by rcases hk with z | z; exact .inr (.inl z); exact .inr (.inr z))
      refine ⟨u, ru, .inr ⟨relab_free hfr, ?_⟩⟩
      rcases lk with ⟨z, _⟩ | ⟨_, c, hc1, hc2⟩
      · rcases hk with z2 | z2 <;> rw [z] at z2 <;> cases z2
      · obtain ⟨c', hc'⟩ := hhas y hfr
        have : c' = c := by have := hsub y c' hc'; rw [hc1] at this; exact (Option.some.inj this).symm
        subst this
        obtain ⟨o, q1, q2⟩ := hc2
        exact ⟨c', hc', o, old c' o q1, q2⟩
  have fr0 : ∀ b ∈ fp, (upd H2 s2.heap.objs.size (.lst []) : Hp) b = none := fun b hb => by rw [upd_ne (Nat.ne_of_lt (fpl b hb))]; exact (f2 b hb).1
  have st4 : tn 0 h₁ := T.keep 0 _ _ st2 fun b hb o e => old b o (by rw [eh3]; exact Heap.get?_push_of_some _ e)
  have fin : ∀ {σ5 : St} {H' : Hp} {s5 : Shared} {h' : Heap}, Inv X' [] σ5 H' s5 → Heap.SameBut s3.heap.objs.size s5.heap h' → Inv X pins σ H' { s5 with heap := h' } := by
    intro σ5 H' s5 h' I5 sb
    obtain ⟨hh, gg, d, t, os'⟩ := s5
    have eo : os' = s3.os := I5.os
    subst eo
    have keepC : ∀ b o, b ≠ s3.heap.objs.size → hh.get? b = some o → h'.get? b = some o := fun b o hb e => sb.extBut b o hb e
    have ne3 : ∀ b o, s3.heap.get? b = some o → b ≠ s3.heap.objs.size := fun b o e => Nat.ne_of_lt (Heap.lt_size e)
    have u : Un (frs X.stack) fp (upd H2 s2.heap.objs.size (.lst [])) H' s3.heap hh := I5.base
    have un : Un (frs X.stack) fp (upd H2 s2.heap.objs.size (.lst [])) H' s3.heap h' :=
      ⟨fun b o e n hb hx => keepC b o (ne3 b o e) (u.keep b o e n hb hx), fun b o e n hb hx => let ⟨sl, q⟩ := u.slot b o e n hb hx; ⟨sl, keepC b _ (ne3 b o e) q⟩, u.free, fun b o e hx => let ⟨o', q⟩ := u.there b o e hx; ⟨o', keepC b o' (ne3 b o e) q⟩, u.tups, u.frzs, u.tbls⟩
    have hfree' : H' s3.heap.objs.size = none := I5.free
    have hok' : HOk X.prog X.w H' h' := fun b u e => by
      refine (I5.hok b u e).stay (fun c v hc q => keepC c v ?_ q) (fun _ q => q) fun _ _ q => q
      rcases hc with z | z
      · rw [z]; intro z2; rw [z2, hfree'] at e; cases e
      · intro z2; rw [z2, hfree'] at z; cases z
    have J := I3.call (h' := h') (g' := gg) (d' := d) (t' := t) (ch := fp) un hok' I5.bare (fun b hb => let ⟨_, h1, _, h2, h3, h4⟩ := f2 b hb; ⟨h2, h1, h3, h4⟩)
    exact J
  have loop : ∀ s4 : Shared, (∃ tk, s4 = { s3 with heap := h₁, toks := tk }) →
      codeAny (model X.prog X.w) X.A (.compLoop (.ListComp elt [⟨target, iter, ifs, 0⟩] scope pos) 0 (.ref it) (.ref s2.heap.objs.size) X'.env)
        (compPost (model X.prog X.w) X.A X.xe (some (assign (.Name yn py) X.env)) (fun _ s' => SP X pins D0 .next s') (.ref s2.heap.objs.size) s3.heap.objs.size) s4 := by
    rintro s4 ⟨tk, rfl⟩
    refine comp_turns (fun n s' => ∃ i ys' pre H', Inv X' [] (pre ++ frOf σ js) H' s' ∧ pre.length = xs.length ∧ tn i s'.heap ∧ (∀ b ∈ fp, H' b = none) ∧ W i n ys' H') ?_ m0 ⟨0, [], List.replicate xs.length none, _, I4 tk, by simp, st4, fr0, w0⟩
    rintro n s5 ⟨i, ys', pre, H5, I5, hpre, st5, fr5, w5⟩
    obtain ⟨hD5, ⟨js5, q⟩ | ⟨jg, step⟩⟩ := turnW i n ys' H5 w5
    · refine wpAny_mono (T.done X' rfl rfl rfl hc i [] s5 _ H5 (fun _ _ => False) I5 (stat fr5) st5 js5) (fun r s6 hr => ?_) fun _ _ z => z.elim
      obtain ⟨rfl, I6⟩ := hr
      obtain ⟨m, hn, _⟩ := I6.loc
      have J6 : Inv X pins σ H5 s6 := fin I6 (Heap.SameBut.refl _ _)
      have fpC : FpOk X pins H5 s3.heap.objs.size := I3.fpOk (Nat.le_refl _) I6.free
      obtain ⟨oC, esC, epC, goC, gdC, restC⟩ := id hn
      have J7 := J6.pinned (fp := [s3.heap.objs.size]) (fun b hb => by rw [List.mem_singleton.mp hb]; exact fpC) (fun b hb => by rw [List.mem_singleton.mp hb]; exact ⟨oC, goC, fun v z => by rw [gdC] at z; cases z⟩)
      show wpAny _ X.A (assign (.Name yn py) X.env (.ref s2.heap.objs.size)) _ _ s6
      refine wpAny_mono (pg_name (X := X) (pos := py) (i := ix) hN hix hyn hf _ s6 σ H5 (.ref s2.heap.objs.size) (.ref s2.heap.objs.size) (fun σ' H'' => σ' = σ.set ix (some (.ref s2.heap.objs.size)) ∧ H'' = H5) J7 rfl ⟨rfl, rfl⟩) (fun _ s7 h7 => ?_) fun _ _ z => z
      obtain ⟨σ7, H7, I7, rfl, rfl⟩ := h7
      have g7 : s7.heap.get? s3.heap.objs.size = some oC := (I7.pin (s3.heap.objs.size, oC) (List.mem_append_right _ (List.mem_append_right _ (mem_pinsAt (List.mem_singleton.mpr rfl) goC)))).1
      refine ⟨m, ⟨oC, esC, epC, g7, gdC, restC⟩, fun h'' sb => ⟨_, _, I7.unpinned.turned (t' := s7.toks) (fun b o hb e => sb.extBut b o hb e) fpC.1 fpC.2.1 fpC.2.2.2.1 fpC.2.2.2.2.1 fpC.2.2.2.2.2, ?_⟩⟩
      rw [hQ] at q
      exact q
    · refine wpAny_mono (T.item X' rfl rfl rfl hc i [] s5 _ H5 (fun _ _ => False) I5 (stat fr5) st5 jg) (fun r s6 hr => ?_) fun _ _ z => z.elim
      obtain ⟨u, rfl, h6⟩ := hr
      refine wpAny_mono h6 (fun _ s7 h7 => ?_) fun _ _ z => z.elim
      obtain ⟨xv, H7, I7, r7, y7, st7, fr7⟩ := h7
      have I7' := I7.pinned (stat fr7) (T.obj _ _ st7)
      refine wpAny_mono (hg cl s3.heap.objs.size s3 (upd H2 s2.heap.objs.size (.lst [])) fp _ s7 _ H7 xv u _ I7' r7 (step xv H7 y7 pre hpre)) (fun _ s8 h8 => ?_) fun _ _ z => z.elim
      obtain ⟨σ8, H8, I8, ⟨pre', hpre', e8⟩, q8⟩ := h8
      subst e8
      refine wpAny_mono (ht cl s3.heap.objs.size s3 (upd H2 s2.heap.objs.size (.lst [])) fp _ s8 _ H8 _ I8 q8) (fun ok s9 h9 => ?_) fun _ _ z => z.elim
      obtain ⟨H9, I9, q9⟩ := h9
      have stay : ∀ {H' : Hp} {s' : Shared}, Inv X' ([] ++ pinsAt fp s7.heap) (pre' ++ frOf σ js) H' s' → tn (i + 1) s'.heap ∧ ∀ b ∈ fp, H' b = none := fun {H' s'} I' => by
        refine ⟨T.keep _ _ _ st7 fun b hb o e => (I'.pin (b, o) (List.mem_append_right _ (List.mem_append_right _ (mem_pinsAt hb e)))).1, fun b hb => ?_⟩
        obtain ⟨o, e, d⟩ := T.obj _ _ st7 b hb
        exact (I'.pin (b, o) (List.mem_append_right _ (List.mem_append_right _ (mem_pinsAt hb e)))).2.1
      cases ok with
      | false =>
        obtain ⟨m', lt, w9⟩ := (show ∃ m', m' < n ∧ W (i + 1) m' ys' H9 by simpa using q9)
        obtain ⟨k1, k2⟩ := stay I9
        exact ⟨m', lt, i + 1, ys', pre', H9, I9.unpinned, hpre', k1, k2, w9⟩
      | true =>
        have q9' : te (pre' ++ frOf σ js) H9 (fun y H6 => H6 s2.heap.objs.size = some (.lst ys') ∧ ys'.length < sizeLine ∧ ∃ m', m' < n ∧ W (i + 1) m' (ys' ++ [y]) (upd H6 s2.heap.objs.size (.lst (ys' ++ [y])))) := by simpa using q9
        refine wpAny_mono (he cl s3.heap.objs.size s3 (upd H2 s2.heap.objs.size (.lst [])) fp _ s9 _ H9 _ I9 q9') (fun y s10 h10 => ?_) fun _ _ z => z.elim
        obtain ⟨yv, H10, I10, r10, hD10, hl10, m', lt, w10⟩ := h10
        refine wpAny_mono (mt_append (X := X') _ s10 _ H10 (.ref s2.heap.objs.size) [yv] (.ref s2.heap.objs.size) [y] (fun _ H' => H' = upd H10 s2.heap.objs.size (.lst (ys' ++ [yv]))) I10 rfl (.cons r10 .nil) ⟨_, ys', yv, rfl, rfl, hD10, hl10, rfl⟩) (fun _ s11 h11 => ?_) fun _ _ z => z.elim
        obtain ⟨_, H11, I11, _, rfl⟩ := h11
        obtain ⟨k1, k2⟩ := stay I11
        exact ⟨m', lt, i + 1, ys' ++ [yv], pre', _, I11.unpinned, hpre', k1, k2, w10⟩
  have L := loop { s3 with heap := h₁, toks := s2.toks + ([] : List (Str × Value)).length } ⟨_, rfl⟩
  subst hs3
  exact codeAny_compStart_list L (T.self _ 0 _ _ _ st4 L)
end
end L2
namespace L2
open PySem PySem.Spec PyProof.Rows
inductive Dat where
  | non
  | int (i : Int)
  | str (x : Str)
  | tup (ds : List Dat)
mutual
def Dat.beq : Dat → Dat → Bool
  | .non, .non => true
  | .int i, .int j => i == j
  | .str x, .str y => x == y
  | .tup ds, .tup es => Dat.beqs ds es
  | _, _ => false
def Dat.beqs : List Dat → List Dat → Bool
  | [], [] => true
  | d :: ds, e :: es => Dat.beq d e && Dat.beqs ds es
  | _, _ => false
end
mutual
def Dat.deep : Dat → Nat
  | .tup ds => Dat.deeps ds + 1
  | _ => 0
def Dat.deeps : List Dat → Nat
  | [] => 0
  | d :: ds => max (Dat.deep d) (Dat.deeps ds)
end
mutual
def IsDat (K : PySem.W.Frag) (H : Hp) : Dat → V → Prop
  | .non, x => x = .non
  | .int i, x => x = .int i
  | .str z, x => x = .str z
  | .tup ds, x => ∃ a xs, x = .ref a ∧ SqT K H a xs ∧ AreDat K H ds xs
def AreDat (K : PySem.W.Frag) (H : Hp) : List Dat → List V → Prop
  | [], xs => xs = []
  | d :: ds, xs => ∃ y ys, xs = y :: ys ∧ IsDat K H d y ∧ AreDat K H ds ys
end
mutual
theorem IsDat.same {K : PySem.W.Frag} {H H' : Hp} (s : Same H H') : ∀ {d : Dat} {x : V}, IsDat K H d x → IsDat K H' d x
  | .non, _, h => h
  | .int _, _, h => h
  | .str _, _, h => h
  | .tup _, _, ⟨a, xs, e, hq, hs⟩ => ⟨a, xs, e, s.tup hq, AreDat.same s hs⟩
theorem AreDat.same {K : PySem.W.Frag} {H H' : Hp} (s : Same H H') : ∀ {ds : List Dat} {xs : List V}, AreDat K H ds xs → AreDat K H' ds xs
  | [], _, h => h
  | _ :: _, _, ⟨y, ys, e, h1, h2⟩ => ⟨y, ys, e, IsDat.same s h1, AreDat.same s h2⟩
end
theorem AreDat.length {K : PySem.W.Frag} {H : Hp} : ∀ {ds : List Dat} {xs : List V}, AreDat K H ds xs → xs.length = ds.length
  | [], _, h => by rw [show _ = [] from h]; rfl
  | _ :: _, _, ⟨y, ys, e, _, h2⟩ => by rw [e, List.length_cons, List.length_cons, AreDat.length h2]
theorem AreDat.get {K : PySem.W.Frag} {H : Hp} : ∀ {ds : List Dat} {xs : List V} {j : Nat} {d : Dat}, AreDat K H ds xs → ds[j]? = some d → ∃ x, xs[j]? = some x ∧ IsDat K H d x
  | [], _, _, _, _, e => by simp at e
  | d :: ds, _, j, d', ⟨y, ys, e, h1, h2⟩, he => by
    subst e
    cases j with
    | zero => simp at he; subst he; exact ⟨y, rfl, h1⟩
    | succ j => simpa using AreDat.get h2 (by simpa using he)
theorem deep_at : ∀ {ds : List Dat} {d : Dat}, d ∈ ds → Dat.deep d ≤ Dat.deeps ds
  | d' :: ds, d, h => by
    show _ ≤ max _ _
    rcases List.mem_cons.mp h with rfl | h
    · exact Nat.le_max_left _ _
    · exact Nat.le_trans (deep_at h) (Nat.le_max_right _ _)
theorem beqs_all : ∀ (ds es : List Dat), Dat.beqs ds es = ((List.range (min ds.length es.length)).all (fun j => Dat.beq (ds.getD j .non) (es.getD j .non)) && ds.length == es.length)
  | [], [] => by simp [Dat.beqs]
  | [], e :: es => by simp [Dat.beqs]
  | d :: ds, [] => by simp [Dat.beqs]
  | d :: ds, e :: es => by
    have ih := beqs_all ds es
    have hm : min (d :: ds).length (e :: es).length = min ds.length es.length + 1 := by simp only [List.length_cons]; omega
    rw [hm, List.range_succ_eq_map, List.all_cons, List.all_map]
    show (Dat.beq d e && Dat.beqs ds es) = _
    rw [ih]
    simp only [List.length_cons, List.getD_cons_zero, Function.comp_def, List.getD_cons_succ, Nat.add_right_cancel_iff, Bool.and_assoc]
    congr 2
    by_cases h : ds.length = es.length <;> simp [h]
mutual
theorem beq_refl : ∀ d : Dat, Dat.beq d d = true
  | .non => rfl
  | .int _ => by simp [Dat.beq]
  | .str _ => by simp [Dat.beq]
  | .tup ds => beqs_refl ds
theorem beqs_refl : ∀ ds : List Dat, Dat.beqs ds ds = true
  | [] => rfl
  | d :: ds => by show (Dat.beq d d && Dat.beqs ds ds) = true; rw [beq_refl d, beqs_refl ds]; rfl
end
end L2
namespace L2
open PySem PySem.Spec PyProof.Rows
section
variable {X : Cx} {pins : List (Addr × Obj)} {σ : St} {H : Hp} {s : Shared}
mutual
theorem dat_det (I : Inv X pins σ H s) : ∀ {d e : Dat} {x : V}, IsDat X.K H d x → IsDat X.K H e x → Dat.beq d e = true
  | .non, .non, _, _, _ => rfl
  | .int i, .int j, _, h1, h2 => by
    have : V.int i = V.int j := (show _ = V.int i from h1).symm.trans h2
    injection this with this
    simp [Dat.beq, this]
  | .str i, .str j, _, h1, h2 => by
    have : V.str i = V.str j := (show _ = V.str i from h1).symm.trans h2
    injection this with this
    simp [Dat.beq, this]
  | .tup ds, .tup es, _, ⟨a, xs, e1, q1, h1⟩, ⟨b, ys, e2, q2, h2⟩ => by
    have e : V.ref a = V.ref b := e1.symm.trans e2
    injection e with e
    subst e
    have := I.tuple_inj q1 q2
    subst this
    exact dats_det I h1 h2
  | .non, .int j, _, h1, h2 => by have : V.non = V.int j := (show _ = V.non from h1).symm.trans h2; cases this
  | .non, .str j, _, h1, h2 => by have : V.non = V.str j := (show _ = V.non from h1).symm.trans h2; cases this
  | .non, .tup es, _, h1, ⟨b, ys, e2, _⟩ => by have : V.non = V.ref b := (show _ = V.non from h1).symm.trans e2; cases this
  | .int i, .non, _, h1, h2 => by have : V.int i = V.non := (show _ = V.int i from h1).symm.trans h2; cases this
  | .int i, .str j, _, h1, h2 => by have : V.int i = V.str j := (show _ = V.int i from h1).symm.trans h2; cases this
  | .int i, .tup es, _, h1, ⟨b, ys, e2, _⟩ => by have : V.int i = V.ref b := (show _ = V.int i from h1).symm.trans e2; cases this
  | .str i, .non, _, h1, h2 => by have : V.str i = V.non := (show _ = V.str i from h1).symm.trans h2; cases this
  | .str i, .int j, _, h1, h2 => by have : V.str i = V.int j := (show _ = V.str i from h1).symm.trans h2; cases this
  | .str i, .tup es, _, h1, ⟨b, ys, e2, _⟩ => by have : V.str i = V.ref b := (show _ = V.str i from h1).symm.trans e2; cases this
  | .tup ds, .non, _, ⟨a, xs, e1, _⟩, h2 => by have : V.ref a = V.non := e1.symm.trans h2; cases this
  | .tup ds, .int j, _, ⟨a, xs, e1, _⟩, h2 => by have : V.ref a = V.int j := e1.symm.trans h2; cases this
  | .tup ds, .str j, _, ⟨a, xs, e1, _⟩, h2 => by have : V.ref a = V.str j := e1.symm.trans h2; cases this
theorem dats_det (I : Inv X pins σ H s) : ∀ {ds es : List Dat} {xs : List V}, AreDat X.K H ds xs → AreDat X.K H es xs → Dat.beqs ds es = true
  | [], [], _, _, _ => rfl
  | [], e :: es, _, h1, ⟨y, ys, e2, _⟩ => by have : ([] : List V) = y :: ys := (show _ = [] from h1).symm.trans e2; cases this
  | d :: ds, [], _, ⟨y, ys, e1, _⟩, h2 => by have : y :: ys = ([] : List V) := e1.symm.trans h2; cases this
  | d :: ds, e :: es, _, ⟨y, ys, e1, a1, b1⟩, ⟨z, zs, e2, a2, b2⟩ => by
    have e' : y :: ys = z :: zs := e1.symm.trans e2
    injection e' with h1 h2
    subst h1 h2
    show (Dat.beq d e && Dat.beqs ds es) = true
    rw [dat_det I a1 a2, dats_det I b1 b2]
    rfl
end
end
end L2
namespace L2
open PySem PySem.Spec PyProof.Rows
section
variable {X : Cx} {pins : List (Addr × Obj)} {σ : St} {H : Hp} {s : Shared}
theorem dat_at {A : Around} {ds : List Dat} {xs : List V} {its : List Value} {j : Nat} (h : AreDat X.K H ds xs) (r : Vals xs its) (hj : j < its.toArray.size) :
    ∃ x, IsDat X.K H (ds.getD j .non) x ∧ RelV x its.toArray[j] ∧ ds.getD j .non ∈ ds := by
  have hl := h.length
  have hr := r.length
  have hj' : j < its.length := by simpa using hj
  have hd : j < ds.length := by omega
  have e : ds[j]? = some (ds.getD j .non) := by rw [List.getD_eq_getElem?_getD, List.getElem?_eq_getElem hd]; rfl
  obtain ⟨x, hx, hi⟩ := h.get e
  obtain ⟨u, hu, ru⟩ := r.get hx
  refine ⟨x, hi, ?_, List.mem_of_getElem? e⟩
  have : its.toArray[j] = u := by
    rw [List.getElem?_eq_getElem hj'] at hu
    have := Option.some.inj hu
    simpa using this
  rw [this]
  exact ru
theorem dat_eqAt (I : Inv X pins σ H s) : ∀ (n : Nat) (A : Around) {d e : Dat} {x y : V} {u v : Value}, Dat.deep d ≤ n → A.units + n < cLine → IsDat X.K H d x → IsDat X.K H e y → RelV x u → RelV y v → SeqAt.EqAt A s u v (Dat.beq d e) := by
  intro n
  induction n with
  | zero =>
    intro A d e x y u v hn hu hd he rx ry
    cases d with
    | tup ds => exact absurd hn (by simp [Dat.deep])
    | non =>
      cases (show x = .non from hd)
      cases e with
      | non => cases (show y = .non from he); exact eqAt_V rx ry rfl rfl
      | int j => cases (show y = .int j from he); exact eqAt_V rx ry rfl rfl
      | str j => cases (show y = .str j from he); exact eqAt_V rx ry rfl rfl
      | tup es =>
        obtain ⟨b, ys, rfl, q2, _⟩ := he
        obtain ⟨its2, r2, p2, _⟩ := I.tuple q2
        cases rx; cases ry
        exact SeqAt.EqAt.none_tuple p2 (by omega)
    | int i =>
      cases (show x = .int i from hd)
      cases e with
      | non => cases (show y = .non from he); exact eqAt_V rx ry rfl rfl
      | int j => cases (show y = .int j from he); exact eqAt_V rx ry rfl rfl
      | str j => cases (show y = .str j from he); exact eqAt_V rx ry rfl rfl
      | tup es =>
        obtain ⟨b, ys, rfl, q2, _⟩ := he
        obtain ⟨its2, r2, p2, _⟩ := I.tuple q2
        obtain ⟨t, rfl⟩ := rx; cases ry
        exact SeqAt.EqAt.int_tuple i t p2 (by omega)
    | str i =>
      cases (show x = .str i from hd)
      cases e with
      | non => cases (show y = .non from he); exact eqAt_V rx ry rfl rfl
      | int j => cases (show y = .int j from he); exact eqAt_V rx ry rfl rfl
      | str j => cases (show y = .str j from he); exact eqAt_V rx ry rfl rfl
      | tup es =>
        obtain ⟨b, ys, rfl, q2, _⟩ := he
        obtain ⟨its2, r2, p2, _⟩ := I.tuple q2
        obtain ⟨t, rfl⟩ := rx; cases ry
        exact SeqAt.EqAt.str_tuple i t p2 (by omega)
  | succ n ih =>
    intro A d e x y u v hn hu hd he rx ry
    cases d with
    | non => exact ih A (Nat.zero_le _) (by omega) hd he rx ry
    | int i => exact ih A (Nat.zero_le _) (by omega) hd he rx ry
    | str i => exact ih A (Nat.zero_le _) (by omega) hd he rx ry
    | tup ds =>
      obtain ⟨a, xs, rfl, q1, h1⟩ := hd
      obtain ⟨its, r1, p1, _⟩ := I.tuple q1
      cases rx
      cases e with
      | non => cases (show y = .non from he); cases ry; exact SeqAt.EqAt.tuple_none p1 (by omega)
      | int j => cases (show y = .int j from he); obtain ⟨t, rfl⟩ := ry; exact SeqAt.EqAt.tuple_int j t p1 (by omega)
      | str j => cases (show y = .str j from he); obtain ⟨t, rfl⟩ := ry; exact SeqAt.EqAt.tuple_str j t p1 (by omega)
      | tup es =>
        obtain ⟨b, ys, rfl, q2, h2⟩ := he
        obtain ⟨its2, r2, p2, _⟩ := I.tuple q2
        cases ry
        by_cases hab : a = b
        · subst hab
          have := I.tuple_inj q1 q2
          subst this
          have e : Dat.beq (.tup ds) (.tup es) = true := dats_det I h1 h2
          rw [e]
          exact SeqAt.EqAt.same _
        · have l1 := h1.length
          have l2 := h2.length
          have s1 : its.toArray.size = ds.length := by rw [List.size_toArray, ← r1.length, l1]
          have s2 : its2.toArray.size = es.length := by rw [List.size_toArray, ← r2.length, l2]
          have key := SeqAt.RcAt.tuples (e := fun j => Dat.beq (ds.getD j .non) (es.getD j .non)) p1 p2 (by omega : A.units < cLine) fun j j1 j2 => by
            obtain ⟨x', d1, rx', m1⟩ := dat_at (A := A) h1 r1 j1
            obtain ⟨y', d2, ry', _⟩ := dat_at (A := A) h2 r2 j2
            have hdp : Dat.deep (ds.getD j .non) ≤ n := by
              have h3 := deep_at m1
              have h4 : Dat.deeps ds + 1 ≤ n + 1 := hn
              omega
            exact ih A.in1 hdp (by show A.units + 1 + n < cLine; omega) d1 d2 rx' ry'
          rw [s1, s2, ← beqs_all] at key
          exact SeqAt.EqAt.of_refs hab key
end
end L2
namespace HL
open PySem PySem.SeqAt
open AutoSeq1 (wpAny_loadPart')
open MeetsSeq MeetsSeq2 MeetsSeq3
def LtAt (A : Around) (s : Shared) (y x : Value) (b : Bool) : Prop :=
  ∀ (prog : Program) (w : World) (E : Value → Shared → Prop) (Q : Value → Shared → Prop), Q (.bool b) s → wpAny (model prog w) A (richCompare .Lt y x) Q E s
def lexB (e g : Nat → Bool) (fin : Bool) : List Nat → Bool
  | [] => fin
  | j :: r => if e j = true then lexB e g fin r else g j
theorem tuple_ltAt (p q : Addr) (xs ys : Array Value) (n n2 : Nat) (dp dq : Option Addr) (sp sq : Array (Option Value)) (e g : Nat → Bool) :
    Meets (Builtin.«tuple.__lt__» ⟨[.ref p, .ref q], []⟩)
      (fun A R s => s.heap.get? p = some { cls := .type "tuple", dict := dp, data := .seq xs n, slots := sp } ∧ s.heap.get? q = some { cls := .type "tuple", dict := dq, data := .seq ys n2, slots := sq } ∧
        (∀ j (h1 : j < xs.size) (h2 : j < ys.size), EqAt A.in1 s xs[j] ys[j] (e j)) ∧ (∀ j (h1 : j < xs.size) (h2 : j < ys.size), e j = false → LtAt A.in1 s xs[j] ys[j] (g j)) ∧
        R (.ok (.ret (.bool (lexB e g (decide (xs.size < ys.size)) (List.range (min xs.size ys.size)))))) s) :=
  .of_wp fun prog w A R s h => by
    obtain ⟨hp, gs, d, tk, os⟩ := s; obtain ⟨g1, g2, he, hg, h⟩ := h
    have sub := AutoSeq1.sub_tuple_tuple
    have hZ : (xs.toList.zip ys.toList).length = min xs.size ys.size := by simp
    wp_walk using wpAny_loadPart' g1, wpAny_loadPart' g2, wpAny_forIn_list _ (fun rest b s' => b.1 = none ∧ s' = ⟨hp, gs, d, tk, os⟩ ∧ ∃ i, rest = (xs.toList.zip ys.toList).drop i ∧
      R (.ok (.ret (.bool (lexB e g (decide (xs.size < ys.size)) ((List.range (min xs.size ys.size)).drop i))))) ⟨hp, gs, d, tk, os⟩) _
    case turn =>
      rintro ⟨y, x⟩ rest b s' ⟨hb', rfl, i, hz, hR⟩
      have hlt : i < (xs.toList.zip ys.toList).length := Nat.lt_of_not_le fun z => by rw [List.drop_of_length_le z] at hz; cases hz
      have hm : i < min xs.size ys.size := hZ ▸ hlt
      have h1 : i < xs.size := by omega
      have h2 : i < ys.size := by omega
      rw [List.drop_eq_getElem_cons hlt] at hz
      injection hz with hyx hrest
      obtain rfl : y = xs[i] := by simpa using congrArg Prod.fst hyx
      obtain rfl : x = ys[i] := by simpa using congrArg Prod.snd hyx
      have hd : (List.range (min xs.size ys.size)).drop i = i :: (List.range (min xs.size ys.size)).drop (i + 1) := by simp [List.drop_eq_getElem_cons, hm]
      rw [hd] at hR
      have step : lexB e g (decide (xs.size < ys.size)) (i :: (List.range (min xs.size ys.size)).drop (i + 1)) = if e i = true then lexB e g (decide (xs.size < ys.size)) ((List.range (min xs.size ys.size)).drop (i + 1)) else g i := rfl
      rw [step] at hR
      refine wpAny_bind (he i h1 h2 prog w _ _ ?_)
      cases hy : e i with
      | true =>
        rw [hy] at hR
        wp_walk
        exact ⟨rfl, rfl, i + 1, hrest, by simpa using hR⟩
      | false =>
        rw [hy] at hR
        have hg' := hg i h1 h2 hy
        simp only [Bool.not_false, if_true]
        exact wpAny_bind (wpAny_rule (wpAny_bind (hg' prog w _ _ (wpAny_bind (wpAny_pure (wpAny_pure (wpAny_pure ⟨_, rfl, by simpa using hR⟩)))))))
    case fin =>
      rintro ⟨b1, b2⟩ s' ⟨hb', rfl, i, hz, hR⟩
      simp only at hb'
      subst hb'
      have hge : min xs.size ys.size ≤ i := Nat.le_of_not_lt fun z => by
        rw [List.drop_eq_getElem_cons (hZ.symm ▸ z)] at hz; cases hz
      rw [List.drop_of_length_le (by simpa using hge)] at hR
      wp_walk
      exact ⟨_, rfl, by simpa [Builtin.Tuple.tupleCompareSizes, lexB] using hR⟩
    case h =>
      exact ⟨rfl, rfl, 0, rfl, by simpa using h⟩
section
variable {A : Around} {s : Shared}
theorem LtAt.tuples {p q : Addr} {xs ys : Array Value} {e g : Nat → Bool} (hp : s.heap.IsTuple p xs) (hq : s.heap.IsTuple q ys) (hu : A.units < cLine)
    (he : ∀ j (h1 : j < xs.size) (h2 : j < ys.size), EqAt A.in1 s xs[j] ys[j] (e j)) (hg : ∀ j (h1 : j < xs.size) (h2 : j < ys.size), e j = false → LtAt A.in1 s xs[j] ys[j] (g j)) :
    LtAt A s (.ref p) (.ref q) (lexB e g (decide (xs.size < ys.size)) (List.range (min xs.size ys.size))) := fun prog w E Q h => by
  obtain ⟨⟨c1, d1, da1, s1⟩, o1, k1, n1, e1⟩ := id hp
  obtain ⟨⟨c2, d2, da2, s2⟩, o2, k2, n2, e2⟩ := id hq
  simp only at k1 e1 k2 e2
  subst k1 e1 k2 e2
  exact richCompare_meets_room (op := .Lt) ⟨_, o1, rfl⟩ ⟨_, o2, rfl⟩ F.slot_tuple_lt F.entry_tuple_lt (F.args_tuple_lt_2 _ _) (tuple_ltAt p q xs ys n1 n2 d1 d2 s1 s2 e g)
    ⟨o1, o2, he, hg, show Value.bool (lexB e g (decide (xs.size < ys.size)) (List.range (min xs.size ys.size))) ≠ Value.notImplemented ∧ Q _ s from ⟨(fun x => nomatch x), h⟩⟩ hu
theorem LtAt.int (a : Int) (t : Tok) (b : Int) (u : Tok) : LtAt A s (.int a t) (.int b u) (decide (a < b)) := fun _ _ _ _ h => PyProof.Rows.lt_int h
theorem LtAt.str (a : Str) (t : Tok) (b : Str) (u : Tok) : LtAt A s (.str a t) (.str b u) (decide (a.cps.toList < b.cps.toList)) := fun _ _ _ _ h => PyProof.Rows.lt_str h
end
theorem lexB_map (e g : Nat → Bool) (fin : Bool) (f : Nat → Nat) : ∀ l : List Nat, lexB e g fin (l.map f) = lexB (fun j => e (f j)) (fun j => g (f j)) fin l
  | [] => rfl
  | j :: r => by show (if e (f j) = true then lexB e g fin (r.map f) else g (f j)) = _; rw [lexB_map e g fin f r]; rfl
end HL
namespace L2
open PySem PySem.Spec PyProof.Rows HL
mutual
def Dat.lt : Dat → Dat → Bool
  | .int i, .int j => decide (i < j)
  | .str x, .str y => decide (x.cps.toList < y.cps.toList)
  | .tup ds, .tup es => Dat.lts ds es
  | _, _ => false
def Dat.lts : List Dat → List Dat → Bool
  | _, [] => false
  | [], _ :: _ => true
  | d :: ds, e :: es => if Dat.beq d e = true then Dat.lts ds es else Dat.lt d e
end
mutual
def Dat.cmp : Dat → Dat → Bool
  | .int _, .int _ => true
  | .str _, .str _ => true
  | .tup ds, .tup es => Dat.cmps ds es
  | _, _ => false
def Dat.cmps : List Dat → List Dat → Bool
  | _, [] => true
  | [], _ :: _ => true
  | d :: ds, e :: es => Dat.cmp d e && Dat.cmps ds es
end
theorem lts_lex : ∀ (ds es : List Dat), Dat.lts ds es = lexB (fun j => Dat.beq (ds.getD j .non) (es.getD j .non)) (fun j => Dat.lt (ds.getD j .non) (es.getD j .non)) (decide (ds.length < es.length)) (List.range (min ds.length es.length))
  | [], [] => rfl
  | _ :: _, [] => by simp [Dat.lts, lexB]
  | [], _ :: _ => by simp [Dat.lts, lexB]
  | d :: ds, e :: es => by
    have ih := lts_lex ds es
    have hm : min (d :: ds).length (e :: es).length = min ds.length es.length + 1 := by simp only [List.length_cons]; omega
    rw [hm, List.range_succ_eq_map]
    show (if Dat.beq d e = true then Dat.lts ds es else Dat.lt d e) = if Dat.beq d e = true then lexB _ _ _ ((List.range (min ds.length es.length)).map Nat.succ) else Dat.lt d e
    rw [lexB_map, ih]
    simp only [List.length_cons, Nat.add_lt_add_iff_right, Nat.succ_eq_add_one, List.getD_cons_succ]
theorem cmps_at : ∀ {ds es : List Dat} {j : Nat}, Dat.cmps ds es = true → j < ds.length → j < es.length → Dat.cmp (ds.getD j .non) (es.getD j .non) = true
  | [], _, _, _, h, _ => absurd h (by simp)
  | _ :: _, [], _, _, _, h => absurd h (by simp)
  | d :: ds, e :: es, 0, h, _, _ => by
    have h' : (Dat.cmp d e && Dat.cmps ds es) = true := h
    simp only [Bool.and_eq_true] at h'
    exact h'.1
  | d :: ds, e :: es, j + 1, h, h1, h2 => by
    have h' : (Dat.cmp d e && Dat.cmps ds es) = true := h
    simp only [Bool.and_eq_true] at h'
    exact cmps_at (j := j) h'.2 (by simpa using h1) (by simpa using h2)
section
variable {X : Cx} {pins : List (Addr × Obj)} {σ : St} {H : Hp} {s : Shared}
theorem dat_ltAt (I : Inv X pins σ H s) : ∀ (n : Nat) (A : Around) {d e : Dat} {x y : V} {u v : Value}, Dat.cmp d e = true → Dat.deep d ≤ n → A.units + n < cLine → IsDat X.K H d x → IsDat X.K H e y → RelV x u → RelV y v → LtAt A s u v (Dat.lt d e) := by
  intro n
  induction n with
  | zero =>
    intro A d e x y u v hc hn hu hd he rx ry
    cases d with
    | non => exact absurd hc (by simp [Dat.cmp])
    | tup ds => exact absurd hn (by simp [Dat.deep])
    | int i =>
      cases e with
      | int j =>
        cases (show x = .int i from hd); cases (show y = .int j from he)
        obtain ⟨t, rfl⟩ := rx; obtain ⟨t', rfl⟩ := ry
        exact LtAt.int i t j t'
      | non => exact absurd hc (by simp [Dat.cmp])
      | str j => exact absurd hc (by simp [Dat.cmp])
      | tup es => exact absurd hc (by simp [Dat.cmp])
    | str i =>
      cases e with
      | str j =>
        cases (show x = .str i from hd); cases (show y = .str j from he)
        obtain ⟨t, rfl⟩ := rx; obtain ⟨t', rfl⟩ := ry
        exact LtAt.str i t j t'
      | non => exact absurd hc (by simp [Dat.cmp])
      | int j => exact absurd hc (by simp [Dat.cmp])
      | tup es => exact absurd hc (by simp [Dat.cmp])
  | succ n ih =>
    intro A d e x y u v hc hn hu hd he rx ry
    cases d with
    | non => exact absurd hc (by simp [Dat.cmp])
    | int i => exact ih A hc (Nat.zero_le _) (by omega) hd he rx ry
    | str i => exact ih A hc (Nat.zero_le _) (by omega) hd he rx ry
    | tup ds =>
      cases e with
      | non => exact absurd hc (by simp [Dat.cmp])
      | int j => exact absurd hc (by simp [Dat.cmp])
      | str j => exact absurd hc (by simp [Dat.cmp])
      | tup es =>
        obtain ⟨a, xs, rfl, q1, h1⟩ := hd
        obtain ⟨b, ys, rfl, q2, h2⟩ := he
        obtain ⟨its, r1, p1, _⟩ := I.tuple q1
        obtain ⟨its2, r2, p2, _⟩ := I.tuple q2
        cases rx; cases ry
        have l1 := h1.length
        have l2 := h2.length
        have s1 : its.toArray.size = ds.length := by rw [List.size_toArray, ← r1.length, l1]
        have s2 : its2.toArray.size = es.length := by rw [List.size_toArray, ← r2.length, l2]
        have hdp : ∀ {j}, ds.getD j .non ∈ ds → Dat.deep (ds.getD j .non) ≤ n := fun m1 => by
          have h3 := deep_at m1
          have h4 : Dat.deeps ds + 1 ≤ n + 1 := hn
          omega
        have key := LtAt.tuples (e := fun j => Dat.beq (ds.getD j .non) (es.getD j .non)) (g := fun j => Dat.lt (ds.getD j .non) (es.getD j .non)) p1 p2 (by omega : A.units < cLine)
          (fun j j1 j2 => by
            obtain ⟨x', d1, rx', m1⟩ := dat_at (A := A) h1 r1 j1
            obtain ⟨y', d2, ry', _⟩ := dat_at (A := A) h2 r2 j2
            exact dat_eqAt I n A.in1 (hdp m1) (by show A.units + 1 + n < cLine; omega) d1 d2 rx' ry')
          (fun j j1 j2 _ => by
            obtain ⟨x', d1, rx', m1⟩ := dat_at (A := A) h1 r1 j1
            obtain ⟨y', d2, ry', _⟩ := dat_at (A := A) h2 r2 j2
            exact ih A.in1 (cmps_at hc (by omega) (by omega)) (hdp m1) (by show A.units + 1 + n < cLine; omega) d1 d2 rx' ry')
        rw [s1, s2, ← lts_lex] at key
        exact key
theorem op_ltD {n : Nat} (hu : X.A.units + n < cLine) : OpR X (compareOp .Lt) (fun x y H Q => ∃ d e, IsDat X.K H d x ∧ IsDat X.K H e y ∧ Dat.cmp d e = true ∧ Dat.deep d ≤ n ∧ Q (.bl (Dat.lt d e)) H) := by
  intro pins s σ H x y v u Q I rx ry h
  obtain ⟨d, e, hd, he, hc, hn, q⟩ := h
  exact dat_ltAt I n X.A hc hn hu hd he rx ry X.prog X.w _ _ ⟨.bl _, H, I, rfl, q⟩
end
end L2
namespace HX
open PySem
def Tb (h : Heap) (e T : Addr) (cls fl : Value) : Prop :=
  ∃ oe vs oT ts, T ≠ e ∧ h.get? e = some oe ∧ oe.cls = cls ∧ oe.data = .fields vs ∧ vs[1]? = some (.ref T) ∧ h.get? T = some oT ∧ oT.data = .fields ts ∧ ts[3]? = some fl
structure Mvd (S ch : List Addr) (h h' : Heap) : Prop where
  size : h.objs.size ≤ h'.objs.size
  keep : ∀ b o, b ∉ S → b ∉ ch → h.get? b = some o → h'.get? b = some o
  slot : ∀ b o, b ∉ ch → h.get? b = some o → ∃ sl, h'.get? b = some { o with slots := sl }
theorem Mvd.trans {S ch ch2 : List Addr} {h h1 h2 : Heap} (x : Mvd S ch h h1) (y : Mvd S ch2 h1 h2) (hs : ∀ b ∈ ch2, b ∈ ch ∨ h.get? b = none) : Mvd S ch h h2 where
  size := Nat.le_trans x.size y.size
  keep := fun b o n1 n2 e => y.keep b o n1 (fun z => (hs b z).elim n2 fun k => by rw [k] at e; cases e) (x.keep b o n1 n2 e)
  slot := fun b o n e => by
    obtain ⟨s1, e1⟩ := x.slot b o n e
    obtain ⟨s2, e2⟩ := y.slot b _ (fun z => (hs b z).elim n fun k => by rw [k] at e; cases e) e1
    exact ⟨s2, e2⟩
section
variable {M : Model} {A : Around} {E : Value → Shared → Prop} {s : Shared} {base : Heap} {env : Env} {outer : List Env} {L e T : Addr} {cls fl : Value}
end
end HX
namespace L2
open PySem PySem.Spec PyProof.Rows
def CXE (P : Program) (w : World) : CXT := fun outer H s E ev s' => ∃ e T cls H', ev = .ref e ∧ HX.Tb s'.heap e T cls .none ∧ s.heap.get? e = none ∧ s.heap.get? T = none ∧ H' e = none ∧ H' T = none ∧
  s'.os = s.os ∧ AllBare s'.gens ∧ Un (frs outer) [] H H' s.heap s'.heap ∧ HOk P w H' s'.heap ∧ E cls none H'
theorem ObjOk.ob {P : Program} {w : World} {H : Hp} {h : Heap} {a : Addr} {o : HO} (x : ObjOk P w H h a o) : ∃ q, h.get? a = some q := by
  cases o with
  | lst xs => obtain ⟨_, _, _, _, e⟩ := x; exact ⟨_, e⟩
  | tup xs => obtain ⟨_, _, _, ⟨o, e, _⟩, _⟩ := x; exact ⟨_, e⟩
  | dK kvs => obtain ⟨_, _, _, _, o, _, _, e, _⟩ := x; exact ⟨_, e⟩
  | dT kvs => obtain ⟨_, _, _, _, o, _, _, e, _⟩ := x; exact ⟨_, e⟩
  | set S n => obtain ⟨o, _, _, _, e, _⟩ := x; exact ⟨_, e⟩
  | ins C dx fs => obtain ⟨_, _, _, e, _⟩ := x; exact ⟨_, e⟩
  | own y => obtain ⟨_, e⟩ := x; exact ⟨_, e⟩
  | xd fs => obtain ⟨_, ⟨_, _, _, e, _⟩, _⟩ := x; exact ⟨_, e⟩
  | rng lo hi => obtain ⟨_, _, _, e⟩ := x; exact ⟨_, e⟩
  | frz ob u => obtain ⟨e, _⟩ := x; exact ⟨_, e⟩
  | tbl ps => exact ⟨_, x⟩
  | met f y => exact ⟨_, x⟩
  | ext φ => obtain ⟨_, ⟨_, e⟩, _⟩ := x; exact ⟨_, e⟩
theorem HOk.no {P : Program} {w : World} {H : Hp} {h : Heap} {a : Addr} (x : HOk P w H h) (e : h.get? a = none) : H a = none := by
  cases q : H a with
  | none => rfl
  | some u => obtain ⟨o, z⟩ := (x a u q).ob; rw [e] at z; cases z
section
variable {P : Program} {w : World} {K : PySem.W.Frag} {mg : Str → Option Value} {base : Heap} {N : List Str} {qual : Str} {scope : Scope} {f : Addr} {cd : Value} {A : Around} {outer : List Env} {s0 : Shared} {H0 : Hp} {E E' : XK}
end
section
variable {X : Cx} {pins : List (Addr × Obj)} {σ : St} {H : Hp} {s : Shared}
end
end L2
namespace L2
open PySem PySem.Spec PyProof.Rows
section
variable {X : Cx}
end
end L2
namespace HZ
open PySem PySem.Builtin
section
variable {prog : Program} {w : World} {A : Around} {E : Value → Shared → Prop} {s : Shared}
theorem sb {x : Addr} {h h' : Heap} (m : Heap.SameBut x h h') {b : Addr} {o : Obj} (n : b ≠ x) (e : h.get? b = some o) : h'.get? b = some o := m.extBut b o n e
variable {z a b c d p q : Addr} {u v x y : Value} {k : Nat} {xs ys : Array Value}
end
abbrev ti (p : Addr) : Obj := { cls := .type "tuple_iterator", data := .fields #[.ref p, .int 0 0] }
abbrev w1 (h : Heap) (p : Addr) : Heap := h.push (ti p)
abbrev w2 (h : Heap) (p q : Addr) : Heap := (w1 h p).push (ti q)
abbrev w3 (h : Heap) (p q : Addr) : Heap := (w2 h p q).push { cls := .type "tuple", data := .seq #[.ref h.objs.size, .ref (w1 h p).objs.size] }
abbrev w4 (h : Heap) (p q : Addr) : Heap := (w3 h p q).push { cls := .type "tuple", data := .seq #[.none, .none] }
abbrev w5 (h : Heap) (p q : Addr) : Heap := (w4 h p q).push { cls := .type "zip", data := .fields #[.none, .bool false, .bool false, .ref (w2 h p q).objs.size, .ref (w3 h p q).objs.size] }
section
variable {prog : Program} {w : World} {A : Around} {E : Value → Shared → Prop} {s : Shared} {p q : Addr} {xs ys : Array Value}
end
end HZ
namespace L2
open PySem PySem.Spec PyProof.Rows
section
variable {X : Cx} {pins : List (Addr × Obj)} {σ : St} {H : Hp} {s : Shared} {h' : Heap}
end
end L2
namespace HM
open PySem
theorem nofill_t : fillsNumberSlot (.type "tuple") "mul" = pure false :=
  fillsNumberSlot_seq (id := "tuple.__mul__") (r := some (.builtin "tuple.__rmul__")) F.slot_tuple_mul.lookup (by decide +kernel) F.slot_tuple_rmul.lookup (by decide +kernel)
theorem rep_t : seqRepeat? (.type "tuple") = pure (some (.builtin "tuple.__mul__")) := by
  have e1 := seqSlot_of (T := "tuple") (name := "__mul__") (id := "tuple.__mul__") F.slot_tuple_mul.lookup (by decide +kernel)
  have e2 := seqSlot_of (T := "tuple") (name := "__rmul__") (id := "tuple.__rmul__") F.slot_tuple_rmul.lookup (by decide +kernel)
  unfold seqRepeat?
  rw [e1, e2]
  rfl
theorem rmul_t (a : Int) (t : Tok) (l : Addr) (items : Array Value) (n : Nat) (d : Option Addr) (sl : Array (Option Value)) :
    Meets (Builtin.«int.__rmul__» ⟨[.int a t, .ref l], []⟩) (fun _ R s => s.heap.get? l = some { cls := .type "tuple", dict := d, data := .seq items n, slots := sl } ∧ R (.ok (.ret Value.notImplemented)) s) :=
  .of_wp fun prog w A R s h => by obtain ⟨hp, g, dr, tk, os⟩ := s; obtain ⟨hl, h⟩ := h; wp_walk; exact ⟨_, rfl, h⟩
section
variable {prog : Program} {w : World} {A : Around} {E : Value → Shared → Prop} {s : Shared}
end
end HM
namespace L2
open PySem PySem.Spec PyProof.Rows
section
variable {X : Cx}
end
section
variable {P : Program} {w : World} {K : PySem.W.Frag} {mg : Str → Option Value} {base : Heap}
end
end L2
namespace L2
open PySem PySem.Spec PyProof.Rows
end L2
namespace HS
open PySem PySem.W PyProof.Rows
def ev (lt : Nat → Nat → Bool) {α : Type} : KasT α → α
  | .ret a => a
  | .ask i j k => ev lt (k (lt i j))
theorem ev_bind (lt : Nat → Nat → Bool) {α β : Type} (f : α → KasT β) : ∀ t : KasT α, ev lt (t.bind f) = ev lt (f (ev lt t))
  | .ret _ => rfl
  | .ask i j k => ev_bind lt f (k (lt i j))
structure Ord (lt : Nat → Nat → Bool) : Prop where
  tot : ∀ a b, lt a b = true → lt b a = false
  tr : ∀ a b c, lt b a = false → lt c b = false → lt c a = false
section
variable {lt : Nat → Nat → Bool} (O : Ord lt)
abbrev P (p : Array Nat) (i : Nat) : Nat := p.getD i 0
theorem P_eq {p p' : Array Nat} {i j : Nat} (h : p[i]? = p'[j]?) : P p i = P p' j := by
  unfold P
  rw [Array.getD_eq_getD_getElem?, Array.getD_eq_getD_getElem?, h]
def S (lt : Nat → Nat → Bool) (p : Array Nat) (k : Nat) : Prop := ∀ i j, i ≤ j → j < k → lt (P p j) (P p i) = false
def D (lt : Nat → Nat → Bool) (p : Array Nat) (k : Nat) : Prop := ∀ i j, i ≤ j → j < k → lt (P p i) (P p j) = false
include O in
theorem rfl_ (a : Nat) : lt a a = false := by
  cases h : lt a a with
  | false => rfl
  | true => rw [O.tot a a h] at h; cases h
include O in
theorem S_step {p : Array Nat} {n : Nat} (h1 : 1 ≤ n) (hs : S lt p n) (h : lt (P p n) (P p (n - 1)) = false) : S lt p (n + 1) := fun i j hij hj => by
  by_cases e : j = n
  · subst e
    by_cases e2 : i = j
    · subst e2; exact rfl_ O _
    · exact O.tr _ _ _ (hs i (j - 1) (by omega) (by omega)) h
  · exact hs i j hij (by omega)
include O in
theorem D_step {p : Array Nat} {n : Nat} (h1 : 1 ≤ n) (hs : D lt p n) (h : lt (P p (n - 1)) (P p n) = false) : D lt p (n + 1) := fun i j hij hj => by
  by_cases e : j = n
  · subst e
    by_cases e2 : i = j
    · subst e2; exact rfl_ O _
    · exact O.tr _ _ _ h (hs i (j - 1) (by omega) (by omega))
  · exact hs i j hij (by omega)
include O in
theorem asc_ok (p : Array Nat) : ∀ (f n : Nat), 1 ≤ n → S lt p n → n ≤ ev lt (kas_asc p f n) ∧ ev lt (kas_asc p f n) ≤ n + f ∧ S lt p (ev lt (kas_asc p f n))
  | 0, n, _, hs => ⟨Nat.le_refl _, Nat.le_refl _, hs⟩
  | f + 1, n, h1, hs => by
    show n ≤ ev lt (if lt (P p n) (P p (n - 1)) = true then .ret n else kas_asc p f (n + 1)) ∧ ev lt (if lt (P p n) (P p (n - 1)) = true then .ret n else kas_asc p f (n + 1)) ≤ n + (f + 1) ∧ S lt p (ev lt (if lt (P p n) (P p (n - 1)) = true then .ret n else kas_asc p f (n + 1)))
    cases h : lt (P p n) (P p (n - 1)) with
    | true => rw [if_pos rfl]; exact ⟨Nat.le_refl _, Nat.le_add_right _ _, hs⟩
    | false =>
      rw [if_neg Bool.false_ne_true]
      have ih := asc_ok p f (n + 1) (by omega) (S_step O h1 hs h)
      exact ⟨by omega, by omega, ih.2.2⟩
theorem rev_size (p : Array Nat) (i j : Nat) : (kas_rev p i j).size = p.size := mirror_size _ _ _ _
theorem rev_perm (p : Array Nat) (i j : Nat) : (kas_rev p i j).Perm p := mirror_perm _ _ _ _
theorem rev_at {p : Array Nat} {i j : Nat} (hj : j ≤ p.size) (k : Nat) : P (kas_rev p i j) k = if i ≤ k ∧ k < j then P p (i + j - 1 - k) else P p k := by
  have := getElem?_mirror_all (xs := p) (i := i) hj k
  split
  · rename_i h
    rw [if_pos h] at this
    exact P_eq this
  · rename_i h
    rw [if_neg h] at this
    exact P_eq this
def Eqv (lt : Nat → Nat → Bool) (a b : Nat) : Prop := lt a b = false ∧ lt b a = false
include O in
theorem rev_eqv {p : Array Nat} {i j : Nat} (hj : j ≤ p.size) (h : ∀ k, i ≤ k → k < j → Eqv lt (P p k) (P p (j - 1))) (k : Nat) : Eqv lt (P (kas_rev p i j) k) (P p k) := by
  rw [rev_at hj]
  split
  · rename_i hk
    have a := h (i + j - 1 - k) (by omega) (by omega)
    have b := h k hk.1 hk.2
    exact ⟨O.tr _ _ _ b.2 a.1, O.tr _ _ _ a.2 b.1⟩
  · exact ⟨rfl_ O _, rfl_ O _⟩
include O in
theorem D_eqv {p p' : Array Nat} {n : Nat} (h : D lt p n) (e : ∀ k, Eqv lt (P p' k) (P p k)) : D lt p' n := fun i j hij hj =>
  O.tr _ _ _ (O.tr _ _ _ (e j).2 (h i j hij hj)) (e i).1
structure Dn (lt : Nat → Nat → Bool) (p0 p : Array Nat) (n q lo hi : Nat) : Prop where
  perm : p.Perm p0
  d : D lt p n
  low : lo ≤ n
  high : n ≤ hi
  qn : q + 1 ≤ n
  eq : ∀ k, n - (q + 1) ≤ k → k < n → Eqv lt (P p k) (P p (n - 1))
include O in
theorem desc_ok : ∀ (f : Nat) (p : Array Nat) (n q : Nat), 1 ≤ n → n + f ≤ p.size → D lt p n → q + 1 ≤ n → (∀ k, n - (q + 1) ≤ k → k < n → Eqv lt (P p k) (P p (n - 1))) →
    Dn lt p (ev lt (kas_desc f p n q)).1 (ev lt (kas_desc f p n q)).2.1 (ev lt (kas_desc f p n q)).2.2 n (n + f)
  | 0, p, n, q, _, _, hd, hq, he => ⟨Array.Perm.refl _, hd, Nat.le_refl _, Nat.le_refl _, hq, he⟩
  | f + 1, p, n, q, h1, hz, hd, hq, he => by
    have one : ∀ (p' : Array Nat) (n' : Nat), ∀ k, n' + 1 - (0 + 1) ≤ k → k < n' + 1 → Eqv lt (P p' k) (P p' (n' + 1 - 1)) := fun p' n' k a b => by
      have : k = n' := by omega
      subst this
      exact ⟨rfl_ O _, rfl_ O _⟩
    have up : ∀ {p0 p' : Array Nat} {m r : Nat}, p0.Perm p → Dn lt p0 p' m r (n + 1) (n + 1 + f) → Dn lt p p' m r n (n + (f + 1)) := fun {p0 p' m r} hp h => ⟨h.perm.trans hp, h.d, by have := h.low; omega, by have := h.high; omega, h.qn, h.eq⟩
    have step : ev lt (kas_desc (f + 1) p n q) = if lt (P p n) (P p (n - 1)) = true then (if q > 0 then ev lt (kas_desc f (kas_rev p (n - (q + 1)) n) (n + 1) 0) else ev lt (kas_desc f p (n + 1) 0))
        else if lt (P p (n - 1)) (P p n) = true then (p, n, q) else ev lt (kas_desc f p (n + 1) (q + 1)) := by
      show ev lt (if lt (P p n) (P p (n - 1)) = true then _ else _) = _
      cases lt (P p n) (P p (n - 1)) with
      | true => rw [if_pos rfl, if_pos rfl]; split <;> rfl
      | false =>
        rw [if_neg Bool.false_ne_true, if_neg Bool.false_ne_true]
        show ev lt (if lt (P p (n - 1)) (P p n) = true then _ else _) = _
        cases lt (P p (n - 1)) (P p n) with
        | true => rw [if_pos rfl, if_pos rfl]; rfl
        | false => rw [if_neg Bool.false_ne_true, if_neg Bool.false_ne_true]
    rw [step]
    cases hc : lt (P p n) (P p (n - 1)) with
    | true =>
      rw [if_pos rfl]
      have hle := O.tot _ _ hc
      split
      · have hev := rev_eqv O (p := p) (i := n - (q + 1)) (j := n) (by omega) he
        have hd' : D lt (kas_rev p (n - (q + 1)) n) (n + 1) := D_step O h1 (D_eqv O hd hev) (O.tr _ _ _ (O.tr _ _ _ (hev n).2 hle) (hev (n - 1)).1)
        exact up (rev_perm _ _ _) (desc_ok f _ (n + 1) 0 (by omega) (by rw [rev_size]; omega) hd' (by omega) (one _ _))
      · exact up (Array.Perm.refl _) (desc_ok f p (n + 1) 0 (by omega) (by omega) (D_step O h1 hd hle) (by omega) (one _ _))
    | false =>
      rw [if_neg Bool.false_ne_true]
      cases hb : lt (P p (n - 1)) (P p n) with
      | true => rw [if_pos rfl]; exact ⟨Array.Perm.refl _, hd, Nat.le_refl _, Nat.le_add_right _ _, hq, he⟩
      | false =>
        rw [if_neg Bool.false_ne_true]
        refine up (Array.Perm.refl _) (desc_ok f p (n + 1) (q + 1) (by omega) (by omega) (D_step O h1 hd hb) (by omega) fun k a b => ?_)
        have e1 : Eqv lt (P p (n - 1)) (P p n) := ⟨hb, hc⟩
        show Eqv lt (P p k) (P p n)
        by_cases e : k = n
        · subst e; exact ⟨rfl_ O _, rfl_ O _⟩
        · have := he k (by omega) (by omega)
          exact ⟨O.tr _ _ _ e1.1 this.1, O.tr _ _ _ this.2 e1.2⟩
structure Up (lt : Nat → Nat → Bool) (p0 : Array Nat) (r : Nat × Array Nat) (hi : Nat) : Prop where
  perm : r.2.Perm p0
  s : S lt r.2 r.1
  lo : 1 ≤ r.1
  hi : r.1 ≤ hi
include O in
theorem tail3_ok (n nrem : Nat) (p : Array Nat) (h1 : 1 ≤ n) (hn : n ≤ nrem) (hz : nrem ≤ p.size) (hd : D lt p n) : Up lt p (ev lt (kas_tail3 n nrem p)) nrem := by
  have e : ev lt (kas_tail3 n nrem p) = (ev lt (kas_asc (kas_rev p 0 n) (nrem - n) n), kas_rev p 0 n) := ev_bind lt _ _
  have hs : S lt (kas_rev p 0 n) n := fun i j hij hj => by
    rw [rev_at (by omega), rev_at (by omega), if_pos ⟨by omega, hj⟩, if_pos ⟨by omega, by omega⟩]
    exact hd _ _ (by omega) (by omega)
  have a := asc_ok O (kas_rev p 0 n) (nrem - n) n h1 hs
  rw [e]
  exact ⟨rev_perm _ _ _, a.2.2, by show 1 ≤ ev lt _; omega, by show ev lt _ ≤ nrem; omega⟩
include O in
theorem descPart_ok (n nrem : Nat) (p : Array Nat) (hn : n + 1 ≤ nrem) (hz : nrem ≤ p.size) (hd : D lt p (n + 1)) : Up lt p (ev lt (kas_descPart n nrem p)) nrem := by
  have h := desc_ok O (nrem - (n + 1)) p (n + 1) 0 (by omega) (by omega) hd (by omega) fun k a b => by
    have : k = n := by omega
    subst this
    exact ⟨rfl_ O _, rfl_ O _⟩
  have e : ev lt (kas_descPart n nrem p) = ev lt (if (ev lt (kas_desc (nrem - (n + 1)) p (n + 1) 0)).2.2 > 0 then kas_tail3 (ev lt (kas_desc (nrem - (n + 1)) p (n + 1) 0)).2.1 nrem (kas_rev (ev lt (kas_desc (nrem - (n + 1)) p (n + 1) 0)).1 ((ev lt (kas_desc (nrem - (n + 1)) p (n + 1) 0)).2.1 - ((ev lt (kas_desc (nrem - (n + 1)) p (n + 1) 0)).2.2 + 1)) (ev lt (kas_desc (nrem - (n + 1)) p (n + 1) 0)).2.1) else kas_tail3 (ev lt (kas_desc (nrem - (n + 1)) p (n + 1) 0)).2.1 nrem (ev lt (kas_desc (nrem - (n + 1)) p (n + 1) 0)).1) := ev_bind lt _ _
  rw [e]
  generalize ev lt (kas_desc (nrem - (n + 1)) p (n + 1) 0) = r at h
  obtain ⟨p', m, q⟩ := r
  have hsz : p'.size = p.size := h.perm.size_eq
  have hlo := h.low
  have hhi := h.high
  dsimp only at *
  split
  · have hev := rev_eqv O (p := p') (i := m - (q + 1)) (j := m) (by omega) h.eq
    have a := tail3_ok O m nrem (kas_rev p' (m - (q + 1)) m) (by omega) (by omega) (by rw [rev_size]; omega) (D_eqv O h.d hev)
    exact ⟨(a.perm.trans (rev_perm _ _ _)).trans h.perm, a.s, a.lo, a.hi⟩
  · have a := tail3_ok O m nrem p' (by omega) (by omega) (by omega) h.d
    exact ⟨a.perm.trans h.perm, a.s, a.lo, a.hi⟩
include O in
theorem count_ok (nrem : Nat) (p : Array Nat) (h1 : 1 ≤ nrem) (hz : nrem ≤ p.size) : Up lt p (ev lt (kas_count nrem p)) nrem := by
  have s1 : S lt p 1 := fun i j hij hj => by
    have : i = j := by omega
    subst this
    exact rfl_ O _
  have a := asc_ok O p (nrem - 1) 1 (Nat.le_refl _) s1
  have e : ev lt (kas_count nrem p) = ev lt (if (ev lt (kas_asc p (nrem - 1) 1) == nrem) = true then .ret (ev lt (kas_asc p (nrem - 1) 1), p) else if ev lt (kas_asc p (nrem - 1) 1) > 1 then .ask (P p 0) (P p (ev lt (kas_asc p (nrem - 1) 1) - 1)) fun c => if c = true then .ret (ev lt (kas_asc p (nrem - 1) 1), p) else kas_descPart (ev lt (kas_asc p (nrem - 1) 1)) nrem (kas_rev p 0 (ev lt (kas_asc p (nrem - 1) 1))) else kas_descPart (ev lt (kas_asc p (nrem - 1) 1)) nrem p) := ev_bind lt _ _
  have stop : ∀ f n, 1 ≤ n → ev lt (kas_asc p f n) < n + f → lt (P p (ev lt (kas_asc p f n))) (P p (ev lt (kas_asc p f n) - 1)) = true := fun f => by
    induction f with
    | zero => intro n _ h; exact absurd h (Nat.lt_irrefl _)
    | succ f ih =>
      intro n hn h
      have st : ev lt (kas_asc p (f + 1) n) = if lt (P p n) (P p (n - 1)) = true then n else ev lt (kas_asc p f (n + 1)) := by
        show ev lt (if lt (P p n) (P p (n - 1)) = true then _ else _) = _
        split <;> rfl
      rw [st] at h ⊢
      cases hc : lt (P p n) (P p (n - 1)) with
      | true => rw [if_pos rfl]; exact hc
      | false =>
        rw [hc, if_neg Bool.false_ne_true] at h
        rw [if_neg Bool.false_ne_true]
        exact ih (n + 1) (by omega) (by omega)
  have hst := stop (nrem - 1) 1 (Nat.le_refl _)
  rw [e]
  generalize ev lt (kas_asc p (nrem - 1) 1) = n at a hst
  obtain ⟨a1, a2, a3⟩ := a
  split
  · exact ⟨Array.Perm.refl _, a3, a1, by show n ≤ nrem; omega⟩
  · rename_i hne
    have hne' : n ≠ nrem := fun z => hne (by simp [z])
    have hlt := hst (by omega)
    split
    · show Up lt p (ev lt (if lt (P p 0) (P p (n - 1)) = true then _ else _)) nrem
      cases hc : lt (P p 0) (P p (n - 1)) with
      | true => rw [if_pos rfl]; exact ⟨Array.Perm.refl _, a3, a1, by show n ≤ nrem; omega⟩
      | false =>
        rw [if_neg Bool.false_ne_true]
        have eq : ∀ k, 0 ≤ k → k < n → Eqv lt (P p k) (P p (n - 1)) := fun k _ hk => ⟨O.tr _ _ _ (O.tr _ _ _ hc (a3 0 k (by omega) hk)) (rfl_ O _) , a3 k (n - 1) (by omega) (by omega)⟩
        have hev := rev_eqv O (p := p) (i := 0) (j := n) (by omega) eq
        have d0 : D lt p n := fun i j hij hj => O.tr _ _ _ (eq j (by omega) hj).2 (eq i (by omega) (by omega)).1
        have d1 : D lt (kas_rev p 0 n) (n + 1) := D_step O a1 (D_eqv O d0 hev) (O.tr _ _ _ (O.tr _ _ _ (hev n).2 (O.tot _ _ hlt)) (hev (n - 1)).1)
        have a := descPart_ok O n nrem (kas_rev p 0 n) (by omega) (by rw [rev_size]; omega) d1
        exact ⟨a.perm.trans (rev_perm _ _ _), a.s, a.lo, a.hi⟩
    · have hn1 : n = 1 := by omega
      subst hn1
      have d0 : D lt p 1 := fun i j hij hj => by
        have : i = j := by omega
        subst this
        exact rfl_ O _
      exact descPart_ok O 1 nrem p (by omega) hz (D_step O (Nat.le_refl _) d0 (O.tot _ _ hlt))
include O in
theorem place_ok (p : Array Nat) (k : Nat) (hS : S lt p k) : ∀ (f l r : Nat), l ≤ r → r ≤ k → r - l ≤ f → (∀ i, i < l → lt (P p k) (P p i) = false) → (∀ i, r ≤ i → i < k → lt (P p i) (P p k) = false) →
    ev lt (kas_place p k f l r) ≤ k ∧ (∀ i, i < ev lt (kas_place p k f l r) → lt (P p k) (P p i) = false) ∧ ∀ i, ev lt (kas_place p k f l r) ≤ i → i < k → lt (P p i) (P p k) = false
  | 0, l, r, h1, h2, h3, hlo, hhi => by
    have : l = r := by omega
    subst this
    exact ⟨h2, hlo, hhi⟩
  | f + 1, l, r, h1, h2, h3, hlo, hhi => by
    have step : ev lt (kas_place p k (f + 1) l r) = if l ≥ r then l else if lt (P p k) (P p ((l + r) / 2)) = true then ev lt (kas_place p k f l ((l + r) / 2)) else ev lt (kas_place p k f ((l + r) / 2 + 1) r) := by
      show ev lt (if l ≥ r then _ else _) = _
      split
      · rfl
      · show ev lt (if lt (P p k) (P p ((l + r) / 2)) = true then _ else _) = _
        split <;> rfl
    rw [step]
    split
    · have : l = r := by omega
      subst this
      exact ⟨h2, hlo, hhi⟩
    · cases hc : lt (P p k) (P p ((l + r) / 2)) with
      | true =>
        rw [if_pos rfl]
        exact place_ok p k hS f l ((l + r) / 2) (by omega) (by omega) (by omega) hlo fun i a b => O.tr _ _ _ (O.tot _ _ hc) (hS _ i a b)
      | false =>
        rw [if_neg Bool.false_ne_true]
        exact place_ok p k hS f ((l + r) / 2 + 1) r (by omega) h2 (by omega) (fun i a => O.tr _ _ _ (hS i ((l + r) / 2) (by omega) (by omega)) hc) hhi
include O in
theorem bin_ok : ∀ (f : Nat) (p : Array Nat) (k : Nat), S lt p k → k + f ≤ p.size → (ev lt (kas_bin f p k)).Perm p ∧ S lt (ev lt (kas_bin f p k)) (k + f)
  | 0, p, k, hs, _ => ⟨Array.Perm.refl _, hs⟩
  | f + 1, p, k, hs, hz => by
    have e : ev lt (kas_bin (f + 1) p k) = ev lt (kas_bin f (bubble p k (k - ev lt (kas_place p k k 0 k))) (k + 1)) := ev_bind lt _ _
    obtain ⟨b1, b2, b3⟩ := place_ok O p k hs k 0 k (Nat.zero_le _) (Nat.le_refl _) (by omega) (fun i h => absurd h (Nat.not_lt_zero _)) (fun i a b => by omega)
    rw [e]
    generalize ev lt (kas_place p k k 0 k) = l at b1 b2 b3
    have at_ : ∀ i, P (bubble p k (k - l)) i = if i = l then P p k else if l < i ∧ i ≤ k then P p (i - 1) else P p i := fun i => by
      have := getElem?_bubble (xs := p) (src := k) (by omega) (k - l) (by omega) i
      have e1 : k - (k - l) = l := by omega
      rw [e1] at this
      repeat' split
      · rename_i h; rw [if_pos h] at this; exact P_eq this
      · rename_i h h2; rw [if_neg h, if_pos h2] at this; exact P_eq this
      · rename_i h h2; rw [if_neg h, if_neg h2] at this; exact P_eq this
    have hs' : S lt (bubble p k (k - l)) (k + 1) := fun i j hij hj => by
      rw [at_, at_]
      by_cases ei : i = l
      · rw [if_pos ei]
        by_cases ej : j = l
        · rw [if_pos ej]; exact rfl_ O _
        · rw [if_neg ej, if_pos ⟨by omega, by omega⟩]; exact b3 (j - 1) (by omega) (by omega)
      · rw [if_neg ei]
        by_cases ej : j = l
        · rw [if_pos ej, if_neg (by omega)]; exact b2 i (by omega)
        · rw [if_neg ej]
          by_cases hi : l < i ∧ i ≤ k
          · rw [if_pos hi, if_pos ⟨by omega, by omega⟩]; exact hs _ _ (by omega) (by omega)
          · rw [if_neg hi]
            by_cases hj' : l < j ∧ j ≤ k
            · rw [if_pos hj']; exact hs _ _ (by omega) (by omega)
            · rw [if_neg hj']; exact hs _ _ hij (by omega)
    have ih := bin_ok f (bubble p k (k - l)) (k + 1) hs' (by rw [bubble_size]; omega)
    refine ⟨ih.1.trans (bubble_perm _ _ _), ?_⟩
    have e2 : k + (f + 1) = k + 1 + f := by omega
    rw [e2]
    exact ih.2
include O in
theorem sort_ok (n : Nat) (h1 : 1 ≤ n) : (ev lt (kas_sort n)).Perm (List.range n).toArray ∧ S lt (ev lt (kas_sort n)) n := by
  have hz : (List.range n).toArray.size = n := by simp
  have c := count_ok O n (List.range n).toArray h1 (by omega)
  have e : ev lt (kas_sort n) = ev lt (if (ev lt (kas_count n (List.range n).toArray)).1 < n then kas_bin (n - max (ev lt (kas_count n (List.range n).toArray)).1 1) (ev lt (kas_count n (List.range n).toArray)).2 (max (ev lt (kas_count n (List.range n).toArray)).1 1) else .ret (ev lt (kas_count n (List.range n).toArray)).2) := ev_bind lt _ _
  rw [e]
  generalize ev lt (kas_count n (List.range n).toArray) = r at c
  obtain ⟨m, p⟩ := r
  have hp : p.size = n := c.perm.size_eq.trans hz
  have hlo := c.lo
  have hhi := c.hi
  dsimp only at *
  have em : max m 1 = m := by omega
  split
  · rw [em]
    have b := bin_ok O (n - m) p m c.s (by omega)
    have e2 : m + (n - m) = n := by omega
    rw [e2] at b
    exact ⟨b.1.trans c.perm, b.2⟩
  · have : m = n := by omega
    subst this
    exact ⟨c.perm, c.s⟩
end
theorem sorted_list {α : Type} (vs : List α) (d : α) (lt : α → α → Bool) (tot : ∀ a b, lt a b = true → lt b a = false) (tr : ∀ a b c, lt b a = false → lt c b = false → lt c a = false) (h1 : 1 ≤ vs.length) :
    ((ev (fun i j => lt (vs.getD i d) (vs.getD j d)) (kas_sort vs.length)).toList.map fun i => vs.getD i d).Perm vs ∧
      ((ev (fun i j => lt (vs.getD i d) (vs.getD j d)) (kas_sort vs.length)).toList.map fun i => vs.getD i d).Pairwise fun a b => lt b a = false := by
  have O : Ord (fun i j => lt (vs.getD i d) (vs.getD j d)) := ⟨fun a b h => tot _ _ h, fun a b c h1 h2 => tr _ _ _ h1 h2⟩
  obtain ⟨hp, hs⟩ := sort_ok O vs.length h1
  generalize ev (fun i j => lt (vs.getD i d) (vs.getD j d)) (kas_sort vs.length) = p at hp hs
  have hpl : p.toList.Perm (List.range vs.length) := by simpa using hp.toList
  have hsz : p.size = vs.length := by simpa using hp.size_eq
  refine ⟨?_, ?_⟩
  · have e : (List.range vs.length).map (fun i => vs.getD i d) = vs := by
      apply List.ext_getElem?
      intro i
      rw [List.getElem?_map]
      by_cases hi : i < vs.length
      · rw [List.getElem?_range hi, List.getElem?_eq_getElem hi]
        simp [List.getD_eq_getElem?_getD, hi]
      · rw [List.getElem?_eq_none (by simpa using hi), List.getElem?_eq_none (by omega)]
        rfl
    have := hpl.map (fun i => vs.getD i d)
    rw [e] at this
    exact this
  · rw [List.pairwise_map, List.pairwise_iff_getElem]
    intro i j hi hj hij
    have a := hs i j (by omega) (by simpa [hsz] using hj)
    have e1 : P p i = p.toList[i] := by
      have hi' : i < p.size := by simpa using hi
      simp [P, Array.getD, hi']
    have e2 : P p j = p.toList[j] := by
      have hj' : j < p.size := by simpa using hj
      simp [P, Array.getD, hj']
    rw [e1, e2] at a
    exact a
end HS
namespace HS
open PySem PySem.W PyProof.Rows
def bel (n : Nat) {α : Type} (R : α → Prop) : KasT α → Prop
  | .ret a => R a
  | .ask i j k => i < n ∧ j < n ∧ ∀ b, bel n R (k b)
theorem bel_bind {n : Nat} {α β : Type} {R : α → Prop} {T : β → Prop} {f : α → KasT β} (hf : ∀ a, R a → bel n T (f a)) : ∀ t : KasT α, bel n R t → bel n T (t.bind f)
  | .ret a, h => hf a h
  | .ask i j k, h => ⟨h.1, h.2.1, fun b => bel_bind hf (k b) (h.2.2 b)⟩
theorem wp_bel {n : Nat} {lt : Nat → Nat → Bool} {α : Type} {R : α → Prop} {cmp : Nat → Nat → (Bool → Shared → Prop) → Shared → Prop} {Q : α → Shared → Prop} {s : Shared} (hc : ∀ i j (C : Bool → Shared → Prop), i < n → j < n → C (lt i j) s → cmp i j C s) : ∀ t : KasT α, bel n R t → Q (ev lt t) s → t.kasWp cmp Q s
  | .ret _, _, h => h
  | .ask i j k, hb, h => hc i j _ hb.1 hb.2.1 (wp_bel hc (k (lt i j)) (hb.2.2 _) h)
structure Ent (n : Nat) (p : Array Nat) : Prop where
  pos : 0 < n
  all : ∀ y ∈ p.toList, y < n
theorem Ent.at {n : Nat} {p : Array Nat} (h : Ent n p) (x : Nat) : P p x < n := by
  by_cases hx : x < p.size
  · have e : P p x = p[x] := by simp [P, Array.getD, hx]
    rw [e]
    exact h.all _ (by simp)
  · have e : P p x = 0 := by simp [P, Array.getD, hx]
    rw [e]
    exact h.pos
theorem Ent.perm {n : Nat} {p q : Array Nat} (h : Ent n p) (hp : q.Perm p) : Ent n q := ⟨h.pos, fun y hy => h.all y ((hp.toList.mem_iff).mp hy)⟩
theorem bel_asc {n : Nat} {p : Array Nat} (h : Ent n p) : ∀ (f m : Nat), bel n (fun _ => True) (kas_asc p f m)
  | 0, _ => trivial
  | f + 1, m => ⟨h.at _, h.at _, fun b => by
    cases b with
    | true => exact trivial
    | false => exact bel_asc h f (m + 1)⟩
theorem bel_desc {n : Nat} : ∀ (f : Nat) (p : Array Nat) (m q : Nat), Ent n p → bel n (fun r : Array Nat × Nat × Nat => Ent n r.1) (kas_desc f p m q)
  | 0, _, _, _, h => h
  | f + 1, p, m, q, h => ⟨h.at _, h.at _, fun b => by
    cases b with
    | true =>
      show bel n _ (if q > 0 then _ else _)
      split
      · exact bel_desc f _ _ _ (h.perm (rev_perm _ _ _))
      · exact bel_desc f _ _ _ h
    | false =>
      refine ⟨h.at _, h.at _, fun c => ?_⟩
      cases c with
      | true => exact h
      | false => exact bel_desc f _ _ _ h⟩
theorem bel_tail3 {n : Nat} {p : Array Nat} (h : Ent n p) (m r : Nat) : bel n (fun r : Nat × Array Nat => Ent n r.2) (kas_tail3 m r p) := by
  refine bel_bind (R := fun _ => True) (fun a _ => ?_) _ (bel_asc (h.perm (rev_perm p 0 m)) _ _)
  exact h.perm (rev_perm p 0 m)
theorem bel_descPart {n : Nat} {p : Array Nat} (h : Ent n p) (m r : Nat) : bel n (fun r : Nat × Array Nat => Ent n r.2) (kas_descPart m r p) := by
  refine bel_bind (fun a ha => ?_) _ (bel_desc _ _ _ _ h)
  split
  · exact bel_tail3 (Ent.perm ha (rev_perm _ _ _)) _ _
  · exact bel_tail3 ha _ _
theorem bel_count {n : Nat} {p : Array Nat} (h : Ent n p) (r : Nat) : bel n (fun r : Nat × Array Nat => Ent n r.2) (kas_count r p) := by
  refine bel_bind (fun a _ => ?_) _ (bel_asc h _ _)
  split
  · exact h
  · split
    · refine ⟨h.at _, h.at _, fun b => ?_⟩
      cases b with
      | true => exact h
      | false => exact bel_descPart (h.perm (rev_perm _ _ _)) _ _
    · exact bel_descPart h _ _
theorem bel_place {n : Nat} {p : Array Nat} (h : Ent n p) (k : Nat) : ∀ f l r : Nat, bel n (fun _ => True) (kas_place p k f l r)
  | 0, _, _ => trivial
  | f + 1, l, r => by
    show bel n _ (if l ≥ r then _ else _)
    split
    · exact trivial
    · refine ⟨h.at _, h.at _, fun b => ?_⟩
      cases b with
      | true => exact bel_place h k f _ _
      | false => exact bel_place h k f _ _
theorem bel_bin {n : Nat} : ∀ (f : Nat) (p : Array Nat) (k : Nat), Ent n p → bel n (fun _ => True) (kas_bin f p k)
  | 0, _, _, _ => trivial
  | f + 1, p, k, h => bel_bind (fun a _ => bel_bin f _ _ (h.perm (bubble_perm _ _ _))) _ (bel_place h _ _ _ _)
theorem bel_sort {n : Nat} (h : 0 < n) : bel n (fun _ => True) (kas_sort n) := by
  refine bel_bind (fun a ha => ?_) _ (bel_count (n := n) ⟨h, fun y hy => by simpa using hy⟩ n)
  split
  · exact bel_bin _ _ _ ha
  · exact trivial
section
variable {prog : Program} {w : World} {A : Around} {E : Value → Shared → Prop} {s : Shared} {κ : Type}
structure Order (lt : κ → κ → Bool) (ks : List κ) (d : κ) (p : List Nat) : Prop where
  perm : p.Perm (List.range ks.length)
  rise : p.Pairwise fun i j => lt (ks.getD j d) (ks.getD i d) = false
theorem order_ok (lt : κ → κ → Bool) (tot : ∀ a b, lt a b = true → lt b a = false) (tr : ∀ a b c, lt b a = false → lt c b = false → lt c a = false) (ks : List κ) (d : κ) (h1 : 1 ≤ ks.length) :
    Order lt ks d (ev (fun i j => lt (ks.getD i d) (ks.getD j d)) (kas_sort ks.length)).toList := by
  have O : Ord (fun i j => lt (ks.getD i d) (ks.getD j d)) := ⟨fun a b h => tot _ _ h, fun a b c h1 h2 => tr _ _ _ h1 h2⟩
  obtain ⟨hp, hs⟩ := sort_ok O ks.length h1
  generalize ev (fun i j => lt (ks.getD i d) (ks.getD j d)) (kas_sort ks.length) = p at hp hs
  have hsz : p.size = ks.length := by simpa using hp.size_eq
  refine ⟨by simpa using hp.toList, ?_⟩
  rw [List.pairwise_iff_getElem]
  intro i j hi hj hij
  have a := hs i j (by omega) (by simpa [hsz] using hj)
  have e1 : P p i = p.toList[i] := by
    have hi' : i < p.size := by simpa using hi
    simp [P, Array.getD, hi']
  have e2 : P p j = p.toList[j] := by
    have hj' : j < p.size := by simpa using hj
    simp [P, Array.getD, hj']
  rw [e1, e2] at a
  exact a
theorem order_small (lt : κ → κ → Bool) (ks : List κ) (d : κ) (h : ks.length < 2) : Order lt ks d (List.range ks.length) := by
  refine ⟨List.Perm.refl _, ?_⟩
  match ks, h with
  | [], _ => exact List.Pairwise.nil
  | [_], _ => exact List.pairwise_singleton ..
  | _ :: _ :: _, h => exact absurd h (by simp only [List.length_cons]; omega)
theorem range_get (vs : List Value) : ((List.range vs.length).map fun i => vs.getD i Value.none) = vs := by
  apply List.ext_getElem?
  intro i
  rw [List.getElem?_map]
  by_cases hi : i < vs.length
  · rw [List.getElem?_range hi, List.getElem?_eq_getElem hi]
    simp [List.getD_eq_getElem?_getD, hi]
  · rw [List.getElem?_eq_none (by simpa using hi), List.getElem?_eq_none (by omega)]
    rfl
def Asks (prog : Program) (w : World) (A : Around) (lt : κ → κ → Bool) (ks : List κ) (d : κ) (vs : List Value) (s : Shared) : Prop :=
  ∃ kd : SortKind, (∀ (Q : SortKind → Shared → Prop) (E : Value → Shared → Prop), Q kd s → wpAny (model prog w) A (keyKind' vs.toArray) Q E s) ∧
    ∀ (i j : Nat) (C : Bool → Shared → Prop), i < vs.length → j < vs.length → C (lt (ks.getD i d) (ks.getD j d)) s → wpAny (model prog w) A (keyLt' kd (vs.getD i Value.none) (vs.getD j Value.none)) C (fun _ _ => False) s
theorem list_sort {lt : κ → κ → Bool} (tot : ∀ a b, lt a b = true → lt b a = false) (tr : ∀ a b c, lt b a = false → lt c b = false → lt c a = false) {ks : List κ} {d : κ} {a : Addr} {vs : List Value} {n : Nat} {R : PySem.Fin → Shared → Prop}
    (hl : ks.length = vs.length) (hob : s.heap.get? a = some (seqObj "list" vs.toArray n)) (h64 : vs.length < 64)
    (hk : 2 ≤ vs.length → ∀ h3, (∀ b o, b ≠ a → s.heap.get? b = some o → h3.get? b = some o) → Asks prog w A lt ks d vs { s with heap := h3 })
    (h : ∀ p e h', Order lt ks d p → (∀ b o, b ≠ a → s.heap.get? b = some o → h'.get? b = some o) → h'.get? a = some (seqObj "list" (p.map fun i => vs.getD i Value.none).toArray e) → R (.done (.ret .none)) { s with heap := h' }) :
    wpAny (model prog w) A (Builtin.«list.sort» ⟨[.ref a], []⟩) R E s := by
  have ha : a < s.heap.objs.size := Heap.lt_size hob
  have sb1 := Heap.SameBut.update s.heap a (Obj.mapSeq fun _ => (#[] : Array Value))
  obtain ⟨ep1, hob1⟩ : ∃ ep1, (s.heap.update a (Obj.mapSeq fun _ => (#[] : Array Value))).get? a = some (seqObj "list" #[] ep1) := ⟨_, get?_update_seq hob fun _ => #[]⟩
  have keep : ∀ b o, b ≠ a → s.heap.get? b = some o → (((s.heap.update a (Obj.mapSeq fun _ => (#[] : Array Value))).push (seqObj "tuple" vs.toArray 0)).push (seqObj "list" #[] 0)).get? b = some o := fun b o hb e =>
    Heap.get?_push_of_some _ (Heap.get?_push_of_some _ ((sb1.2 b hb).trans e))
  have here : (((s.heap.update a (Obj.mapSeq fun _ => (#[] : Array Value))).push (seqObj "tuple" vs.toArray 0)).push (seqObj "list" #[] 0)).get? a = some (seqObj "list" #[] ep1) := Heap.get?_push_of_some _ (Heap.get?_push_of_some _ hob1)
  rw [list_sort_plain]
  refine wpAny_bind (listItems_at hob rfl ?_)
  refine wpAny_bind (listUpdate_at hob rfl ?_ (by rw [List.size_toArray, sizeLine_eq]; omega) (Nat.zero_le _))
  refine wpAny_bind (seqEpoch_at hob1 rfl ?_)
  refine wpAny_bind (wpAny_newTuple ?_ (by show vs.length ≤ _; rw [sizeLine_eq]; omega))
  refine wpAny_bind (wpAny_newList ?_ (Nat.zero_le _))
  refine wpAny_holding ?_
  show wpAny (model prog w) A _ R E { s with heap := ((s.heap.update a (Obj.mapSeq fun _ => (#[] : Array Value))).push (seqObj "tuple" vs.toArray 0)).push (seqObj "list" #[] 0) }
  generalize hh3 : ((s.heap.update a (Obj.mapSeq fun _ => (#[] : Array Value))).push (seqObj "tuple" vs.toArray 0)).push (seqObj "list" #[] 0) = h3 at keep here
  dsimp only
  -- the end, from the places
  have fin : ∀ (p : List Nat) (st' : SortSt), Order lt ks d p → (arrOf st').map (·.2) = (p.map fun i => vs.getD i Value.none).toArray → failedOf st' = none → p.length ≤ 64 →
      wpAny (model prog w) A (do
        let touched := (← seqEpoch a) != ep1
        Builtin.List.listUpdate (.ref a) fun _ => (arrOf st').map (·.2)
        if let some e := failedOf st' then rule "list.sort.comparison-raised"; throw e
        if touched then rule "list.sort.modified"; raiseError "ValueError" "list modified during sort"
        ret .none) R E { s with heap := h3 } := fun p st' hO hout hf hpl => by
    have s2 := Heap.SameBut.update h3 a (Obj.mapSeq fun _ => (arrOf st').map (·.2))
    obtain ⟨c2, hc2⟩ : ∃ c2, (h3.update a (Obj.mapSeq fun _ => (arrOf st').map (·.2))).get? a = some (seqObj "list" ((arrOf st').map (·.2)) c2) := ⟨_, get?_update_seq here fun _ => (arrOf st').map (·.2)⟩
    refine wpAny_bind (seqEpoch_at here rfl ?_)
    refine wpAny_bind (listUpdate_at here rfl ?_ (Nat.zero_le _) (by rw [hout, List.size_toArray, List.length_map, sizeLine_eq]; omega))
    rw [hf]
    simp only [bne_self_eq_false, Bool.false_eq_true, if_false]
    refine wpAny_pure (h p c2 _ hO (fun b o hb e => (s2.2 b hb).trans (keep b o hb e)) ?_)
    rw [hc2, hout]
  by_cases few : vs.toArray.size < 2
  · rw [if_pos few, if_pos few]
    refine wpAny_bind (wpAny_pure ?_)
    rw [StateT.run_pure]
    refine wpAny_bind (wpAny_pure ?_)
    dsimp only
    have hlv : vs.length < 2 := by simpa using few
    refine fin (List.range ks.length) (SortSt.mk' general' (vs.toArray.zip vs.toArray) #[] 7 none) (order_small lt ks d (by omega)) ?_ rfl (by simp; omega)
    show (vs.toArray.zip vs.toArray).map (·.2) = _
    rw [hl, range_get]
    apply Array.toList_inj.mp
    rw [Array.toList_map, Array.toList_zip, List.map_snd_zip (by simp)]
  · have hlv : 2 ≤ vs.length := by
      have : ¬ vs.length < 2 := by simpa using few
      omega
    rw [if_neg few, if_neg few]
    obtain ⟨kd, hkd, hask⟩ := hk hlv h3 keep
    refine wpAny_bind (hkd _ _ ?_)
    have run := kat_run (prog := prog) (w := w) (A := A) (E := E) (s := { s with heap := h3 }) (κ := kd) (ks := vs) (vs := vs)
      (Q := fun st' s' => s' = { s with heap := h3 } ∧ arrOf st' = (ev (fun i j => lt (ks.getD i d) (ks.getD j d)) (kas_sort ks.length)).map (kas_item (vs.toArray.zip vs.toArray)) ∧ failedOf st' = none)
      (G := fun p s' => s' = { s with heap := h3 } ∧ p = ev (fun i j => lt (ks.getD i d) (ks.getD j d)) (kas_sort ks.length)) rfl hlv h64
      (fun p st' s' _ har hf hG => ⟨hG.1, by rw [har, hG.2], hf⟩)
      (wp_bel (n := vs.length) (lt := fun i j => lt (ks.getD i d) (ks.getD j d)) (R := fun _ => True) (fun i j C hi hj hC => hask i j C hi hj hC) _ (bel_sort (by omega)) ⟨rfl, by rw [hl]⟩)
    refine wpAny_bind (wpAny_mono run ?_ fun _ _ e => e)
    rintro ⟨⟨⟩, st'⟩ s' ⟨rfl, har, hf⟩
    dsimp only at har hf ⊢
    have hO := order_ok lt tot tr ks d (by omega)
    refine fin _ st' hO ?_ hf ?_
    · rw [har]
      apply Array.toList_inj.mp
      rw [Array.map_map, Array.toList_map]
      refine List.map_congr_left fun i _ => ?_
      show (kas_item (vs.toArray.zip vs.toArray) i).2 = _
      rw [kat_item rfl]
    · have := hO.perm.length_eq
      rw [List.length_range] at this
      omega
end
end HS
namespace HD
open PySem
theorem entry_loop : entryFor table "dict.update.loop" = some Builtin.«dict.update.loop» := entryFor_of_tree (by kernel_rfl)
theorem plain_loop : plainId "dict.update.loop" = true := by decide +kernel
theorem no_keysL : typeLookup (.type "list") "keys" = pure none := by rw [typeLookup_type, builtinLookup_eq_fast]; kernel_rfl
section
variable {prog : Program} {w : World} {A : Around} {E : Value → Shared → Prop} {s : Shared}
end
end HD
namespace HD
open PySem
section
variable {prog : Program} {w : World} {A : Around} {E : Value → Shared → Prop} {s : Shared} {K : Type} [DecidableEq K] {knd : KeyKind prog w K}
structure St (knd : KeyKind prog w K) (h0 : Heap) (its : List Value) (kvs : List (K × Value)) (a d it : Addr) (i : Nat) (h : Heap) : Prop where
  tup : h.IsTuple a its.toArray
  iter : h.IsTupleIter it a i
  dict : h.DictOf knd d (merged [] (kvs.take i))
  keep : ∀ b o, b ≠ d → b ≠ it → h0.get? b = some o → h.get? b = some o
end
end HD
namespace HS
open PySem PySem.W PyProof.Rows
def ltS (a b : Str) : Bool := decide (a.cps.toList < b.cps.toList)
theorem ltS_irr (a : Str) : ltS a a = false := by unfold ltS; exact decide_eq_false (List.lt_irrefl _)
theorem ltS_tot (a b : Str) (h : ltS a b = true) : ltS b a = false := by
  unfold ltS at *
  exact decide_eq_false (List.lt_asymm (of_decide_eq_true h))
theorem ltS_tri {a b : Str} (h1 : ltS a b = false) (h2 : ltS b a = false) : a = b := by
  unfold ltS at *
  have e := List.le_antisymm (List.not_lt.mp (of_decide_eq_false h2)) (List.not_lt.mp (of_decide_eq_false h1))
  exact Str.ext' (Array.toList_inj.mp e)
theorem ltS_tr (a b c : Str) (h1 : ltS b a = false) (h2 : ltS c b = false) : ltS c a = false := by
  unfold ltS at *
  exact decide_eq_false (List.not_lt.mpr (List.le_trans (List.not_lt.mp (of_decide_eq_false h1)) (List.not_lt.mp (of_decide_eq_false h2))))
def ltT : List Str → List Str → Bool
  | _, [] => false
  | [], _ :: _ => true
  | a :: as, b :: bs => if a = b then ltT as bs else ltS a b
theorem ltT_tot : ∀ a b : List Str, ltT a b = true → ltT b a = false
  | _, [], h => by simp [ltT] at h
  | [], _ :: _, _ => rfl
  | a :: as, b :: bs, h => by
    unfold ltT at h ⊢
    by_cases e : a = b
    · subst e; rw [if_pos rfl] at h ⊢; exact ltT_tot as bs h
    · rw [if_neg e] at h; rw [if_neg (Ne.symm e)]; exact ltS_tot _ _ h
theorem ltT_tr : ∀ a b c : List Str, ltT b a = false → ltT c b = false → ltT c a = false
  | [], _, _, _, _ => by cases ‹List Str› <;> simp [ltT]
  | a :: as, [], c, h, _ => by simp [ltT] at h
  | a :: as, b :: bs, [], _, h => by simp [ltT] at h
  | a :: as, b :: bs, c :: cs, h1, h2 => by
    unfold ltT at h1 h2 ⊢
    by_cases e1 : b = a
    · subst e1
      rw [if_pos rfl] at h1
      by_cases e2 : c = b
      · subst e2; rw [if_pos rfl] at h2 ⊢; exact ltT_tr as bs cs h1 h2
      · rw [if_neg e2] at h2 ⊢; exact h2
    · rw [if_neg e1] at h1
      by_cases e2 : c = b
      · subst e2; rw [if_neg e1]; exact h1
      · rw [if_neg e2] at h2
        by_cases e3 : c = a
        · subst e3
          exact absurd (ltS_tri h1 h2).symm e2
        · rw [if_neg e3]; exact ltS_tr _ _ _ h1 h2
theorem ltT_tri : ∀ a b : List Str, ltT a b = false → ltT b a = false → a = b
  | [], [], _, _ => rfl
  | [], _ :: _, h, _ => by simp [ltT] at h
  | _ :: _, [], _, h => by simp [ltT] at h
  | a :: as, b :: bs, h1, h2 => by
    unfold ltT at h1 h2
    by_cases e : a = b
    · subst e; rw [if_pos rfl] at h1 h2; rw [ltT_tri as bs h1 h2]
    · rw [if_neg e] at h1; rw [if_neg (Ne.symm e)] at h2; exact absurd (ltS_tri h1 h2) e
section
variable {prog : Program} {w : World} {A : Around} {E : Value → Shared → Prop} {s : Shared} {κ : Type}
theorem sorted_call {lt : κ → κ → Bool} (tot : ∀ a b, lt a b = true → lt b a = false) (tr : ∀ a b c, lt b a = false → lt c b = false → lt c a = false) {ks : List κ} {d : κ} {v : Value} {Q : Value → Shared → Prop} (T : List Value → Prop) (hl : ∀ vs, T vs → ks.length = vs.length) (h64 : ks.length < 64)
    (hcol : ∀ Q' : List Value → Shared → Prop, (∀ vs h1 tk, T vs → (∀ b o, s.heap.get? b = some o → h1.get? b = some o) → Q' vs { s with heap := h1, toks := tk }) → wpAny (model prog w) A.in1 (collect v) Q' E s)
    (hk : ∀ vs, T vs → 2 ≤ vs.length → ∀ h3 tk, (∀ b o, s.heap.get? b = some o → h3.get? b = some o) → Asks prog w A.in1.in1 lt ks d vs { s with heap := h3, toks := tk })
    (h : ∀ (vs : List Value) (p : List Nat) (e : Nat) (h1 h' : Heap) (tk : Nat), T vs → Order lt ks d p → (∀ b o, s.heap.get? b = some o → h1.get? b = some o) → (∀ b o, h1.get? b = some o → h'.get? b = some o) → h'.get? h1.objs.size = some (seqObj "list" (p.map fun i => vs.getD i Value.none).toArray e) → Q (.ref h1.objs.size) { s with heap := h', toks := tk }) :
    wpAny (model prog w) A (call (.builtin "sorted") [v]) Q E s := by
  refine Calls.call_function_entry kind_sorted plain_sorted entry_sorted (args_sorted1 _) ?_
  unfold Builtin.«sorted»
  refine wpAny_bind (m := checkCount "sorted" 1 1 _) (wpAny_pure ?_)
  refine wpAny_bind (hcol _ fun vs h1 tk hT k1 => ?_)
  have hlv := hl vs hT
  refine wpAny_bind (wpAny_newList ?_ (by rw [sizeLine_eq]; omega))
  have hoL : (h1.push (seqObj "list" vs.toArray 0)).get? h1.objs.size = some (seqObj "list" vs.toArray 0) := Heap.get?_push_size _ rfl
  have keep : ∀ b o, h1.get? b = some o → b ≠ h1.objs.size := fun b o e => Nat.ne_of_lt (Heap.lt_size e)
  show wpAny _ _ _ _ _ { s with heap := h1.push (seqObj "list" vs.toArray 0), toks := tk }
  refine wpAny_bind (wpAny_holding (wpAny_call_entry slot_list_sort ⟨_, hoL, rfl⟩ entry_list_sort (list_sort (s := { s with heap := h1.push (seqObj "list" vs.toArray 0), toks := tk }) tot tr hlv hoL (by omega) (fun h2 h3 k3 => hk vs hT h2 h3 tk fun b o e => k3 b o (keep b o (k1 b o e)) (Heap.get?_push_of_some _ (k1 b o e)))
    fun p e h' hO k3 hD => ⟨_, rfl, ?_⟩) (args_list_sort _)))
  exact wpAny_pure ⟨_, rfl, h vs p e h1 h' tk hT hO k1 (fun b o e' => k3 b o (keep b o e') (Heap.get?_push_of_some _ e')) hD⟩
def TupStr (h : Heap) (v : Value) (ts : List Str) : Prop := ∃ a o vs n, v = Value.ref a ∧ h.get? a = some o ∧ o.cls = .type "tuple" ∧ o.data = .seq vs n ∧ StrsAre vs.toList ts
theorem lex_strs {fin : Bool} {C : Bool → Shared → Prop} : ∀ {vs ws : List Value} {ts us : List Str}, StrsAre vs ts → StrsAre ws us → ∀ (i : Nat), (fin = decide (ts.length < us.length)) → C (ltT ts us) s → KatLex prog w A true fin C (vs.zip ws) i s := by
  intro vs ws ts us h1
  induction h1 generalizing ws us with
  | nil =>
    intro h2 i hf hC
    cases h2 with
    | nil => rw [List.zip_nil_left]; refine kat_nil ?_; rw [hf]; exact hC
    | cons y t h2 => rw [List.zip_nil_left]; refine kat_nil ?_; rw [hf]; simpa [ltT] using hC
  | cons x t h1 ih =>
    intro h2 i hf hC
    cases h2 with
    | nil => rw [List.zip_nil_right]; refine kat_nil ?_; rw [hf]; simpa [ltT] using hC
    | cons y u h2 =>
      rw [List.zip_cons_cons]
      refine kat_cons (wpAny_eqBool_str ?_)
      by_cases e : x = y
      · subst e
        rw [decide_eq_true rfl]
        refine kat_yes (ih h2 (i + 1) (by rw [hf]; simp) ?_)
        unfold ltT at hC
        rw [if_pos rfl] at hC
        exact hC
      · rw [decide_eq_false e]
        have hC' : C (ltS x y) s := by
          unfold ltT at hC
          rw [if_neg e] at hC
          exact hC
        refine kat_no ?_
        cases i with
        | zero => exact oneLt_str hC'
        | succ i => exact kat_one _ _ (lt_str hC')
theorem strs_len {vs : List Value} {ts : List Str} (h : StrsAre vs ts) : vs.length = ts.length := by
  induction h with
  | nil => rfl
  | cons _ _ _ ih => rw [List.length_cons, List.length_cons, ih]
inductive TupsAre (h : Heap) : List Value → List (List Str) → Prop where
  | nil : TupsAre h [] []
  | cons {v : Value} {ts : List Str} {vs : List Value} {tss : List (List Str)} : TupStr h v ts → ts ≠ [] → TupsAre h vs tss → TupsAre h (v :: vs) (ts :: tss)
theorem TupsAre.keep {h h' : Heap} (k : ∀ b o, h.get? b = some o → h'.get? b = some o) {vs : List Value} {tss : List (List Str)} (x : TupsAre h vs tss) : TupsAre h' vs tss := by
  induction x with
  | nil => exact .nil
  | cons t ne _ ih =>
    obtain ⟨a, o, xs, n, e, ho, r⟩ := t
    exact .cons ⟨a, o, xs, n, e, k a o ho, r⟩ ne ih
theorem TupsAre.len {h : Heap} {vs : List Value} {tss : List (List Str)} (x : TupsAre h vs tss) : vs.length = tss.length := by
  induction x with
  | nil => rfl
  | cons _ _ _ ih => rw [List.length_cons, List.length_cons, ih]
theorem TupsAre.at {h : Heap} {vs : List Value} {tss : List (List Str)} (x : TupsAre h vs tss) : ∀ i, i < vs.length → TupStr h (vs.getD i Value.none) (tss.getD i []) := by
  induction x with
  | nil => intro i hi; simp at hi
  | cons t _ _ ih =>
    intro i hi
    cases i with
    | zero => exact t
    | succ i => exact ih i (by simpa using hi)
theorem TupsAre.kat {h : Heap} {vs : List Value} {tss : List (List Str)} (x : TupsAre h vs tss) : ∃ fs : List Value, KatTups h vs fs ∧ fs.length = vs.length ∧ ∀ f ∈ fs, ∃ y t, f = Value.str y t := by
  induction x with
  | nil => exact ⟨[], KatTups.nil, rfl, by simp⟩
  | cons t ne _ ih =>
    obtain ⟨fs, k, hl, hf⟩ := ih
    obtain ⟨a, o, xs, n, rfl, ho, hc, hd, hs⟩ := t
    obtain ⟨xl⟩ := xs
    cases hs with
    | nil => exact absurd rfl ne
    | cons y tk _ =>
      refine ⟨_ :: fs, KatTups.cons ho hc hd rfl k, by rw [List.length_cons, List.length_cons, hl], fun f hf' => ?_⟩
      rcases List.mem_cons.mp hf' with rfl | hf'
      · exact ⟨y, tk, rfl⟩
      · exact hf f hf'
theorem asks_tups {tss : List (List Str)} {vs : List Value} (hT : TupsAre s.heap vs tss) (h2 : 2 ≤ vs.length) : Asks prog w A ltT tss [] vs s := by
  refine ⟨tuples' true, fun Q E hq => ?_, fun i j C hi hj hC => ?_⟩
  · obtain ⟨fs, k, hl, hf⟩ := hT.kat
    refine kat_kind (T := Value.type "str") k (by omega) (fun f hm => ?_) rfl ?_
    · obtain ⟨y, t, rfl⟩ := hf f hm
      exact Looks.now
    · have e : (Value.type "str" != Value.type "tuple") = true := by decide
      rw [e]
      exact hq
  · obtain ⟨a, o, xs, n, e1, ho, hc, hd, hs⟩ := hT.at i hi
    obtain ⟨b, o', ys, n', e2, ho', hc', hd', hs'⟩ := hT.at j hj
    rw [e1, e2]
    refine kat_lt ho hd ho' hd' (lex_strs hs hs' 0 ?_ hC)
    have l1 := strs_len hs
    have l2 := strs_len hs'
    rw [Array.length_toList] at l1 l2
    rw [l1, l2]
end
end HS
namespace L2
open PySem PySem.Spec PyProof.Rows
theorem perm_get {α : Type} (l : List α) (d : α) {p : List Nat} (hp : p.Perm (List.range l.length)) : (p.map fun i => l.getD i d).Perm l := by
  have e : (List.range l.length).map (fun i => l.getD i d) = l := by
    apply List.ext_getElem?
    intro i
    rw [List.getElem?_map]
    by_cases hi : i < l.length
    · rw [List.getElem?_range hi, List.getElem?_eq_getElem hi]
      simp [hi]
    · rw [List.getElem?_eq_none (by simpa using hi), List.getElem?_eq_none (by omega)]
      rfl
  have := hp.map (fun i => l.getD i d)
  rw [e] at this
  exact this
theorem Vals.pick {xs : List V} {us : List Value} (r : Vals xs us) : ∀ {p : List Nat}, (∀ i ∈ p, i < xs.length) → Vals (p.map fun i => xs.getD i .non) (p.map fun i => us.getD i Value.none)
  | [], _ => .nil
  | i :: p, h => by
    refine .cons ?_ (r.pick fun j hj => h j (List.mem_cons_of_mem _ hj))
    have hi := h i (List.mem_cons_self ..)
    obtain ⟨u, e, ru⟩ := r.get (List.getElem?_eq_getElem hi)
    have e1 : xs.getD i .non = xs[i] := by simp [hi]
    have e2 : us.getD i Value.none = u := by rw [List.getD_eq_getElem?_getD, e]; rfl
    show RelV (xs.getD i .non) (us.getD i Value.none)
    rw [e1, e2]
    exact ru
section
variable {X : Cx}
theorem collect_seq {pins : List (Addr × Obj)} {σ : St} {H : Hp} {s : Shared} {a : Addr} {xs : List V} {A : Around} {E : Value → Shared → Prop} (I : Inv X pins σ H s) (hq : SqL X.K H a xs ∨ SqT X.K H a xs) :
    ∃ its : List Value, Vals xs its ∧ ∀ Q' : List Value → Shared → Prop, (∀ h1 tk, (∀ b o, s.heap.get? b = some o → h1.get? b = some o) → Q' its { s with heap := h1, toks := tk }) → wpAny (model X.prog X.w) A (collect (.ref a)) Q' E s := by
  rcases hq with hq | hq
  · obtain ⟨its, r, pl, hz⟩ := I.list hq
    have hlen := r.length
    obtain ⟨o, ho, hc, n, hd⟩ := pl.isList
    exact ⟨its, r, fun Q' h => wpAny_collect_seq a (.inl rfl) ho hc hd (fun h' k => by simpa using h h' s.toks k) (by rw [List.size_toArray]; omega)⟩
  · obtain ⟨its, r, pl, hz⟩ := I.tuple hq
    have hlen := r.length
    obtain ⟨o, ho, hc, n, hd⟩ := pl
    exact ⟨its, r, fun Q' h => wpAny_collect_seq a (.inr rfl) ho hc hd (fun h' k => by simpa using h h' s.toks k) (by rw [List.size_toArray]; omega)⟩
theorem sorted_end {pins : List (Addr × Obj)} {σ : St} {H : Hp} {s : Shared} {xs : List V} {its : List Value} {p : List Nat} {e : Nat} {h1 h' : Heap} {tk : Nat} {Q : VK} (I : Inv X pins σ H s) (r : Vals xs its) (hz : xs.length < 64) (hp : p.Perm (List.range xs.length))
    (k1 : ∀ b o, s.heap.get? b = some o → h1.get? b = some o) (k2 : ∀ b o, h1.get? b = some o → h'.get? b = some o) (hD : h'.get? h1.objs.size = some (seqObj "list" (p.map fun i => its.getD i Value.none).toArray e))
    (q : ∀ l, H l = none → Q (.ref l) (upd H l (.lst (p.map fun i => xs.getD i .non)))) : EP X pins σ Q (.ref h1.objs.size) { s with heap := h', toks := tk } := by
  have I1 : Inv X pins σ H { s with heap := h1, toks := tk } := I.kept (h' := h1) (t' := tk) k1
  have hpl : ∀ i ∈ p, i < xs.length := fun i hi => List.mem_range.mp (hp.mem_iff.mp hi)
  have hlen : p.length = xs.length := by rw [hp.length_eq, List.length_range]
  have I2 : Inv X pins σ (upd H h1.objs.size (.lst (p.map fun i => xs.getD i .non))) { s with heap := h', toks := tk } :=
    I1.laid (h' := h') (t' := tk) (o := .lst (p.map fun i => xs.getD i .non)) k2 (Nat.le_refl _) ⟨by rw [List.length_map, hlen, sizeLine_eq]; omega, _, e, r.pick hpl, hD⟩
  exact ⟨.ref h1.objs.size, _, I2, rfl, q _ I1.fresh⟩
theorem tups_of {pins : List (Addr × Obj)} {σ : St} {H : Hp} {s : Shared} (I : Inv X pins σ H s) : ∀ {rs : List (Addr × List Str)} {its : List Value}, Vals (rs.map fun r => V.ref r.1) its → (∀ r ∈ rs, SqT X.K H r.1 (r.2.map V.str) ∧ r.2 ≠ []) → HS.TupsAre s.heap its (rs.map (·.2))
  | [], _, .nil, _ => .nil
  | (b, ts) :: rs, _, .cons e r, h => by
    cases e
    obtain ⟨hq, ne⟩ := h (b, ts) (List.mem_cons_self ..)
    obtain ⟨its2, r2, p2, _⟩ := I.tuple hq
    obtain ⟨o, ho, hc, n, hd⟩ := p2
    exact .cons ⟨b, o, _, n, rfl, ho, hc, hd, by simpa using strsAre_vals r2⟩ ne (tups_of I r fun r hr => h r (List.mem_cons_of_mem _ hr))
theorem call_sortT : CallR X (.builtin "sorted") (fun xs H Q => ∃ a, ∃ rs : List (Addr × List Str), xs = [.ref a] ∧ (SqL X.K H a (rs.map fun r => V.ref r.1) ∨ SqT X.K H a (rs.map fun r => V.ref r.1)) ∧ rs.length < 64 ∧ (∀ r ∈ rs, SqT X.K H r.1 (r.2.map V.str) ∧ r.2 ≠ []) ∧
    ∀ l (rs' : List (Addr × List Str)), H l = none → rs'.Perm rs → rs'.Pairwise (fun a b => HS.ltT b.2 a.2 = false) → Q (.ref l) (upd H l (.lst (rs'.map fun r => V.ref r.1)))) := by
  intro pins s σ H xs us Q I r h
  obtain ⟨a, rs, rfl, hq, hz, hr, q⟩ := h
  obtain ⟨u, rfl, ru⟩ := vals1 r
  cases ru
  obtain ⟨its, ri, hcol⟩ := collect_seq (A := X.A.in1) (E := X.xe) I hq
  have hl := ri.length
  rw [List.length_map] at hl
  have hT := tups_of I ri hr
  refine HS.sorted_call (lt := HS.ltT) HS.ltT_tot HS.ltT_tr (ks := rs.map (·.2)) (d := []) (fun v => v = its) (fun v e => by rw [e, List.length_map]; exact hl) (by rw [List.length_map]; exact hz) (fun Q' h => hcol Q' fun h1 tk k => h its h1 tk rfl k) (fun v e h2 h3 tk k3 => by subst e; exact HS.asks_tups (s := { s with heap := h3, toks := tk }) (hT.keep k3) h2) fun v p e h1 h' tk ev hO k1 k2 hD => ?_
  subst ev
  have hpm : p.Perm (List.range rs.length) := by have := hO.perm; rw [List.length_map] at this; exact this
  refine sorted_end I ri (by rw [List.length_map]; exact hz) (by rw [List.length_map]; exact hpm) k1 k2 hD fun l nl => ?_
  have ep : (p.map fun i => (rs.map fun r => V.ref r.1).getD i .non) = (p.map fun i => rs.getD i (0, [])).map fun r => V.ref r.1 := by
    rw [List.map_map]
    refine List.map_congr_left fun i hi => ?_
    have hi' : i < rs.length := List.mem_range.mp (hpm.mem_iff.mp hi)
    simp [hi']
  rw [ep]
  refine q l _ nl (perm_get rs (0, []) hpm) (List.pairwise_map.mpr (hO.rise.imp_of_mem fun {i j} hi hj z => ?_))
  have hi' : i < rs.length := List.mem_range.mp (hpm.mem_iff.mp hi)
  have hj' : j < rs.length := List.mem_range.mp (hpm.mem_iff.mp hj)
  simpa [hi', hj'] using z
theorem op_catH : OpR X (binaryOp .Add) (fun x y H Q => ∃ a b xs ys, x = .ref a ∧ y = .ref b ∧ H a = some (.tup xs) ∧ H b = some (.tup ys) ∧ xs.length + ys.length ≤ sizeLine ∧ ∀ p H', Same H H' → H' p = some (.tup (xs ++ ys)) → Q (.ref p) H') := by
  intro pins s σ H x y v u Q I rx ry h
  obtain ⟨a, b, xs, ys, rfl, rfl, ha, hb, hz, q⟩ := h
  by_cases hx : xs = []
  · subst hx
    cases rx
    cases ry
    obtain ⟨its, r1, p1, _⟩ := I.tuple (SqT.of ha)
    obtain ⟨its2, r2, p2, _⟩ := I.tuple (SqT.of hb)
    have e1 : its = [] := r1.nil_iff.mpr rfl
    subst e1
    obtain ⟨m, F⟩ := I.fr
    exact add_tuples F (news := []) (fun p hp => absurd hp (by simp)) p1 p2 (fun _ => ⟨.ref b, H, I, rfl, q b H (Same.refl H) hb⟩) (fun z => absurd rfl z) (fun z => absurd rfl z) (by simp at hz ⊢; rw [← r2.length]; exact hz)
  · refine op_catT pins s σ H (.ref a) (.ref b) v u Q I rx ry ⟨a, b, xs, ys, rfl, rfl, SqT.of ha, SqT.of hb, hx, hz, fun e => ?_, fun _ p hp => q p _ (Same.new hp _) upd_same⟩
    subst e
    exact q a H (Same.refl H) (by rw [List.append_nil]; exact ha)
end
end L2
namespace L2
open PySem PySem.Spec PyProof.Rows
def TS' (H H' : Hp) : Prop := ∀ b xs, H b = some (.tup xs) → H' b = some (.tup xs)
theorem _root_.L2.Same.ts {H H' : Hp} (s : Same H H') : TS' H H' := fun b xs h => s b _ h
theorem TS'.trans {H H1 H2 : Hp} (a : TS' H H1) (b : TS' H1 H2) : TS' H H2 := fun c xs h => b c xs (a c xs h)
theorem TS'.lst {H : Hp} {D : Addr} {ys : List V} {o : HO} (h : H D = some (.lst ys)) : TS' H (upd H D o) := fun b xs hb => by
  have : b ≠ D := fun e => by rw [e, h] at hb; cases hb
  rw [upd_ne this]
  exact hb
theorem compF_rel {J : It} {xs : List V} {te : TE} {fr : St} {H1 : Hp} {QD : Hp → Prop} (Rl : V → V → Hp → Prop) (mono : ∀ x v H H', TS' H H' → Rl x v H → Rl x v H') (D : Addr) (hD : H1 D = none) (T : Tells J H1 xs) (hz : xs.length < sizeLine)
    (he : ∀ x H R, x ∈ xs → Same H1 H → (∀ v H', Same H H' → Rl x v H' → R v H') → te (some x :: fr) H R)
    (hd : ∀ H' ys, Same H1 H' → H' D = some (.lst ys) → Paired (fun x v => Rl x v H') xs ys → QD H') :
    ∃ W : Nat → Nat → List V → Hp → Prop, (∃ m, W 0 m [] (upd H1 D (.lst []))) ∧ ∀ i m ys H2, W i m ys H2 → H2 D = some (.lst ys) ∧
      ((J.stop i H2 ∧ QD H2) ∨ (J.go i H2 ∧ ∀ x H3, J.yld i H2 x H3 → ∀ pre : St, pre.length = 1 → gName 0 x (pre ++ fr) H3 fun σ4 H4 => (∃ pre' : St, pre'.length = 1 ∧ σ4 = pre' ++ fr) ∧
        tTrue σ4 H4 fun b H5 => if b = true then te σ4 H5 (fun y H6 => H6 D = some (.lst ys) ∧ ys.length < sizeLine ∧ ∃ m', m' < m ∧ W (i + 1) m' (ys ++ [y]) (upd H6 D (.lst (ys ++ [y])))) else ∃ m', m' < m ∧ W (i + 1) m' ys H5)) := by
  refine ⟨fun i m ys H2 => m = xs.length - i ∧ i ≤ xs.length ∧ ys.length = i ∧ Paired (fun x v => Rl x v H2) (xs.take i) ys ∧ H2 D = some (.lst ys) ∧ Same H1 H2, ⟨xs.length, by simp, Nat.zero_le _, rfl, by rw [List.take_zero]; exact .nil, upd_same, Same.new hD _⟩, ?_⟩
  rintro i m ys H2 ⟨rfl, hi, hl, hp, hD2, sm⟩
  refine ⟨hD2, ?_⟩
  by_cases hlt : i < xs.length
  · refine .inr ⟨T.go H2 i sm hlt, fun x H3 y pre hpre => ?_⟩
    obtain ⟨rfl, hx⟩ := T.yld H2 i x H3 sm y
    obtain ⟨v0, rfl⟩ : ∃ v0, pre = [v0] := by
      cases pre with
      | nil => simp at hpre
      | cons v r => cases r with
        | nil => exact ⟨v, rfl⟩
        | cons _ _ => simp at hpre
    have hm := List.mem_of_getElem? hx
    refine ⟨⟨[some x], rfl, rfl⟩, ?_⟩
    unfold tTrue
    dsimp only
    refine iteT ?_
    refine he x H3 _ hm sm fun v H6 s6 hr => ?_
    have t6 : TS' H6 (upd H6 D (.lst (ys ++ [v]))) := TS'.lst (s6 _ _ hD2)
    refine ⟨s6 _ _ hD2, by omega, xs.length - (i + 1), by omega, rfl, hlt, by simp [hl], ?_, upd_same, ?_⟩
    · rw [List.take_add_one, hx]
      exact (hp.mono fun a b h => mono _ _ _ _ (s6.ts.trans t6) h).snoc (mono _ _ _ _ t6 hr)
    · intro b o e
      have hb : b ≠ D := ne_of_none e hD
      rw [upd_ne hb]
      exact s6 _ _ (sm _ _ e)
  · have e : i = xs.length := by omega
    subst e
    rw [List.take_length] at hp
    exact .inl ⟨T.stop H2 sm, hd H2 ys sm hD2 hp⟩
section
variable {X : Cx} {a : Expr} {ta : TE}
end
end L2
namespace L2
open PySem PySem.Spec PyProof.Rows
theorem KV.at : ∀ {kvs : List (Key × V)} {vs : List (Key × Value)} {i : Nat}, KV kvs vs → i < kvs.length → ∃ k x v, kvs[i]? = some (k, x) ∧ vs[i]? = some (k, v)
  | _ :: _, _ :: _, 0, .cons h r, _ => ⟨_, _, _, rfl, by rw [List.getElem?_cons_zero, h.1]⟩
  | _ :: _, _ :: _, i + 1, .cons h r, hl => by
    obtain ⟨k, x, v, h1, h2⟩ := KV.at (i := i) r (by simpa using hl)
    exact ⟨k, x, v, by simpa using h1, by simpa using h2⟩
section
variable {X : Cx} {tg : Expr}
theorem op_neA (hu : X.A.units + 8 < cLine) : OpR X (compareOp .NotEq) (fun x y H Q => ∃ a b ds xs ys, x = .ref a ∧ y = .ref b ∧ ((SqT X.K H a xs ∧ SqT X.K H b ys) ∨ (SqL X.K H a xs ∧ SqL X.K H b ys)) ∧ AreDat X.K H ds xs ∧ AreDat X.K H ds ys ∧ Dat.deeps ds ≤ 3 ∧ Q (.bl false) H) := by
  intro pins s σ H x y v u Q I rx ry h
  obtain ⟨a, b, ds, xs, ys, rfl, rfl, hq, h1, h2, hdp, q⟩ := h
  cases rx
  cases ry
  have l1 := h1.length
  have l2 := h2.length
  have el : ∀ {its its2 : List Value}, Vals xs its → Vals ys its2 → ∀ j (j1 : j < its.toArray.size) (j2 : j < its2.toArray.size), SeqAt.EqAt X.A.in1 s its.toArray[j] its2.toArray[j] true := fun {its its2} r1 r2 j j1 j2 => by
    obtain ⟨x', d1, rx', m1⟩ := dat_at (A := X.A) h1 r1 j1
    obtain ⟨y', d2, ry', _⟩ := dat_at (A := X.A) h2 r2 j2
    have h3 := deep_at m1
    have := dat_eqAt I 3 X.A.in1 (by omega) (by show X.A.units + 1 + 3 < cLine; omega) d1 d2 rx' ry'
    rw [beq_refl] at this
    exact this
  have allT : ∀ n : Nat, (List.range n).all (fun _ => true) = true := fun n => by simp
  rcases hq with ⟨q1, q2⟩ | ⟨q1, q2⟩
  · obtain ⟨its, r1, p1, _⟩ := I.tuple q1
    obtain ⟨its2, r2, p2, _⟩ := I.tuple q2
    have s1 : its.toArray.size = ds.length := by rw [List.size_toArray, ← r1.length, l1]
    have s2 : its2.toArray.size = ds.length := by rw [List.size_toArray, ← r2.length, l2]
    refine SeqAt.RcNeAt.tuples (e := fun _ => true) p1 p2 (by omega) (el r1 r2) _ _ _ _ ?_
    rw [allT, s1, s2]
    exact ⟨.bl false, H, I, (by simp; rfl), q⟩
  · obtain ⟨its, r1, p1, _⟩ := I.list q1
    obtain ⟨its2, r2, p2, _⟩ := I.list q2
    have s1 : its.toArray.size = ds.length := by rw [List.size_toArray, ← r1.length, l1]
    have s2 : its2.toArray.size = ds.length := by rw [List.size_toArray, ← r2.length, l2]
    refine SeqAt.RcNeAt.lists (e := fun _ => true) p1.isList p2.isList (s1.trans s2.symm) (by omega) (el r1 r2) _ _ _ _ ?_
    rw [allT]
    exact ⟨.bl false, H, I, (by simp; rfl), q⟩
end
end L2
namespace RD
open PySem PySem.Spec PyProof.Rows
section
variable {prog : Program} {w : World} {A : Around} {E : Value → Shared → Prop} {s : Shared}
theorem iter {d : Addr} {o : Obj} {es : Array DictEntry} {ep : Nat} {Q : Value → Shared → Prop} (lo : (d == sysModules) = false) (ho : s.heap.get? d = some o) (hx : o.ExactDict) (hdat : o.data = .dict es ep)
    (hQ : Q (.ref s.heap.objs.size) { s with heap := s.heap.push { cls := .type "dict_keyiterator", data := .fields #[.ref d, .int 0 0, .int es.size 0, .int ep 0] } }) : wpAny (model prog w) A (pyIter (.ref d)) Q E s := by
  have tyD : s.TypeIs (.ref d) "dict" := ⟨o, ho, hx.1⟩
  refine wpAny_pyIter_slot tyD F.slot_dict_iter (wpAny_call_entry F.slot_dict_iter tyD F.entry_dict_iter ?_ (F.args_dict_iter_1 _)); unfold Builtin.«dict.__iter__»; refine wpAny_bind ?_
  unfold Builtin.Dict.dictSlotNone; refine wpAny_bind (wpAny_notOrdered_dict tyD ?_); show wpAny _ _ (pure (Value.ref d)) _ _ s; refine wpAny_pure ?_
  show wpAny _ _ (Builtin.Dict.showsAll d >>= _) _ _ s; unfold Builtin.Dict.showsAll; rw [if_neg (by rw [lo]; exact Bool.false_ne_true)]
  refine wpAny_bind (wpAny_pure (wpAny_bind (wpAny_dictEntries ho hdat (wpAny_bind (wpAny_dictEpoch ho hdat ?_)))))
  refine wpAny_bind (wpAny_newObj_type (wpAny_pure ⟨_, rfl, "dict_keyiterator", _, ⟨_, Heap.get?_push_size _ rfl, rfl⟩, F.slot_dict_keyiterator_next.lookup, ?_⟩)); simpa [rawInt] using hQ
theorem item {it d : Addr} {i ep : Nat} {od : Obj} {es : Array DictEntry} {e : DictEntry} {Q : Option Value → Shared → Prop} (hit : s.heap.IsKeyIter it d i es.size ep) (hod : s.heap.get? d = some od) (hdd : od.data = .dict es ep) (hx : es[i]? = some e)
    (hQ : ∀ h', h'.IsKeyIter it d (i + 1) es.size ep → Heap.SameBut it s.heap h' → Q (some e.key) { s with heap := h' }) : wpAny (model prog w) A (pyNext (.ref it)) Q E s := by
  obtain ⟨o, ho, hc, hd⟩ := id hit
  unfold pyNext; refine wpAny_bind (wpAny_attempt (wpAny_callSpecial?_slot (name := Str.ofString "__next__") hit.typeIs F.slot_dict_keyiterator_next (wpAny_call_entry F.slot_dict_keyiterator_next hit.typeIs F.entry_dict_keyiterator_next ?_ (F.args_dict_keyiterator_next_1 _))))
  refine wpAny_bind (wpAny_pure (wpAny_bind (wpAny_bind ?_))); first | refine wpAny_bind (wpAny_typeNameOfWhole_keyiter hit.typeIs (wpAny_pure ?_)) | refine wpAny_bind (wpAny_typeNameOf_keyiter hit.typeIs (wpAny_pure ?_))
  refine wpAny_bind (wpAny_fieldsOf ho hd ?_); have own0 : Builtin.Dict_items.ownsTuple "dict_keyiterator" = false := by decide
  simp only [own0, Bool.false_eq_true, if_false]; show wpAny _ _ (if (Value.ref d == Value.none) = true then _ else _) _ _ s; rw [if_neg (show ¬ ((Value.ref d == Value.none) = true) from Bool.false_ne_true)]
  refine wpAny_bind (wpAny_pure (wpAny_bind (wpAny_dictEntries hod hdd ?_))); rw [if_neg (by simp)]
  refine wpAny_bind (wpAny_pure (wpAny_bind (wpAny_dictEpoch hod hdd ?_))); rw [if_neg (by simp)]; refine wpAny_pure ?_
  have lt : i < es.size := (Array.getElem?_eq_some_iff.mp hx).1
  have ee : es[i] = e := (Array.getElem?_eq_some_iff.mp hx).2
  simp only [show ¬ ((i : Int) < 0) from by omega, if_false, Int.toNat_natCast, hx]
  refine wpAny_bind ?_; first | refine wpAny_bind (wpAny_typeNameOfWhole_keyiter hit.typeIs (wpAny_pure ?_)) | refine wpAny_bind (wpAny_typeNameOf_keyiter hit.typeIs (wpAny_pure ?_))
  refine wpAny_bind (wpAny_isOneOf_keyiter hit.typeIs ?_); show wpAny _ _ (setField (.ref it) 1 (rawInt ((i : Int) + 1)) >>= _) _ _ s; refine wpAny_bind (wpAny_setField ho hd (by simp) ?_)
  have next : (s.heap.update it (Obj.mapFields (·.setIfInBounds 1 (rawInt ((i : Int) + 1))))).IsKeyIter it d (i + 1) es.size ep := ⟨_, Heap.get?_update_self _ ho (Obj.isFreed_of_fields (Obj.data_mapFields hd _)), (Obj.cls_mapFields ..).trans hc, by rw [Obj.data_mapFields hd]; simp [rawInt]⟩
  refine wpAny_bind (wpAny_holding (wpAny_bind (wpAny_isOneOf_keyiter (s := { s with heap := s.heap.update it (Obj.mapFields (·.setIfInBounds 1 (rawInt ((i : Int) + 1)))) }) next.typeIs ?_)))
  show wpAny _ _ (pure e.key) _ _ _; exact wpAny_pure (wpAny_pure ⟨_, rfl, wpAny_pure (hQ _ next (Heap.SameBut.update ..))⟩)
theorem done {it d : Addr} {i ep : Nat} {od : Obj} {es : Array DictEntry} {Q : Option Value → Shared → Prop} (hh : A.handled = none) (hit : s.heap.IsKeyIter it d i es.size ep) (hod : s.heap.get? d = some od) (hdd : od.data = .dict es ep) (hx : es.size ≤ i)
    (hQ : ∀ h', Heap.ExtBut it s.heap h' → Q none { s with heap := h' }) : wpAny (model prog w) A (pyNext (.ref it)) Q E s := by
  obtain ⟨o, ho, hc, hd⟩ := id hit
  unfold pyNext; refine wpAny_bind (wpAny_attempt (wpAny_callSpecial?_slot (name := Str.ofString "__next__") hit.typeIs F.slot_dict_keyiterator_next (wpAny_call_entry F.slot_dict_keyiterator_next hit.typeIs F.entry_dict_keyiterator_next ?_ (F.args_dict_keyiterator_next_1 _))))
  refine wpAny_bind (wpAny_pure (wpAny_bind (wpAny_bind ?_))); first | refine wpAny_bind (wpAny_typeNameOfWhole_keyiter hit.typeIs (wpAny_pure ?_)) | refine wpAny_bind (wpAny_typeNameOf_keyiter hit.typeIs (wpAny_pure ?_))
  refine wpAny_bind (wpAny_fieldsOf ho hd ?_); have own0 : Builtin.Dict_items.ownsTuple "dict_keyiterator" = false := by decide
  simp only [own0, Bool.false_eq_true, if_false]; show wpAny _ _ (if (Value.ref d == Value.none) = true then _ else _) _ _ s; rw [if_neg (show ¬ ((Value.ref d == Value.none) = true) from Bool.false_ne_true)]
  refine wpAny_bind (wpAny_pure (wpAny_bind (wpAny_dictEntries hod hdd ?_))); rw [if_neg (by simp)]
  refine wpAny_bind (wpAny_pure (wpAny_bind (wpAny_dictEpoch hod hdd ?_))); rw [if_neg (by simp)]; refine wpAny_pure ?_
  simp only [show ¬ ((i : Int) < 0) from by omega, if_false, Int.toNat_natCast, Array.getElem?_eq_none hx]
  refine wpAny_bind ?_; first | refine wpAny_bind (wpAny_typeNameOfWhole_keyiter hit.typeIs (wpAny_pure ?_)) | refine wpAny_bind (wpAny_typeNameOf_keyiter hit.typeIs (wpAny_pure ?_))
  show wpAny _ _ (setField (.ref it) 0 .none >>= _) _ _ s; refine wpAny_bind (wpAny_setField ho hd (by simp) ?_)
  show wpAny _ _ (newExc (.type "StopIteration") [] >>= _) _ _ _; refine wpAny_bind ?_; simp only [newExc, newTuple]; refine wpAny_bind (wpAny_newObj_type ?_ (by size_fits))
  refine wpAny_bind (m := firstArgMember _ _) (wpAny_of_eq (a := Value.none) (by first | rfl | (simp only [firstArgMember]; rfl)) (wpAny_newObj_type ?_ (by size_fits))); simp only [raiseNew]
  refine wpAny_bind (wpAny_handled ?_); rw [show A.in1.handled = none from hh]; refine wpAny_bind (wpAny_pure (wpAny_throw ?_))
  refine wpAny_bind (wpAny_isInstance (T := "StopIteration") (b := true) ⟨_, Heap.get?_push_size _ rfl, rfl⟩ isSubtype_stop ?_); exact wpAny_pure (hQ _ (((Heap.SameBut.update ..).extBut.push _).push _))
theorem walks {d : Addr} {od : Obj} {es : Array DictEntry} {ep : Nat} (hh : A.handled = none) (I : Addr) (hne : d ≠ I) (hdd : od.data = .dict es ep) :
    Walks prog w A I [I, d] [I] es.size (fun i v => ∃ e, es[i]? = some e ∧ v = e.key) (fun i h => h.IsKeyIter I d i es.size ep ∧ h.get? d = some od) where
  sub := fun b hb => by simp at hb; simp [hb]
  frame := fun _ _ _ st hk => ⟨st.1.at fun o e => hk I (by simp) o e, hk d (by simp) _ st.2⟩
  item := fun i s Q E hi st hQ => item st.1 st.2 hdd (Array.getElem?_eq_getElem hi) fun h' hit' hs' =>
    hQ _ h' s.toks ⟨_, Array.getElem?_eq_getElem hi, rfl⟩ ⟨hit', hs'.extBut d od hne st.2⟩ fun b o hb e => hs'.extBut b o (fun h => hb (by simp [h])) e
  done := fun s Q E st hQ => done hh st.1 st.2 hdd (Nat.le_refl _) fun h' he' => hQ h' s.toks fun b o hb e => he' b o (fun h => hb (by simp [h])) e
  self := fun _ _ _ _ st hQ => wpAny_pyIter_keyiter st.1 hQ
theorem src {d : Addr} {od : Obj} {es : Array DictEntry} {ep : Nat} (lo : (d == sysModules) = false) (hx : od.ExactDict) (hdd : od.data = .dict es ep) :
    PySem.W.KdlSrc prog w "dict" d d es.size (fun i v => ∃ e, es[i]? = some e ∧ v = e.key) (fun h => h.get? d = some od) where
  type := fun _ hm => ⟨od, hm, hx.1⟩
  there := fun _ hm => ⟨Heap.lt_size hm, Heap.lt_size hm⟩
  keep := fun _ _ hm hk => hk d (.inl rfl) _ hm
  notList := by decide
  notTuple := by decide
  hint := fun _ _ _ _ hm hq => PySem.W.kdl_hint_dict ⟨od, hm, hx.1⟩ hq
  iter := fun _ _ hh hm => ⟨_, _, (fun _ _ hq => iter lo hm hx hdd hq), walks hh _ (Nat.ne_of_lt (Heap.lt_size hm)) hdd, ⟨⟨_, Heap.get?_push_size _ rfl, rfl, rfl⟩, Heap.get?_push_of_some _ hm⟩⟩
end
end RD
namespace L2
open PySem PySem.Spec PyProof.Rows
theorem collect_src {prog : Program} {w : World} {A : Around} {E : Value → Shared → Prop} {s : Shared} {a : Addr} {n : Nat} {P : Nat → Value → Prop} {OK : Heap → Prop} (hh : A.handled = none) (S : PySem.W.KdlSrc prog w "dict" a a n P OK) (okp : ∀ o, OK (s.heap.push o)) (al : a < s.heap.objs.size) (hn : n ≤ sizeLine)
    {Q : List Value → Shared → Prop} (h : ∀ (acc : List Value) (h1 : Heap) (tk : Nat), acc.length = n → (∀ (j : Nat) (v : Value), acc[j]? = some v → P j v) → (∀ b o, s.heap.get? b = some o → h1.get? b = some o) → Q acc { s with heap := h1, toks := tk }) :
    wpAny (model prog w) A (collect (.ref a)) Q E s := by
  unfold collect
  refine wpAny_bind (wpAny_runValue (codeAny_builtin PySem.F.entry_proto_collect ?_))
  rw [Around.under_plainId PySem.F.plain_proto_collect _]
  show wpAny _ A.in1 (newList [] >>= fun l => again (.builtin "list.__iadd__" ⟨[l, .ref a], []⟩)) _ _ s
  refine wpAny_bind (wpAny_newObj_type ?_)
  refine wpAny_pure ⟨plainId_quiet PySem.F.plain_list_iadd _, codeAny_builtin PySem.F.entry_list_iadd ?_⟩
  rw [Around.under_plainId PySem.F.plain_list_iadd _]
  have hS1 : (s.heap.push { cls := .type "list", data := .seq ([] : List Value).toArray }).get? s.heap.objs.size = some { cls := .type "list", data := .seq #[] } := Heap.get?_push_size _ rfl
  show wpAny _ A.in1 (Builtin.List.listExtendWith (.ref s.heap.objs.size) (.ref a) (.ref s.heap.objs.size)) _ _ _
  refine wpAny_mono (PySem.W.kdl_extend (A := A) (s := { s with heap := s.heap.push { cls := .type "list", data := .seq ([] : List Value).toArray } })
    (R := fun (q : Result) (s' : Shared) => ∃ (h' : Heap) (tk : Nat) (acc' : Array Value) (c' : Nat), q = .ok (.ret (.ref s.heap.objs.size)) ∧ s' = { s with heap := h', toks := tk } ∧ (∀ b o, s.heap.get? b = some o → h'.get? b = some o) ∧
      h'.get? s.heap.objs.size = some { cls := .type "list", dict := none, data := .seq acc' c', slots := #[] } ∧ ItemsOf P acc' n)
    S hh (okp _) s.heap.objs.size (Nat.ne_of_gt al) (Nat.ne_of_gt al) (.ref s.heap.objs.size) 0 hS1
    (fun h' tk acc' c' k hD hI => ⟨h', tk, acc', c', rfl, rfl, fun b o e => k b o (Nat.ne_of_lt (Heap.lt_size e)) (Heap.get?_push_of_some _ e), hD, hI⟩) hn) (fun fin s' z => ?_) fun e s' z => ?_
  · cases fin with
    | done f =>
      obtain ⟨h', tk, acc', c', e, rfl, k, hD, hI⟩ := z
      cases e
      show wpAny _ A (load s.heap.objs.size >>= _) _ _ _
      refine wpAny_bind (wpAny_load hD ?_)
      exact wpAny_pure (h acc'.toList h' tk (by rw [Array.length_toList]; exact hI.1) (fun j v e => hI.2 j v (by rw [← Array.getElem?_toList]; exact e)) k)
    | again c =>
      refine ⟨z.1, codeAny_mono z.2 fun r s2 hz => ?_⟩
      obtain ⟨h', tk, acc', c', rfl, rfl, k, hD, hI⟩ := hz
      show wpAny _ A (load s.heap.objs.size >>= _) _ _ _
      refine wpAny_bind (wpAny_load hD ?_)
      exact wpAny_pure (h acc'.toList h' tk (by rw [Array.length_toList]; exact hI.1) (fun j v e => hI.2 j v (by rw [← Array.getElem?_toList]; exact e)) k)
  · obtain ⟨_, _, _, _, e', _⟩ := z
    cases e'
section
variable {X : Cx}
theorem sort_tups {pins : List (Addr × Obj)} {σ : St} {H : Hp} {s : Shared} {a : Addr} {rs : List (Addr × List Str)} {its : List Value} {Q : VK} (I : Inv X pins σ H s) (ri : Vals (rs.map fun r => V.ref r.1) its) (hz : rs.length < 64) (hr : ∀ r ∈ rs, SqT X.K H r.1 (r.2.map V.str) ∧ r.2 ≠ [])
    (hcol : ∀ Q' : List Value → Shared → Prop, (∀ h1 tk, (∀ b o, s.heap.get? b = some o → h1.get? b = some o) → Q' its { s with heap := h1, toks := tk }) → wpAny (model X.prog X.w) X.A.in1 (collect (.ref a)) Q' X.xe s)
    (q : ∀ l (rs' : List (Addr × List Str)), H l = none → rs'.Perm rs → rs'.Pairwise (fun a b => HS.ltT b.2 a.2 = false) → Q (.ref l) (upd H l (.lst (rs'.map fun r => V.ref r.1)))) :
    wpAny (model X.prog X.w) X.A (call (.builtin "sorted") [.ref a]) (EP X pins σ Q) X.xe s := by
  have hl := ri.length
  rw [List.length_map] at hl
  have hT := tups_of I ri hr
  refine HS.sorted_call (lt := HS.ltT) HS.ltT_tot HS.ltT_tr (ks := rs.map (·.2)) (d := []) (fun v => v = its) (fun v e => by rw [e, List.length_map]; exact hl) (by rw [List.length_map]; exact hz) (fun Q' h => hcol Q' fun h1 tk k => h its h1 tk rfl k) (fun v e h2 h3 tk k3 => by subst e; exact HS.asks_tups (s := { s with heap := h3, toks := tk }) (hT.keep k3) h2) fun v p e h1 h' tk ev hO k1 k2 hD => ?_
  subst ev
  have hpm : p.Perm (List.range rs.length) := by have := hO.perm; rw [List.length_map] at this; exact this
  refine sorted_end I ri (by rw [List.length_map]; exact hz) (by rw [List.length_map]; exact hpm) k1 k2 hD fun l nl => ?_
  have ep : (p.map fun i => (rs.map fun r => V.ref r.1).getD i .non) = (p.map fun i => rs.getD i (0, [])).map fun r => V.ref r.1 := by
    rw [List.map_map]
    refine List.map_congr_left fun i hi => ?_
    have hi' : i < rs.length := List.mem_range.mp (hpm.mem_iff.mp hi)
    simp [hi']
  rw [ep]
  refine q l _ nl (perm_get rs (0, []) hpm) (List.pairwise_map.mpr (hO.rise.imp_of_mem fun {i j} hi hj z => ?_))
  have hi' : i < rs.length := List.mem_range.mp (hpm.mem_iff.mp hi)
  have hj' : j < rs.length := List.mem_range.mp (hpm.mem_iff.mp hj)
  simpa [hi', hj'] using z
def strK : Key → Str
  | .inr t => t
  | .inl _ => ""
def TKeys (H : Hp) (a : Addr) (ts : List (List Str)) : Prop := ∃ kvs : List (List Key × V), Rd H a (.dT kvs) ∧ kvs.map (·.1) = ts.map fun t => t.map Sum.inr
theorem kt_keys {H : Hp} : ∀ {kvs : List (List Key × V)} {xs : List (List Key × Addr × Value)} {ts : List (List Str)}, KT H kvs xs → kvs.map (·.1) = (ts.map fun t => t.map Sum.inr) → (∀ x ∈ xs, H x.2.1 = some (.tup ((x.1.map strK).map V.str))) ∧ xs.map (fun x => x.1.map strK) = ts
  | [], [], [], .nil, _ => ⟨(fun x hx => by cases hx), rfl⟩
  | [], [], _ :: _, .nil, h => by simp at h
  | _ :: _, _ :: _, [], .cons _ _, h => by simp at h
  | p :: _, x :: _, t :: ts, .cons hp r, h => by
    simp only [List.map_cons, List.cons.injEq] at h
    obtain ⟨h1, h2⟩ := h
    obtain ⟨i1, i2⟩ := kt_keys r h2
    obtain ⟨e1, e2, _⟩ := hp
    have es : x.1.map strK = t := by
      rw [← e1, h1, List.map_map]
      have : ∀ z ∈ t, (strK ∘ Sum.inr) z = z := fun z _ => rfl
      rw [List.map_congr_left this, List.map_id']
    have ev : (x.1.map strK).map V.str = p.1.map kV := by rw [es, h1, List.map_map]; rfl
    refine ⟨fun y hy => ?_, by rw [List.map_cons, es, i2]⟩
    rcases List.mem_cons.mp hy with rfl | hy
    · rw [ev]; exact e2
    · exact i1 y hy
theorem call_sortDT (hc : X.calm = true) : CallR X (.builtin "sorted") (fun xs H Q => ∃ a, ∃ ts : List (List Str), xs = [.ref a] ∧ TKeys H a ts ∧ ts.length < 64 ∧ (∀ t ∈ ts, t ≠ []) ∧
    ∀ l (rs : List (Addr × List Str)), H l = none → (rs.map (·.2)).Perm ts → (∀ r ∈ rs, H r.1 = some (.tup (r.2.map V.str))) → rs.Pairwise (fun a b => HS.ltT b.2 a.2 = false) → Q (.ref l) (upd H l (.lst (rs.map fun r => V.ref r.1)))) := by
  intro pins s σ H xs us Q I r h
  obtain ⟨a, ts, rfl, ⟨kvs, hR, hk⟩, hz, hne, q⟩ := h
  obtain ⟨u, rfl, ru⟩ := vals1 r
  cases ru
  obtain ⟨hzk, lo, ys, kt, ob, es, ep, ho, hx, hdd, hes, hin, hnd⟩ := dt_rd I.hok hR
  obtain ⟨k1, k2⟩ := kt_keys kt hk
  have hl : ys.length = ts.length := by rw [← k2, List.length_map]
  have hsz : es.size = ys.length := by have := congrArg List.length hes; rw [Array.length_toList, List.length_map] at this; exact this
  have ri : Vals ((ys.map fun y => (y.2.1, y.1.map strK)).map fun r => V.ref r.1) (ys.map fun y => Value.ref y.2.1) := by
    rw [List.map_map]
    clear hes hsz hl k2 k1 kt hin hnd
    induction ys with
    | nil => exact .nil
    | cons y ys ih => exact .cons rfl ih
  refine sort_tups I ri (by rw [List.length_map]; omega) (fun r hr => ?_) (fun Q' h => ?_) fun l rs' nl hp hs => ?_
  · obtain ⟨y, hy, rfl⟩ := List.mem_map.mp hr
    exact ⟨SqT.of (k1 y hy), hne _ (by rw [← k2]; exact List.mem_map.mpr ⟨y, hy, rfl⟩)⟩
  · refine collect_src (A := X.A.in1) (I.ok.hd hc) (RD.src lo hx hdd) (fun o => Heap.get?_push_of_some _ ho) (Heap.lt_size ho) (by rw [sizeLine_eq]; omega) fun acc h1 tk hla hP k => ?_
    have e : acc = ys.map fun y => Value.ref y.2.1 := by
      apply List.ext_getElem?
      intro j
      rw [List.getElem?_map]
      cases hj : acc[j]? with
      | none =>
        have hj' : acc.length ≤ j := List.getElem?_eq_none_iff.mp hj
        rw [List.getElem?_eq_none (by omega)]
        rfl
      | some v =>
        obtain ⟨e, he, rfl⟩ := hP j v hj
        rw [← Array.getElem?_toList, hes, List.getElem?_map] at he
        cases hy : ys[j]? with
        | none => rw [hy] at he; cases he
        | some y => rw [hy] at he; cases he; rfl
    rw [e]
    exact h h1 tk k
  · refine q l rs' nl ?_ (fun r hr => ?_) hs
    · have := hp.map (·.2)
      rw [List.map_map] at this
      rw [← k2]
      exact this
    · obtain ⟨y, hy, e⟩ := List.mem_map.mp (hp.mem_iff.mp hr)
      rw [← e]
      exact k1 y hy
end
end L2
namespace L2
open PySem PySem.Spec PyProof.Rows
theorem best_le (bt : Nat → Nat → Bool) : ∀ k, argBest bt k ≤ k
  | 0 => Nat.le_refl _
  | k + 1 => by
    have ih := best_le bt k
    show (if bt (k + 1) (argBest bt k) then k + 1 else argBest bt k) ≤ k + 1
    split <;> omega
section
variable {X : Cx}
end
end L2
namespace HT
open PySem PySem.Spec PyProof.Rows
section
variable {prog : Program} {w : World} {A : Around} {E : Value → Shared → Prop} {s : Shared}
theorem getItem_whole {t sl : Addr} {items : Array Value} {vl vu : Value} {lo hi : Option Int} {Q : Value → Shared → Prop} (ht : IsTup s.heap t items) (hs : s.heap.IsSliceOf sl vl vu .none) (pl : IsPart vl lo) (pu : IsPart vu hi)
    (hw : sIx items.size 0 lo = 0 ∧ sIx items.size items.size hi = items.size) (h : Q (.ref t) s) : wpAny (model prog w) A (getItem (.ref t) (.ref sl)) Q E s := by
  obtain ⟨os, hos, hcs, hds⟩ := id hs
  have tyS : s.TypeIs (.ref sl) "slice" := ⟨os, hos, hcs⟩
  unfold getItem; try with_reducible refine wpAny_holding ?_
  first | refine wpAny_bind (wpAny_pure ?_) | skip
  refine wpAny_bind (wpAny_sequenceKey ht.typeIs (by decide) (wpAny_bind (wpAny_callSpecial?_slot (name := Str.ofString "__getitem__") ht.typeIs PyProof.Rows.slot_tuple_getitem (wpAny_call_entry PyProof.Rows.slot_tuple_getitem ht.typeIs entry_tuple_getitem ?_ (args_tuple_getitem _ _)))))
  show wpAny _ _ (Builtin.Tuple.tupleItemsOf (.ref t) >>= _) _ _ s; refine wpAny_bind (tupleItemsOf_ ht (wpAny_bind (wpAny_typeOf tyS ?_))); rw [if_pos (by decide)]
  refine wpAny_bind (sliceApplied_gen hs pl pu ?_)
  have yes : (((sIx items.size 0 lo : Nat) : Int) == 0 && (1 : Int) == 1 && (sIx items.size items.size hi - sIx items.size 0 lo) == items.size) = true := by rw [hw.1, hw.2]; simp
  show wpAny _ _ (if (((sIx items.size 0 lo : Nat) : Int) == 0 && (1 : Int) == 1 && (sIx items.size items.size hi - sIx items.size 0 lo) == items.size) = true then _ else _) _ _ s
  rw [if_pos yes]
  unfold Builtin.Tuple.tupleIsExact
  refine wpAny_bind (wpAny_bind (wpAny_typeOf ht.typeIs (wpAny_pure ?_)))
  have yes2 : ((Value.type "tuple" == Value.type "tuple") = true) := by decide
  first
    | (rw [if_pos yes2]; exact wpAny_bind (wpAny_rule (wpAny_pure ⟨_, rfl, wpAny_pure h⟩)))
    | (rw [if_pos yes2]; exact wpAny_bind (wpAny_rule (wpAny_bind (wpAny_pure (wpAny_pure ⟨_, rfl, wpAny_pure h⟩)))))
    | (simp only [yes2, if_true]; exact wpAny_rule (wpAny_pure ⟨_, rfl, wpAny_pure h⟩))
end
end HT
namespace L2
open PySem PySem.Spec PyProof.Rows
theorem cut_whole {xs : List V} {lo hi : Option Int} (h : HT.sIx xs.length 0 lo = 0 ∧ HT.sIx xs.length xs.length hi = xs.length) : cutV xs lo hi = xs := by
  unfold cutV
  rw [h.1, h.2]
  simp
section
variable {X : Cx}
theorem sl_tupH : SlR X (fun x lo hi H Q => ∃ a xs, x = .ref a ∧ H a = some (.tup xs) ∧ ∀ p H', Same H H' → H' p = some (.tup (cutV xs lo hi)) → Q (.ref p) H') := by
  intro pins s σ H x v vl vu lo hi sl Q I rx hs pl pu h
  obtain ⟨a, xs, rfl, hx, q⟩ := h
  by_cases hw : HT.sIx xs.length 0 lo = 0 ∧ HT.sIx xs.length xs.length hi = xs.length
  · cases rx
    obtain ⟨its, r, ht, hz⟩ := I.tuple (SqT.of hx)
    have hlen : its.toArray.size = xs.length := by rw [List.size_toArray]; exact r.length.symm
    refine ⟨"tuple", _, PyProof.Rows.slot_tuple_getitem.lookup, ht.typeIs, ?_⟩
    refine HT.getItem_whole ht hs pl pu (by rw [hlen]; exact hw) ?_
    exact ⟨.ref a, H, I, rfl, q a H (Same.refl H) (by rw [cut_whole hw]; exact hx)⟩
  · exact sl_tup pins s σ H (.ref a) v vl vu lo hi sl Q I rx hs pl pu ⟨a, xs, rfl, SqT.of hx, hw, fun p np => q p _ (Same.new np _) upd_same⟩
end
end L2
namespace L2
open PySem PySem.Spec PyProof.Rows
section
variable {X : Cx}
end
end L2
namespace HD
open PySem
section
variable {prog : Program} {w : World} {A : Around} {E : Value → Shared → Prop} {s : Shared}
theorem keys_list {a : Addr} {o : Obj} {xs : Array Value} {k : Nat} {Q : Option Value → Shared → Prop} (gx : s.heap.get? a = some o) (hc : o.cls = .type "list") (hdat : o.data = .seq xs k) (hd : o.dict = none) (hA : A.handled = none)
    (h : ∀ h' tk, (∀ b o, s.heap.get? b = some o → h'.get? b = some o) → Q none { s with heap := h', toks := tk }) : wpAny (model prog w) A (getAttr? (.ref a) "keys") Q E s := by
  obtain ⟨c, dct, dat, sl⟩ := o
  simp only at hc hdat hd
  subst hc hdat hd
  obtain ⟨hp, gg, dd, tk, oo⟩ := s
  have tyT : ∀ tz, (⟨hp, gg, dd, tz, oo⟩ : Shared).TypeIs (.ref a) "list" := fun _ => ⟨_, gx, rfl⟩
  have u1 := sub_AttributeError
  have u3 := F.slot_list_getattribute.lookup
  have u4 := F.slot_list_getattribute.bind (.ref a)
  have u5 := am_list_getattr_none
  unfold getAttr? getAttrBy? getAttrBy
  repeat (any_goals (first | assumption | exact tyT _ | ((with_reducible show wpAny _ _ (call (Value.builtin "list.__getattribute__") _ _) _ _ _); refine call_meets F.slot_list_getattribute (tyT _) am_entry_list_getattribute (F.args_list_getattribute_2 _ _) (meets_getattribute_miss_list a xs k sl "keys" _ no_keysL (by decide) (by size_fits)) ⟨gx, hA, fun h' tz e gx' => ?_⟩) | wp_step))
  obtain ⟨t', u', he⟩ := gx'.there
  show wpAny _ _ (getattributeRaised _ _ _ _ _ _ _) _ _ _
  unfold getattributeRaised
  repeat (any_goals (first | assumption | wp_step))
  exact h h' tz gx'.of.keeps
end
end HD
namespace HD
open PySem
section
variable {prog : Program} {w : World} {A : Around} {E : Value → Shared → Prop} {s : Shared} {K : Type} [DecidableEq K] {knd : KeyKind prog w K}
theorem list_same {h h' : Heap} {a d : Addr} {xs : Array Value} (ht : h.IsList a xs) (hs : Heap.SameBut d h h') (hne : a ≠ d) : h'.IsList a xs := by
  obtain ⟨o, ho, r⟩ := ht
  exact ⟨o, (hs.2 a hne).trans ho, r⟩
theorem iter_sameL {h h' : Heap} {a d it : Addr} {i : Nat} (ht : h.IsListIter it a i) (hs : Heap.SameBut d h h') (hne : it ≠ d) : h'.IsListIter it a i := by
  obtain ⟨o, ho, r⟩ := ht
  exact ⟨o, (hs.2 it hne).trans ho, r⟩
end
end HD
namespace L2
open PySem PySem.Spec PyProof.Rows
section
variable {X : Cx}
end
end L2
namespace HZ
open PySem PySem.Builtin
end HZ
namespace HZ
open PySem PySem.Builtin
section
variable {prog : Program} {w : World} {A : Around} {E : Value → Shared → Prop} {s : Shared}
end
end HZ
namespace L2
open PySem PySem.Spec PyProof.Rows
section
variable {X : Cx}
end
end L2
namespace Mi
open PySem L2
abbrev Rw := Str × Str
def val (G : List Rw) (n : Str) : Option Str := (G.find? fun p => decide (p.1 = n)).map (·.2)
theorem val_cons (p : Rw) (G : List Rw) (n : Str) : val (p :: G) n = if p.1 = n then some p.2 else val G n := by
  unfold val
  rw [List.find?_cons]
  by_cases h : p.1 = n
  · rw [if_pos h]; simp [h]
  · rw [if_neg h]; simp [h]
theorem val_mem {G : List Rw} {n m : Str} (h : val G n = some m) : (n, m) ∈ G := by
  induction G with
  | nil => cases h
  | cons p G ih =>
    rw [val_cons] at h
    by_cases e : p.1 = n
    · rw [if_pos e] at h
      cases h
      subst e
      exact List.mem_cons_self ..
    · rw [if_neg e] at h
      exact List.mem_cons_of_mem _ (ih h)
def stopF (G : List Rw) : Nat → List Str → Str → Str
  | 0, _, n => n
  | f + 1, P, n => match val G n with
    | none => n
    | some m => if n ∈ P then n else stopF G f (P ++ [n]) m
def stop (G : List Rw) (n : Str) : Str := stopF G (G.length + 1) [] n
theorem stop_none {G : List Rw} {n : Str} (h : val G n = none) : stop G n = n := by
  unfold stop stopF
  rw [h]
theorem stopF_succ {G : List Rw} {f : Nat} {P : List Str} {n m : Str} (h : val G n = some m) (hn : n ∉ P) : stopF G (f + 1) P n = stopF G f (P ++ [n]) m := by
  show (match val G n with | none => n | some m => if n ∈ P then n else stopF G f (P ++ [n]) m) = _
  rw [h]
  exact if_neg hn
theorem stopF_none {G : List Rw} {f : Nat} {P : List Str} {n : Str} (h : val G n = none) : stopF G f P n = n := by
  cases f with
  | zero => rfl
  | succ f =>
    show (match val G n with | none => n | some m => if n ∈ P then n else stopF G f (P ++ [n]) m) = _
    rw [h]
theorem stop_one {G : List Rw} {n m : Str} (h : val G n = some m) (h2 : val G m = none) : stop G n = m := by
  unfold stop
  rw [stopF_succ h (by simp), stopF_none h2]
structure Flat (R : List Rw) : Prop where
  nd : (R.map (·.1)).Nodup
  no : ∀ r ∈ R, val R r.2 = none
theorem Flat.stop {R : List Rw} (f : Flat R) (n : Str) : stop R n = (val R n).getD n ∧ val R (Mi.stop R n) = none := by
  cases h : val R n with
  | none => rw [stop_none h]; exact ⟨rfl, h⟩
  | some m =>
    have hm := f.no _ (val_mem h)
    rw [stop_one h hm]
    exact ⟨rfl, hm⟩
def more (R : List Rw) (one en : Str) : List Rw := ((R.filter fun r => decide (r.1 ≠ one)).map fun r => (r.1, if r.2 = one then en else r.2)) ++ [(one, en)]
def Rise (R : List Rw) : Prop := R.Pairwise fun a b => HS.ltS a.1 b.1 = true
theorem Rise.nd {R : List Rw} (h : Rise R) : (R.map (·.1)).Nodup := by
  rw [List.Nodup, List.pairwise_map]
  exact h.imp fun {a b} z e => by rw [e, HS.ltS_irr] at z; cases z
end Mi
namespace Co
open PySem L2 Mi
def Has (P : Program) (w : World) (K : PySem.W.Frag) (mg : Str → Option Value) (base : Heap) (x : Str) (k : Nat) (ps : List Str) (sp : Sp) : Prop :=
  ∃ (f : Addr) (fd : FuncData), FnOk P w K mg base CX0 k f fd ps sp ∧ Binds K fd ps [] ∧ PySem.W.keepIn K (.ref f) = true ∧ mg x = some (.ref f)
def HasE (P : Program) (w : World) (K : PySem.W.Frag) (mg : Str → Option Value) (base : Heap) (x : Str) (k : Nat) (ps : List Str) (sp : Sp) : Prop :=
  ∃ (f : Addr) (fd : FuncData), FnOk P w K mg base (CXE P w) k f fd ps sp ∧ Binds K fd ps [] ∧ PySem.W.keepIn K (.ref f) = true ∧ mg x = some (.ref f)
theorem pe_callH {X : Cx} {x : Str} {k : Nat} {ps : List Str} {sp : Sp} {e : Expr} {es : List Expr} {t : TA} {p pos : Pos} (h : Has X.prog X.w X.K X.mg X.base x k ps sp) (hr : Room k X.A) (hg : Gl X x) (ha : PA X (e :: es) t)
    (hdb : (x == ("__debug__" : Str)) = false := by decide) (he : starEach (e :: es) X.env = (false, eval e X.env) :: starEach es X.env := by rfl) (hpl : (backTo pos (starEach es X.env)).any (·.1) = false := by rfl) :
    PE X (.Call (.Name x p) (e :: es) [] pos) (tCall sp [] E0 t) := by
  obtain ⟨f, fd, F, b, kp, m⟩ := h
  exact pe_call F hr hg m kp b .nil pass0 ha hdb he hpl
theorem Has.mono {P : Program} {w : World} {K : PySem.W.Frag} {mg : Str → Option Value} {base : Heap} {x : Str} {j k : Nat} {ps : List Str} {sp : Sp} (h : Has P w K mg base x j ps sp) (hk : j ≤ k) : Has P w K mg base x k ps sp := by
  obtain ⟨f, fd, F, b, kp, m⟩ := h
  exact ⟨f, fd, F.mono hk, b, kp, m⟩
theorem HasE.mono {P : Program} {w : World} {K : PySem.W.Frag} {mg : Str → Option Value} {base : Heap} {x : Str} {j k : Nat} {ps : List Str} {sp : Sp} (h : HasE P w K mg base x j ps sp) (hk : j ≤ k) : HasE P w K mg base x k ps sp := by
  obtain ⟨f, fd, F, b, kp, m⟩ := h
  exact ⟨f, fd, F.mono hk, b, kp, m⟩
theorem boot_sorted : bootBuiltins (Str.ofString "sorted") = some (Value.builtin "sorted") := by decide +kernel
theorem boot_tuple : bootBuiltins (Str.ofString "tuple") = some (Value.type "tuple") := by decide +kernel
theorem boot_list : bootBuiltins (Str.ofString "list") = some (Value.type "list") := by decide +kernel
theorem boot_dict : bootBuiltins (Str.ofString "dict") = some (Value.type "dict") := by decide +kernel
theorem big (n : Nat) (h : n ≤ 100000) : n ≤ sizeLine := by rw [sizeLine_eq]; omega
theorem bigl (n : Nat) (h : n ≤ 100000) : n < sizeLine := by rw [sizeLine_eq]; omega
structure Blt (mg : Str → Option Value) : Prop where
  len : mg "len" = none
  all : mg "all" = none
  isi : mg "isinstance" = none
  str : mg "str" = none
  int : mg "int" = none
  bool : mg "bool" = none
  tuple : mg "tuple" = none
  list : mg "list" = none
  range : mg "range" = none
  zip : mg "zip" = none
  any : mg "any" = none
  sorted : mg "sorted" = none
  dict : mg "dict" = none
  enumerate : mg "enumerate" = none
abbrev IsInt (mg : Str → Option Value) (x : Str) (n : Int) : Prop := ∃ t, mg x = some (.int n t)
def Scr (K : PySem.W.Frag) (H : Hp) (a : Addr) (ns : List Int) : Prop :=
  (∃ o, H a = some (.frz o (.lst (ns.map V.int)))) ∨
    ∃ (o : Obj) (its : Array Value) (n : Nat), K.lookup a = some o ∧ o.cls = .type "list" ∧ o.dict = none ∧ o.data = .seq its n ∧ its.size ≤ sizeLine ∧ Vals (ns.map V.int) its.toList
theorem Scr.sq {K : PySem.W.Frag} {H : Hp} {a : Addr} {ns : List Int} (h : Scr K H a ns) : SqL K H a (ns.map V.int) := by
  rcases h with ⟨o, h⟩ | h
  · exact .inl (.inr ⟨o, h⟩)
  · exact .inr h
def Stp (t : Addr) (H H' : Hp) : Prop := ∀ b o, b ≠ t → H b = some o → H' b = some o
theorem Stp.refl (t : Addr) (H : Hp) : Stp t H H := fun _ _ _ h => h
theorem Stp.trans {t : Addr} {H H1 H2 : Hp} (a : Stp t H H1) (b : Stp t H1 H2) : Stp t H H2 := fun c o hc h => b c o hc (a c o hc h)
theorem _root_.L2.Same.stp {t : Addr} {H H' : Hp} (s : Same H H') : Stp t H H' := fun b o _ h => s b o h
theorem Stp.upd {t : Addr} {H : Hp} (o : HO) : Stp t H (upd H t o) := fun b u hb h => by rw [upd_ne hb]; exact h
theorem Scr.stp {K : PySem.W.Frag} {H H' : Hp} {a t : Addr} {ns : List Int} {zs : List V} (h : Scr K H a ns) (ht : H t = some (.lst zs)) (s : Stp t H H') : Scr K H' a ns := by
  rcases h with ⟨o, h⟩ | h
  · refine .inl ⟨o, s a _ (fun e => ?_) h⟩
    rw [e, ht] at h
    cases h
  · exact .inr h
theorem Scr.same {K : PySem.W.Frag} {H H' : Hp} {a : Addr} {ns : List Int} (h : Scr K H a ns) (s : Same H H') : Scr K H' a ns := by
  rcases h with ⟨o, h⟩ | h
  · exact .inl ⟨o, s a _ h⟩
  · exact .inr h
theorem tup_stp {K : PySem.W.Frag} {H H' : Hp} {p t : Addr} {xs zs : List V} (h : SqT K H p xs) (ht : H t = some (.lst zs)) (s : Stp t H H') : SqT K H' p xs := by
  rcases h with (h | ⟨o, h⟩) | h
  · exact .inl (.inl (s p _ (fun e => by rw [e, ht] at h; cases h) h))
  · exact .inl (.inr ⟨o, s p _ (fun e => by rw [e, ht] at h; cases h) h⟩)
  · exact .inr h
def spDraw (K : PySem.W.Frag) : Sp := fun vs H Q _ => ∃ (a t : Addr) (ns : List Int) (zs : List V) (m : Int), vs = [.ref a, .ref t, .int m] ∧ Scr K H a ns ∧ ns.length ≤ 63 ∧ H t = some (.lst zs) ∧ zs.length < 100000 ∧ 0 < m ∧
  ∀ (r : Int) (H' : Hp), 0 ≤ r → r < m → H' t = some (.lst (zs ++ [.int 0])) → Stp t H H' → Q (.int r) H'
def spPick (K : PySem.W.Frag) : Sp := fun vs H Q _ => ∃ (a t : Addr) (ns : List Int) (zs : List V), Scr K H a ns ∧ ns.length ≤ 63 ∧ H t = some (.lst zs) ∧ zs.length < 100000 ∧
  ((∃ (l : Addr) (xs : List V), vs = [.ref a, .ref t, .ref l] ∧ H l = some (.lst xs) ∧ l ≠ t ∧ 0 < xs.length ∧ ∀ (x : V) (H' : Hp), x ∈ xs → H' t = some (.lst (zs ++ [.int 0])) → Stp t H H' → Q x H') ∨
   (∃ z : Str, vs = [.ref a, .ref t, .str z] ∧ 0 < z.length ∧ z.length ≤ 1000 ∧ ∀ (c : Nat) (H' : Hp), c ∈ z.cps.toList → H' t = some (.lst (zs ++ [.int 0])) → Stp t H H' → Q (.str ⟨#[c]⟩) H'))
theorem at_mod {ns : List Int} (h : ns ≠ []) (k : Int) : ∃ v : Int, atI (ns.map V.int) (k % ((ns.map V.int).length : Int)) = some (.int v) := by
  have hl : 0 < ns.length := List.length_pos_iff.mpr h
  have e : ((ns.map V.int).length : Int) = (ns.length : Int) := by rw [List.length_map]
  rw [e]
  have h0 := Int.emod_nonneg k (b := (ns.length : Int)) (by omega)
  have h1 := Int.emod_lt_of_pos k (b := (ns.length : Int)) (by omega)
  generalize k % (ns.length : Int) = i at h0 h1 ⊢
  obtain ⟨j, rfl⟩ : ∃ j : Nat, i = (j : Int) := ⟨i.toNat, by omega⟩
  have hj : j < ns.length := by omega
  exact ⟨ns[j], atI_nat (by rw [List.getElem?_map, List.getElem?_eq_getElem hj]; rfl)⟩
theorem at_place {α : Type} {xs : List α} {r : Int} (h0 : 0 ≤ r) (h1 : r < (xs.length : Int)) : ∃ v, atI xs r = some v ∧ v ∈ xs := by
  obtain ⟨j, rfl⟩ : ∃ j : Nat, r = (j : Int) := ⟨r.toNat, by omega⟩
  have hj : j < xs.length := by omega
  exact ⟨xs[j], atI_nat (List.getElem?_eq_getElem hj), List.getElem_mem hj⟩
def spLaw (K : PySem.W.Frag) : Sp := fun vs H Q _ => ∃ (a : Addr) (ns : List Int), vs = [.ref a] ∧ Scr K H a ns ∧ ns.length ≤ 63 ∧ ∀ H', Q (.bl true) H'
theorem scr_of {K : PySem.W.Frag} {H : Hp} {a : Addr} {ns : List Int} (hO : Only H) (hS : SqL K H a (ns.map V.int)) : Scr K H a ns := by
  rcases hS with (h | ⟨o, h⟩) | h
  · rcases hO a with z | ⟨o, xs, z⟩
    · rw [z] at h; cases h
    · rw [z] at h; cases h
  · exact .inl ⟨o, h⟩
  · exact .inr h
def Alike0 (x y : V) : Prop := (x = .non ∧ y = .non) ∨ (∃ b, x = .bl b ∧ y = .bl b) ∨ (∃ i, x = .int i ∧ y = .int i) ∨ ∃ z, x = .str z ∧ y = .str z
def Alike (K : PySem.W.Frag) (H : Hp) : Nat → V → V → Prop
  | 0, x, y => Alike0 x y
  | n + 1, x, y => Alike0 x y ∨ ∃ a b xs ys, x = .ref a ∧ y = .ref b ∧ SqT K H a xs ∧ SqT K H b ys ∧ xs.length = ys.length ∧ xs.length ≤ 1000 ∧ ∀ (i : Nat) u v, xs[i]? = some u → ys[i]? = some v → Alike K H n u v
theorem Alike.same {K : PySem.W.Frag} {H H' : Hp} (s : Same H H') : ∀ {n : Nat} {x y : V}, Alike K H n x y → Alike K H' n x y
  | 0, _, _, h => h
  | n + 1, _, _, h => by
    rcases h with h | ⟨a, b, xs, ys, e1, e2, h1, h2, hl, hm, h3⟩
    · exact .inl h
    · exact .inr ⟨a, b, xs, ys, e1, e2, s.tup h1, s.tup h2, hl, hm, fun i u v hu hv => (h3 i u v hu hv).same s⟩
theorem Alike.up {K : PySem.W.Frag} {H : Hp} : ∀ {n : Nat} {x y : V}, Alike K H n x y → Alike K H (n + 1) x y
  | 0, _, _, h => .inl h
  | n + 1, _, _, h => by
    rcases h with h | ⟨a, b, xs, ys, e1, e2, h1, h2, hl, hm, h3⟩
    · exact .inl h
    · exact .inr ⟨a, b, xs, ys, e1, e2, h1, h2, hl, hm, fun i u v hu hv => (h3 i u v hu hv).up⟩
theorem Alike.mono {K : PySem.W.Frag} {H : Hp} {m n : Nat} {x y : V} (h : Alike K H m x y) (hm : m ≤ n) : Alike K H n x y := by
  induction hm with
  | refl => exact h
  | step _ ih => exact ih.up
def Thg0 (K : PySem.W.Frag) (H : Hp) (v : V) : Prop := (∃ x : Str, v = .str x ∧ x.length ≤ 100) ∨ v = .non ∨ (∃ i, v = .int i) ∨ (∃ b, v = .bl b) ∨ (∃ a xs, v = .ref a ∧ SqT K H a xs) ∨ ∃ a xs, v = .ref a ∧ H a = some (.lst xs)
theorem Thg0.same {K : PySem.W.Frag} {H H' : Hp} {v : V} (h : Thg0 K H v) (s : Same H H') : Thg0 K H' v := by
  rcases h with h | h | h | h | ⟨a, xs, e, h⟩ | ⟨a, xs, e, h⟩
  · exact .inl h
  · exact .inr (.inl h)
  · exact .inr (.inr (.inl h))
  · exact .inr (.inr (.inr (.inl h)))
  · exact .inr (.inr (.inr (.inr (.inl ⟨a, xs, e, s.tup h⟩))))
  · exact .inr (.inr (.inr (.inr (.inr ⟨a, xs, e, s _ _ h⟩))))
def NoT (H : Hp) (v : V) : Prop := (∃ x : Str, v = .str x ∧ x.length ≤ 100) ∨ v = .non ∨ (∃ i, v = .int i) ∨ (∃ b, v = .bl b) ∨ ∃ a xs, v = .ref a ∧ H a = some (.lst xs)
theorem NoT.thg {K : PySem.W.Frag} {H : Hp} {v : V} (h : NoT H v) : Thg0 K H v := by
  rcases h with h | h | h | h | h
  · exact .inl h
  · exact .inr (.inl h)
  · exact .inr (.inr (.inl h))
  · exact .inr (.inr (.inr (.inl h)))
  · exact .inr (.inr (.inr (.inr (.inr h))))
end Co
namespace Co
open PySem L2 Mi
def Thg (K : PySem.W.Frag) (H : Hp) (v : V) : Prop := NoT H v ∨ ∃ a xs, v = .ref a ∧ SqT K H a xs ∧ xs.length ≤ 1000 ∧ ∀ x ∈ xs, Thg0 K H x
theorem Thg.t0 {K : PySem.W.Frag} {H : Hp} {v : V} (h : Thg K H v) : Thg0 K H v := by
  rcases h with h | ⟨a, xs, e, h, _⟩
  · exact h.thg
  · exact .inr (.inr (.inr (.inr (.inl ⟨a, xs, e, h⟩))))
theorem NoT.same {H H' : Hp} {v : V} (h : NoT H v) (s : Same H H') : NoT H' v := by
  rcases h with h | h | h | h | ⟨a, xs, e, h⟩
  · exact .inl h
  · exact .inr (.inl h)
  · exact .inr (.inr (.inl h))
  · exact .inr (.inr (.inr (.inl h)))
  · exact .inr (.inr (.inr (.inr ⟨a, xs, e, s _ _ h⟩)))
theorem Thg.same {K : PySem.W.Frag} {H H' : Hp} {v : V} (h : Thg K H v) (s : Same H H') : Thg K H' v := by
  rcases h with h | ⟨a, xs, e, h, hl, hx⟩
  · exact .inl (h.same s)
  · exact .inr ⟨a, xs, e, s.tup h, hl, fun x hm => (hx x hm).same s⟩
theorem NoT.stp {H H' : Hp} {t : Addr} {zs zs' : List V} {v : V} (h : NoT H v) (s : Stp t H H') (h2 : H' t = some (.lst zs')) : NoT H' v := by
  rcases h with h | h | h | h | ⟨a, xs, e, h⟩
  · exact .inl h
  · exact .inr (.inl h)
  · exact .inr (.inr (.inl h))
  · exact .inr (.inr (.inr (.inl h)))
  · by_cases ha : a = t
    · exact .inr (.inr (.inr (.inr ⟨a, zs', e, ha ▸ h2⟩)))
    · exact .inr (.inr (.inr (.inr ⟨a, xs, e, s a _ ha h⟩)))
theorem Thg0.stp {K : PySem.W.Frag} {H H' : Hp} {t : Addr} {zs zs' : List V} {v : V} (h : Thg0 K H v) (ht : H t = some (.lst zs)) (s : Stp t H H') (h2 : H' t = some (.lst zs')) : Thg0 K H' v := by
  rcases h with h | h | h | h | ⟨a, xs, e, h⟩ | ⟨a, xs, e, h⟩
  · exact .inl h
  · exact .inr (.inl h)
  · exact .inr (.inr (.inl h))
  · exact .inr (.inr (.inr (.inl h)))
  · exact .inr (.inr (.inr (.inr (.inl ⟨a, xs, e, tup_stp h ht s⟩))))
  · by_cases ha : a = t
    · exact .inr (.inr (.inr (.inr (.inr ⟨a, zs', e, ha ▸ h2⟩))))
    · exact .inr (.inr (.inr (.inr (.inr ⟨a, xs, e, s a _ ha h⟩))))
theorem Thg.stp {K : PySem.W.Frag} {H H' : Hp} {t : Addr} {zs zs' : List V} {v : V} (h : Thg K H v) (ht : H t = some (.lst zs)) (s : Stp t H H') (h2 : H' t = some (.lst zs')) : Thg K H' v := by
  rcases h with h | ⟨a, xs, e, h, hl, hx⟩
  · exact .inl (h.stp (zs := zs) s h2)
  · exact .inr ⟨a, xs, e, tup_stp h ht s, hl, fun x hm => (hx x hm).stp ht s h2⟩
section
variable {X : Cx}
end
end Co
namespace Co
open PySem L2 Mi
def RowsIn (H : Hp) (rs : List (Addr × Rw)) : Prop := ∀ r ∈ rs, H r.1 = some (.tup [V.str r.2.1, V.str r.2.2])
abbrev refs (rs : List (Addr × Rw)) : List V := rs.map fun r => V.ref r.1
def RowsAt (H : Hp) (a : Addr) (R : List Rw) : Prop := ∃ rs : List (Addr × Rw), H a = some (.tup (refs rs)) ∧ RowsIn H rs ∧ rs.map (·.2) = R
theorem RowsIn.ts {H H' : Hp} {rs : List (Addr × Rw)} (h : RowsIn H rs) (s : TS' H H') : RowsIn H' rs := fun r hr => s _ _ (h r hr)
theorem RowsAt.ts {H H' : Hp} {a : Addr} {R : List Rw} (h : RowsAt H a R) (s : TS' H H') : RowsAt H' a R := by
  obtain ⟨rs, h1, h2, h3⟩ := h
  exact ⟨rs, s _ _ h1, h2.ts s, h3⟩
theorem RowsAt.same {H H' : Hp} {a : Addr} {R : List Rw} (h : RowsAt H a R) (s : Same H H') : RowsAt H' a R := h.ts s.ts
theorem Stp.ts {t : Addr} {H H' : Hp} {zs : List V} (s : Stp t H H') (h : H t = some (.lst zs)) : TS' H H' := fun b xs hb => s b _ (fun e => by rw [e, h] at hb; cases hb) hb
theorem nodup_len {α : Type} [DecidableEq α] : ∀ {P L : List α}, P.Nodup → (∀ x ∈ P, x ∈ L) → P.length ≤ L.length
  | [], _, _, _ => Nat.zero_le _
  | a :: P, L, nd, h => by
    rw [List.nodup_cons] at nd
    have ha := h a (List.mem_cons_self ..)
    have ih := nodup_len (P := P) (L := L.erase a) nd.2 fun x hx => (List.mem_erase_of_ne (fun (e : x = a) => nd.1 (e ▸ hx))).mpr (h x (List.mem_cons_of_mem _ hx))
    have hl : (L.erase a).length = L.length - 1 := List.length_erase_of_mem ha
    have hp : 0 < L.length := List.length_pos_of_mem ha
    rw [List.length_cons]
    omega
theorem RowsIn.filter {H : Hp} {rs : List (Addr × Rw)} (h : RowsIn H rs) (p : Addr × Rw → Bool) : RowsIn H (rs.filter p) := fun r hr => h r (List.mem_filter.mp hr).1
end Co
namespace Mi
open PySem L2
end Mi
namespace Co
open PySem L2 Mi
end Co
namespace Co
open PySem L2 Mi
end Co
namespace Co
open PySem L2 Mi
end Co
namespace Co
open PySem L2 Mi
end Co
namespace Mi
open PySem L2
def Ch (R : List Rw) : List Str → Str → Prop
  | [], _ => True
  | x :: P, n => val R x = some (P.headD n) ∧ Ch R P n
theorem Ch.snoc {R : List Rw} : ∀ {P : List Str} {n m : Str}, Ch R P n → val R n = some m → Ch R (P ++ [n]) m
  | [], n, m, _, h => ⟨h, trivial⟩
  | x :: P, n, m, h, hv => by
    obtain ⟨h1, h2⟩ := h
    refine ⟨?_, h2.snoc hv⟩
    cases P with
    | nil => exact h1
    | cons y P => exact h1
theorem Ch.drop {R : List Rw} : ∀ {A B : List Str} {n : Str}, Ch R (A ++ B) n → Ch R B n
  | [], _, _, h => h
  | _ :: A, B, n, h => Ch.drop (A := A) h.2
theorem tups_eq : ∀ {A B : List (List Str)}, A.Pairwise (fun a b => HS.ltT a b = true) → B.Pairwise (fun a b => HS.ltT a b = true) → (∀ r, r ∈ A ↔ r ∈ B) → A = B
  | [], [], _, _, _ => rfl
  | [], b :: B, _, _, h => by have := (h b).mpr (List.mem_cons_self ..); cases this
  | a :: A, [], _, _, h => by have := (h a).mp (List.mem_cons_self ..); cases this
  | a :: A, b :: B, ha, hb, h => by
    have ha' := List.pairwise_cons.mp ha
    have hb' := List.pairwise_cons.mp hb
    have irr : ∀ x : List Str, HS.ltT x x = true → False := fun x hx => by
      have := HS.ltT_tot _ _ hx
      rw [this] at hx
      cases hx
    have e : a = b := by
      rcases List.mem_cons.mp ((h a).mp (List.mem_cons_self ..)) with e | e
      · exact e
      · rcases List.mem_cons.mp ((h b).mpr (List.mem_cons_self ..)) with e2 | e2
        · exact e2.symm
        · have h1 := hb'.1 a e
          have h2 := ha'.1 b e2
          rw [HS.ltT_tot _ _ h1] at h2
          cases h2
    subst e
    rw [tups_eq (A := A) (B := B) ha'.2 hb'.2 fun r => ?_]
    constructor
    · intro hr
      rcases List.mem_cons.mp ((h r).mp (List.mem_cons_of_mem _ hr)) with e | e
      · subst e; exact (irr _ (ha'.1 r hr)).elim
      · exact e
    · intro hr
      rcases List.mem_cons.mp ((h r).mpr (List.mem_cons_of_mem _ hr)) with e | e
      · subst e; exact (irr _ (hb'.1 r hr)).elim
      · exact e
end Mi
namespace Co
open PySem L2 Mi
def grp (Rs : List Rw) (g : Str) : List Str := (Rs.filter fun r => decide (r.2 = g)).map (·.1)
theorem grp_snoc (Rs : List Rw) (r : Rw) (g : Str) : grp (Rs ++ [r]) g = grp Rs g ++ (if r.2 = g then [r.1] else []) := by
  unfold grp
  rw [List.filter_append, List.map_append]
  congr 1
  by_cases h : r.2 = g
  · rw [if_pos h]; simp [h]
  · rw [if_neg h]; simp [h]
theorem putK_keys {kvs : List (Key × V)} {us : List Str} {u : Str} {v : V} (h : kvs.map (·.1) = us.map Sum.inr) : (putK kvs (Sum.inr u) v).map (·.1) = (if u ∈ us then us else us ++ [u]).map Sum.inr := by
  have hany : (kvs.any fun kv => decide (kv.1 = (Sum.inr u : Key))) = decide (u ∈ us) := by
    rw [Bool.eq_iff_iff, List.any_eq_true, decide_eq_true_eq]
    constructor
    · rintro ⟨kv, hm, e⟩
      have hk : kv.1 ∈ kvs.map (·.1) := List.mem_map.mpr ⟨kv, hm, rfl⟩
      rw [h] at hk
      obtain ⟨t, ht, e2⟩ := List.mem_map.mp hk
      have e3 : kv.1 = Sum.inr u := by simpa using e
      have e4 : (Sum.inr t : Key) = Sum.inr u := e2.trans e3
      rw [← Sum.inr.inj e4]
      exact ht
    · intro hu
      have hk : (Sum.inr u : Key) ∈ us.map Sum.inr := List.mem_map.mpr ⟨u, hu, rfl⟩
      rw [← h] at hk
      obtain ⟨kv, hm, e⟩ := List.mem_map.mp hk
      exact ⟨kv, hm, by simpa using e⟩
  unfold putK
  rw [hany]
  by_cases c : u ∈ us
  · rw [decide_eq_true c, if_pos rfl, if_pos c, List.map_map, ← h]
    refine List.map_congr_left fun kv _ => ?_
    show (if kv.1 = Sum.inr u then (kv.1, v) else kv).1 = kv.1
    split <;> rfl
  · rw [decide_eq_false c, if_neg Bool.false_ne_true, if_neg c, List.map_append, List.map_append, h]
    rfl
def GrpAt (H : Hp) (d : Addr) (Rs : List Rw) (gs : List Str) : Prop := ∃ kvs : List (Key × V), H d = some (.dK kvs) ∧ kvs.map (·.1) = gs.map Sum.inr ∧ gs.Nodup ∧ (∀ g, g ∈ gs ↔ ∃ r ∈ Rs, r.2 = g) ∧ gs.length ≤ Rs.length ∧
  ∀ g, (g ∈ gs → ∃ b, valV kvs (Sum.inr g) = some (.ref b) ∧ H b = some (.tup ((grp Rs g).map V.str))) ∧ (g ∉ gs → valV kvs (Sum.inr g) = none)
theorem GrpAt.ts {H H' : Hp} {d : Addr} {Rs : List Rw} {gs : List Str} (h : GrpAt H d Rs gs) (s : TS' H H') (hd : ∀ kvs, H d = some (.dK kvs) → H' d = some (.dK kvs)) : GrpAt H' d Rs gs := by
  obtain ⟨kvs, h1, h2, h3, h4, h5, h6⟩ := h
  refine ⟨kvs, hd _ h1, h2, h3, h4, h5, fun g => ⟨fun hg => ?_, (h6 g).2⟩⟩
  obtain ⟨b, e1, e2⟩ := (h6 g).1 hg
  exact ⟨b, e1, s _ _ e2⟩
theorem GrpAt.same {H H' : Hp} {d : Addr} {Rs : List Rw} {gs : List Str} (h : GrpAt H d Rs gs) (s : Same H H') : GrpAt H' d Rs gs := h.ts s.ts fun kvs e => s _ _ e
theorem GrpAt.get {H : Hp} {d : Addr} {Rs : List Rw} {gs : List Str} (h : GrpAt H d Rs gs) (g : Str) {e : Addr} (he : H e = some (.tup [])) : ∃ o b, DGet H d (.str g) o ∧ o.getD (.ref e) = .ref b ∧ H b = some (.tup ((grp Rs g).map V.str)) := by
  obtain ⟨kvs, h1, h2, h3, h4, h5, h6⟩ := h
  by_cases hg : g ∈ gs
  · obtain ⟨b, e1, e2⟩ := (h6 g).1 hg
    exact ⟨_, b, DGet.k (k := Sum.inr g) h1, by rw [e1]; rfl, e2⟩
  · have hn : grp Rs g = [] := by
      unfold grp
      rw [List.map_eq_nil_iff, List.filter_eq_nil_iff]
      intro r hr hc
      exact hg ((h4 g).mpr ⟨r, hr, by simpa using hc⟩)
    exact ⟨_, e, DGet.k (k := Sum.inr g) h1, by rw [(h6 g).2 hg]; rfl, by rw [hn]; exact he⟩
theorem GrpAt.at {H : Hp} {d : Addr} {Rs : List Rw} {gs : List Str} (h : GrpAt H d Rs gs) {g : Str} (hg : g ∈ gs) : ∃ b, DGet H d (.str g) (some (.ref b)) ∧ H b = some (.tup ((grp Rs g).map V.str)) := by
  obtain ⟨kvs, h1, h2, h3, h4, h5, h6⟩ := h
  obtain ⟨b, e1, e2⟩ := (h6 g).1 hg
  have := DGet.k (k := Sum.inr g) h1
  rw [e1] at this
  exact ⟨b, this, e2⟩
theorem GrpAt.put {H : Hp} {d : Addr} {Rs : List Rw} {gs : List Str} (h : GrpAt H d Rs gs) (r : Rw) {b : Addr} (hb : H b = some (.tup ((grp Rs r.2 ++ [r.1]).map V.str))) (hl : Rs.length ≤ 1000) :
    ∃ H', DPut H d (.str r.2) (.ref b) H' ∧ GrpAt H' d (Rs ++ [r]) (if r.2 ∈ gs then gs else gs ++ [r.2]) ∧ ∀ c o, c ≠ d → H c = some o → H' c = some o := by
  obtain ⟨kvs, h1, h2, h3, h4, h5, h6⟩ := h
  have hkl : kvs.length = gs.length := by have := congrArg List.length h2; rw [List.length_map, List.length_map] at this; exact this
  refine ⟨_, DPut.k (k := Sum.inr r.2) h1 (bigl _ (by omega)), ⟨_, upd_same, putK_keys h2, ?_, fun g => ?_, ?_, fun g => ?_⟩, fun c o hc e => by rw [upd_ne hc]; exact e⟩
  · by_cases c : r.2 ∈ gs
    · rw [if_pos c]; exact h3
    · rw [if_neg c, List.nodup_append]
      exact ⟨h3, by simp, fun x hx y hy e => by rw [List.mem_singleton.mp hy] at e; exact c (e ▸ hx)⟩
  · have base' : (∃ z ∈ Rs ++ [r], z.2 = g) ↔ g ∈ gs ∨ g = r.2 := by
      rw [h4]
      constructor
      · rintro ⟨z, hz, e⟩
        rcases List.mem_append.mp hz with hz | hz
        · exact .inl ⟨z, hz, e⟩
        · rw [List.mem_singleton.mp hz] at e; exact .inr e.symm
      · rintro (⟨z, hz, e⟩ | e)
        · exact ⟨z, List.mem_append_left _ hz, e⟩
        · exact ⟨r, List.mem_append_right _ (by simp), e.symm⟩
    rw [base']
    by_cases c : r.2 ∈ gs
    · rw [if_pos c]; exact ⟨.inl, fun h => h.elim id fun e => e ▸ c⟩
    · rw [if_neg c, List.mem_append, List.mem_singleton]
  · rw [List.length_append, List.length_singleton]
    by_cases c : r.2 ∈ gs
    · rw [if_pos c]; omega
    · rw [if_neg c, List.length_append, List.length_singleton]; omega
  · have ndb : ∀ b' xs, H b' = some (.tup xs) → (upd H d (.dK (putK kvs (Sum.inr r.2) (.ref b))) : Hp) b' = some (.tup xs) := fun b' xs e => by
      rw [upd_ne (fun z => by rw [z, h1] at e; cases e)]; exact e
    rw [grp_snoc, valV_put]
    by_cases e : g = r.2
    · subst e
      have c1 : (if (Sum.inr r.2 : Key) = Sum.inr r.2 then some (V.ref b) else valV kvs (Sum.inr r.2)) = some (V.ref b) := if_pos rfl
      have c2 : (if r.2 = r.2 then [r.1] else []) = [r.1] := if_pos rfl
      rw [c1, c2]
      refine ⟨fun _ => ⟨b, rfl, ndb _ _ hb⟩, fun hn => absurd ?_ hn⟩
      by_cases c : r.2 ∈ gs
      · rw [if_pos c]; exact c
      · rw [if_neg c]; exact List.mem_append_right _ (by simp)
    · rw [if_neg (fun z => e (Sum.inr.inj z)), if_neg (Ne.symm e), List.append_nil]
      have hg : (g ∈ if r.2 ∈ gs then gs else gs ++ [r.2]) ↔ g ∈ gs := by
        by_cases c : r.2 ∈ gs
        · rw [if_pos c]
        · rw [if_neg c, List.mem_append, List.mem_singleton]
          exact ⟨fun h => h.elim id fun z => absurd z e, .inl⟩
      rw [hg]
      refine ⟨fun h => ?_, (h6 g).2⟩
      obtain ⟨b', e1, e2⟩ := (h6 g).1 h
      exact ⟨b', e1, ndb _ _ e2⟩
def TurnAt (H : Hp) (p : Addr) (U : List (Str × List Str)) : Prop := ∃ qs : List (Addr × Str × Addr × List Str), H p = some (.tup (qs.map fun q => V.ref q.1)) ∧ (∀ q ∈ qs, H q.1 = some (.tup [.str q.2.1, .ref q.2.2.1]) ∧ H q.2.2.1 = some (.tup (q.2.2.2.map V.str))) ∧ qs.map (fun q => (q.2.1, q.2.2.2)) = U
theorem TurnAt.ts {H H' : Hp} {p : Addr} {U : List (Str × List Str)} (h : TurnAt H p U) (s : TS' H H') : TurnAt H' p U := by
  obtain ⟨qs, h1, h2, h3⟩ := h
  exact ⟨qs, s _ _ h1, fun q hq => ⟨s _ _ (h2 q hq).1, s _ _ (h2 q hq).2⟩, h3⟩
end Co
namespace Co
open PySem L2 Mi
end Co
namespace Mi
open PySem L2
end Mi
namespace Co
open PySem L2 Mi
def St1 (K : PySem.W.Frag) (a t : Addr) (ns : List Int) (n : Nat) (H : Hp) : Prop := (∃ zs, H t = some (.lst zs) ∧ zs.length ≤ n) ∧ Scr K H a ns
theorem St1.same {K : PySem.W.Frag} {a t : Addr} {ns : List Int} {n : Nat} {H H' : Hp} (h : St1 K a t ns n H) (s : Same H H') : St1 K a t ns n H' := by
  obtain ⟨⟨zs, h1, h2⟩, h3⟩ := h
  exact ⟨⟨zs, s _ _ h1, h2⟩, h3.same s⟩
theorem St1.up {K : PySem.W.Frag} {a t : Addr} {ns : List Int} {n m : Nat} {H : Hp} (h : St1 K a t ns n H) (hm : n ≤ m) : St1 K a t ns m H := by
  obtain ⟨⟨zs, h1, h2⟩, h3⟩ := h
  exact ⟨⟨zs, h1, by omega⟩, h3⟩
theorem St1.drawn {K : PySem.W.Frag} {a t : Addr} {ns : List Int} {n m : Nat} {H H' : Hp} {zs zs' : List V} (h : St1 K a t ns n H) (h0 : H t = some (.lst zs)) (h1 : H' t = some (.lst zs')) (hl : zs'.length ≤ m) (s : Stp t H H') : St1 K a t ns m H' ∧ TS' H H' :=
  ⟨⟨⟨_, h1, hl⟩, h.2.stp h0 s⟩, s.ts h0⟩
theorem St1.frz {K : PySem.W.Frag} {a t g : Addr} {ns : List Int} {n : Nat} {H : Hp} {o : Obj} {kvs : List (Key × V)} (h : St1 K a t ns n H) (hg : H g = some (.dK kvs)) : St1 K a t ns n (upd H g (.frz o (.dK kvs))) ∧ TS' H (upd H g (.frz o (.dK kvs))) := by
  obtain ⟨⟨zs, h1, h2⟩, h3⟩ := h
  refine ⟨⟨⟨zs, by rw [upd_ne (fun e => by rw [e, hg] at h1; cases h1)]; exact h1, h2⟩, ?_⟩, fun b xs hb => ?_⟩
  · rcases h3 with ⟨o', h3⟩ | h3
    · exact .inl ⟨o', by rw [upd_ne (fun e => by rw [e, hg] at h3; cases h3)]; exact h3⟩
    · exact .inr h3
  · rw [upd_ne (fun e => by rw [e, hg] at hb; cases hb)]; exact hb
end Co
namespace Mi
open PySem L2
def nx (R : List Rw) (n : Str) : Str := (val R n).getD n
def it (R : List Rw) : Nat → Str → Str
  | 0, n => n
  | k + 1, n => it R k (nx R n)
theorem it_add (R : List Rw) : ∀ (j k : Nat) (n : Str), it R (j + k) n = it R k (it R j n)
  | 0, k, n => by rw [Nat.zero_add]; rfl
  | j + 1, k, n => by
    rw [Nat.succ_add]
    exact it_add R j k (nx R n)
theorem it_succ' (R : List Rw) (k : Nat) (n : Str) : it R (k + 1) n = nx R (it R k n) := it_add R k 1 n
theorem nx_none {R : List Rw} {n : Str} (h : val R n = none) : nx R n = n := by unfold nx; rw [h]; rfl
theorem nx_some {R : List Rw} {n m : Str} (h : val R n = some m) : nx R n = m := by unfold nx; rw [h]; rfl
theorem it_fix {R : List Rw} {e : Str} (h : val R e = none) : ∀ k, it R k e = e
  | 0 => rfl
  | k + 1 => by show it R k (nx R e) = e; rw [nx_none h]; exact it_fix h k
structure Cyc (R : List Rw) (h : Str) (l : Nat) : Prop where
  pos : 0 < l
  back : it R l h = h
  first : ∀ i, 0 < i → i < l → it R i h ≠ h
  go : ∀ i, val R (it R i h) ≠ none
def orb (R : List Rw) (h : Str) (l : Nat) : List Str := (List.range l).map fun i => it R i h
theorem orb_len (R : List Rw) (h : Str) (l : Nat) : (orb R h l).length = l := by unfold orb; rw [List.length_map, List.length_range]
theorem orb_get {R : List Rw} {h : Str} {l i : Nat} (hi : i < l) : (orb R h l)[i]? = some (it R i h) := by
  unfold orb
  rw [List.getElem?_map, List.getElem?_range hi]; rfl
theorem orb_mem {R : List Rw} {h x : Str} {l : Nat} : x ∈ orb R h l ↔ ∃ i, i < l ∧ it R i h = x := by
  unfold orb
  simp [List.mem_map, List.mem_range]
theorem Cyc.mul {R : List Rw} {h : Str} {l : Nat} (c : Cyc R h l) : ∀ q, it R (q * l) h = h
  | 0 => by rw [Nat.zero_mul]; rfl
  | q + 1 => by rw [Nat.succ_mul, it_add, c.mul q, c.back]
theorem Cyc.mem {R : List Rw} {h : Str} {l : Nat} (c : Cyc R h l) (k : Nat) : it R k h ∈ orb R h l := by
  refine orb_mem.mpr ⟨k % l, Nat.mod_lt _ c.pos, ?_⟩
  conv => rhs; rw [← Nat.div_add_mod k l, Nat.mul_comm, it_add, c.mul]
theorem Cyc.turn {R : List Rw} {h : Str} {l i : Nat} (c : Cyc R h l) (hi : i < l) : Cyc R (it R i h) l ∧ (orb R h l).drop i ++ (orb R h l).take i = orb R (it R i h) l := by
  refine ⟨⟨c.pos, ?_, fun j h0 hj e => ?_, fun j => ?_⟩, ?_⟩
  · rw [← it_add, Nat.add_comm, it_add, c.back]
  · have e2 : it R (l - i) (it R i h) = h := by rw [← it_add, show i + (l - i) = l by omega, c.back]
    have e3 : it R j h = h := by
      conv => lhs; rw [← e2]
      rw [← it_add, Nat.add_comm, it_add, e, e2]
    exact c.first j h0 hj e3
  · rw [← it_add]; exact c.go _
  · refine List.ext_getElem? fun j => ?_
    by_cases hj : j < l
    · rw [orb_get hj]
      by_cases hd : j < l - i
      · rw [List.getElem?_append_left (by rw [List.length_drop, orb_len]; exact hd), List.getElem?_drop, orb_get (by omega), it_add]
      · rw [List.getElem?_append_right (by rw [List.length_drop, orb_len]; omega), List.length_drop, orb_len, List.getElem?_take, if_pos (by omega), orb_get (by omega)]
        rw [← it_add, show i + j = l + (j - (l - i)) by omega, it_add, c.back]
    · rw [List.getElem?_eq_none (by rw [List.length_append, List.length_drop, List.length_take, orb_len]; omega), List.getElem?_eq_none (by rw [orb_len]; omega)]
theorem best_is (g : Nat → Str) : ∀ k i, i ≤ k → HS.ltS (g i) (g (argBest (fun i j => HS.ltS (g i) (g j)) k)) = false
  | 0, i, hi => by
    have : i = 0 := by omega
    subst this
    exact HS.ltS_irr _
  | k + 1, i, hi => by
    have ih := best_is g k
    have e : argBest (fun i j => HS.ltS (g i) (g j)) (k + 1) = if HS.ltS (g (k + 1)) (g (argBest (fun i j => HS.ltS (g i) (g j)) k)) then k + 1 else argBest (fun i j => HS.ltS (g i) (g j)) k := rfl
    rw [e]
    cases h : HS.ltS (g (k + 1)) (g (argBest (fun i j => HS.ltS (g i) (g j)) k)) with
    | true =>
      rw [if_pos rfl]
      by_cases hk : i = k + 1
      · rw [hk]; exact HS.ltS_irr _
      · exact HS.ltS_tr _ _ _ (HS.ltS_tot _ _ h) (ih i (by omega))
    | false =>
      rw [if_neg Bool.false_ne_true]
      by_cases hk : i = k + 1
      · rw [hk]; exact h
      · exact ih i (by omega)
structure Rg (R : List Rw) (u : List Str) (h : Str) (l : Nat) : Prop where
  is : u = orb R h l
  cyc : Cyc R h l
  min : ∀ x ∈ u, HS.ltS x h = false
theorem Rg.len {R : List Rw} {u : List Str} {h : Str} {l : Nat} (r : Rg R u h l) : u.length = l := by rw [r.is, orb_len]
theorem Rg.get {R : List Rw} {u : List Str} {h : Str} {l i : Nat} (r : Rg R u h l) (hi : i < l) : u[i]? = some (it R i h) := by rw [r.is]; exact orb_get hi
theorem Rg.next {R : List Rw} {u : List Str} {h x : Str} {l i : Nat} (r : Rg R u h l) (hx : u[i]? = some x) : ∃ y, val R x = some y ∧ (if i + 1 < l then u[i + 1]? = some y else y = h) := by
  have hi : i < l := by rw [← r.len]; exact (List.getElem?_eq_some_iff.mp hx).1
  rw [r.get hi] at hx
  injection hx with hx
  have hg := r.cyc.go i
  cases hv : val R (it R i h) with
  | none => exact absurd hv hg
  | some y =>
    have e : it R (i + 1) h = y := by rw [it_succ', nx_some hv]
    refine ⟨y, by rw [← hx]; exact hv, ?_⟩
    by_cases c : i + 1 < l
    · rw [if_pos c, r.get c, e]
    · rw [if_neg c, ← e, show i + 1 = l by omega, r.cyc.back]
theorem Rg.nd {R : List Rw} {u : List Str} {h : Str} {l i j : Nat} (r : Rg R u h l) (hi : i < j) (hj : j < l) : it R i h ≠ it R j h := fun e => by
  have e2 : it R (l - j + i) h = h := by
    rw [Nat.add_comm, it_add, e, ← it_add, show j + (l - j) = l by omega, r.cyc.back]
  exact r.cyc.first (l - j + i) (by omega) (by omega) e2
theorem Rg.same {R : List Rw} {u u' : List Str} {h h' x : Str} {l l' : Nat} (r : Rg R u h l) (r' : Rg R u' h' l') (h1 : x ∈ u) (h2 : x ∈ u') : u = u' := by
  have key : ∀ {u u' : List Str} {h h' : Str} {l l' : Nat}, Rg R u h l → Rg R u' h' l' → x ∈ u → x ∈ u' → h ∈ u' := fun {u u' h h' l l'} r r' h1 h2 => by
    rw [r.is] at h1
    rw [r'.is] at h2 ⊢
    obtain ⟨i, hi, e⟩ := orb_mem.mp h1
    obtain ⟨j, hj, e'⟩ := orb_mem.mp h2
    have e3 : it R (j + (l - i)) h' = h := by rw [it_add, e', ← e, ← it_add, show i + (l - i) = l by omega, r.cyc.back]
    rw [← e3]
    exact r'.cyc.mem _
  have hh : h = h' := HS.ltS_tri (r'.min h (key r r' h1 h2)) (r.min h' (key r' r h2 h1))
  subst hh
  have hl : l = l' := by
    rcases Nat.lt_trichotomy l l' with c | c | c
    · exact absurd r.cyc.back (r'.cyc.first l r.cyc.pos c)
    · exact c
    · exact absurd r'.cyc.back (r.cyc.first l' r'.cyc.pos c)
  rw [r.is, r'.is, hl]
end Mi
namespace Co
open PySem L2 Mi
theorem dat_strs {K : PySem.W.Frag} {H : Hp} : ∀ ts : List Str, AreDat K H (ts.map Dat.str) (ts.map V.str)
  | [] => rfl
  | t :: ts => ⟨_, _, rfl, rfl, dat_strs ts⟩
theorem hu8 {A : Around} {k : Nat} (hr : Room k A) : A.units + 8 < cLine := Nat.lt_of_le_of_lt (Nat.add_le_add_left (by decide : 8 ≤ 64) _) hr.units
abbrev tupD (u : List Str) : Dat := .tup (u.map Dat.str)
theorem deeps0 : ∀ u : List Str, Dat.deeps (u.map Dat.str) = 0
  | [] => rfl
  | t :: u => by show max 0 (Dat.deeps (u.map Dat.str)) = 0; rw [deeps0 u]; rfl
theorem dat_tups {K : PySem.W.Frag} {H : Hp} : ∀ {rs : List (Addr × List Str)}, (∀ r ∈ rs, H r.1 = some (.tup (r.2.map V.str))) → AreDat K H ((rs.map (·.2)).map tupD) (rs.map fun r => V.ref r.1)
  | [], _ => rfl
  | r :: rs, h => ⟨_, _, rfl, ⟨r.1, _, rfl, SqT.of (h r (List.mem_cons_self ..)), dat_strs _⟩, dat_tups fun q hq => h q (List.mem_cons_of_mem _ hq)⟩
theorem deep_tups : ∀ T : List (List Str), Dat.deeps (T.map tupD) ≤ 3
  | [] => by decide
  | u :: T => by
    have ih := deep_tups T
    have e : Dat.deeps ((u :: T).map tupD) = max (Dat.deeps (u.map Dat.str) + 1) (Dat.deeps (T.map tupD)) := rfl
    rw [e, deeps0]
    omega
end Co
namespace L2
open PySem PySem.Spec PyProof.Rows
section
variable {X : Cx} {pos : Pos}
end
end L2
namespace HD
open PySem
section
variable {prog : Program} {w : World} {A : Around} {E : Value → Shared → Prop} {s : Shared} {K : Type} [DecidableEq K] {knd : KeyKind prog w K}
def mergedH (xs ms : List (List K × Addr × Value)) : List (List K × Addr × Value) := ms.foldl (fun acc m => storedH acc m.1 m.2.1 m.2.2) xs
theorem mergedH_take (xs ms : List (List K × Addr × Value)) (i : Nat) (m : List K × Addr × Value) (h : ms[i]? = some m) : mergedH xs (ms.take (i + 1)) = storedH (mergedH xs (ms.take i)) m.1 m.2.1 m.2.2 := by
  unfold mergedH
  rw [List.take_add_one, h, List.foldl_append]
  rfl
theorem mem_storedH {xs : List (List K × Addr × Value)} {k : List K} {a : Addr} {v : Value} {x : List K × Addr × Value} (h : x ∈ storedH xs k a v) : (∃ y ∈ xs, x.1 = y.1 ∧ x.2.1 = y.2.1) ∨ (x.1 = k ∧ x.2.1 = a) := by
  unfold storedH at h
  split at h
  · obtain ⟨y, hy, rfl⟩ := List.mem_map.mp h
    refine .inl ⟨y, hy, ?_⟩
    unfold putAt
    split <;> exact ⟨rfl, rfl⟩
  · rcases List.mem_append.mp h with h | h
    · exact .inl ⟨x, h, rfl, rfl⟩
    · rw [List.mem_singleton.mp h]; exact .inr ⟨rfl, rfl⟩
theorem storedH_len (xs : List (List K × Addr × Value)) (k : List K) (a : Addr) (v : Value) : (storedH xs k a v).length ≤ xs.length + 1 := by
  unfold storedH
  split
  · rw [List.length_map]; omega
  · rw [List.length_append, List.length_singleton]; omega
theorem mergedH_len : ∀ (ms xs : List (List K × Addr × Value)), (mergedH xs ms).length ≤ xs.length + ms.length
  | [], xs => Nat.le_refl _
  | m :: ms, xs => by
    have h1 := mergedH_len ms (storedH xs m.1 m.2.1 m.2.2)
    have h2 := storedH_len xs m.1 m.2.1 m.2.2
    show (mergedH (storedH xs m.1 m.2.1 m.2.2) ms).length ≤ xs.length + (ms.length + 1)
    omega
theorem mem_mergedH : ∀ {ms xs : List (List K × Addr × Value)} {x : List K × Addr × Value}, x ∈ mergedH xs ms → (∃ y ∈ xs, x.1 = y.1 ∧ x.2.1 = y.2.1) ∨ ∃ y ∈ ms, x.1 = y.1 ∧ x.2.1 = y.2.1
  | [], xs, x, h => .inl ⟨x, h, rfl, rfl⟩
  | m :: ms, xs, x, h => by
    rcases mem_mergedH (ms := ms) (xs := storedH xs m.1 m.2.1 m.2.2) h with ⟨y, hy, e1, e2⟩ | ⟨y, hy, e⟩
    · rcases mem_storedH hy with ⟨z, hz, f1, f2⟩ | ⟨f1, f2⟩
      · exact .inl ⟨z, hz, e1.trans f1, e2.trans f2⟩
      · exact .inr ⟨m, List.mem_cons_self .., e1.trans f1, e2.trans f2⟩
    · exact .inr ⟨y, List.mem_cons_of_mem _ hy, e⟩
theorem dictH_move {h h' : Heap} {d : Addr} {xs : List (List K × Addr × Value)} (hm : h.DictOfH (tupleKind knd) d xs) (hd : ∀ o, h.get? d = some o → h'.get? d = some o) (hk : ∀ x ∈ xs, (tupleKind knd).is h' x.1 x.2.1) : h'.DictOfH (tupleKind knd) d xs := by
  obtain ⟨o, es, ep, ho, hc, hdd, he, _, hn⟩ := hm
  exact ⟨o, es, ep, hd o ho, hc, hdd, he, hk, hn⟩
theorem is_kept {h0 h : Heap} {d it b : Addr} {k : List K} (hi : (tupleKind knd).is h0 k b) (hd0 : h0.get? d = none) (hi0 : h0.get? it = none) (kp : ∀ b o, b ≠ d → b ≠ it → h0.get? b = some o → h.get? b = some o) : (tupleKind knd).is h k b := by
  obtain ⟨o, its, n, ho, r⟩ := hi
  exact ⟨o, its, n, kp b o (fun z => by rw [z, hd0] at ho; cases ho) (fun z => by rw [z, hi0] at ho; cases ho) ho, r⟩
theorem keys_kept {h0 h : Heap} {d it : Addr} {ms : List (List K × Addr × Value)} (hi : ∀ m ∈ ms, (tupleKind knd).is h0 m.1 m.2.1) (hd0 : h0.get? d = none) (hi0 : h0.get? it = none) (kp : ∀ b o, b ≠ d → b ≠ it → h0.get? b = some o → h.get? b = some o) : ∀ x ∈ mergedH [] ms, (tupleKind knd).is h x.1 x.2.1 := fun x hx => by
  rcases mem_mergedH hx with ⟨y, hy, _⟩ | ⟨y, hy, e1, e2⟩
  · cases hy
  · rw [e1, e2]; exact is_kept (hi y hy) hd0 hi0 kp
def PairsAtH (knd : KeyKind prog w K) (h : Heap) (its : List Value) (ms : List (List K × Addr × Value)) : Prop :=
  its.length = ms.length ∧ (∀ (j : Nat) (v : Value) (m : List K × Addr × Value), its[j]? = some v → ms[j]? = some m → ∃ b ob n, v = Value.ref b ∧ h.get? b = some ob ∧ ob.cls = .type "tuple" ∧ ob.data = .seq #[.ref m.2.1, m.2.2] n) ∧ ∀ m ∈ ms, (tupleKind knd).is h m.1 m.2.1
structure StH (knd : KeyKind prog w K) (h0 : Heap) (its : List Value) (ms : List (List K × Addr × Value)) (a d it : Addr) (i : Nat) (h : Heap) : Prop where
  tup : h.IsList a its.toArray
  iter : h.IsListIter it a i
  dict : h.DictOfH (tupleKind knd) d (mergedH [] (ms.take i))
  keep : ∀ b o, b ≠ d → b ≠ it → h0.get? b = some o → h.get? b = some o
theorem upd_loopH {its : List Value} {ms : List (List K × Addr × Value)} {a d it : Addr} {h0 : Heap} {R : Result → Shared → Prop} (hh : A.handled = none) (hu : A.units + 1 < cLine) (hP : PairsAtH knd h0 its ms) (hd : a ≠ d) (hit : a ≠ it) (hdi : d ≠ it) (hz : its.length ≤ 1000)
    (hd0 : h0.get? d = none) (hi0 : h0.get? it = none) (hml : ∀ i, (mergedH [] (ms.take i)).length ≤ 1000)
    (hR : ∀ h tk, h.DictOfH (tupleKind knd) d (mergedH [] ms) → (∀ b o, b ≠ d → b ≠ it → h0.get? b = some o → h.get? b = some o) → R (.ok (.ret .none)) { s with heap := h, toks := tk }) :
    ∀ (m i : Nat) (h : Heap) (tk : Nat), its.length - i = m → i ≤ its.length → StH knd h0 its ms a d it i h → codeAny (model prog w) A (.builtin "dict.update.loop" ⟨[.ref d, .ref it, rawInt (i : Int), .none], []⟩) R { s with heap := h, toks := tk } := by
  intro m
  induction m with
  | zero =>
    intro i h tk hm hi st
    refine codeAny_builtin entry_loop ?_
    rw [Around.under_plainId plain_loop _]
    show wpAny _ A.in1 (pyNext (.ref it) >>= _) _ _ _
    refine wpAny_bind (wpAny_pyNext_list_end hh st.iter st.tup (by simp; omega) fun h' hk' => ?_)
    dsimp only
    refine wpAny_bind (m := Builtin.Dict.addKeywords d []) (wpAny_pure (wpAny_pure (hR h' _ ?_ ?_)))
    · have e : ms.take i = ms := List.take_of_length_le (by have := hP.1; omega)
      have := st.dict
      rw [e] at this
      exact dictH_move this (fun o ho => hk' d o hdi ho) (keys_kept hP.2.2 hd0 hi0 fun b o n1 n2 e => hk' b o n2 (st.keep b o n1 n2 e))
    · intro b o n1 n2 e
      exact hk' b o n2 (st.keep b o n1 n2 e)
  | succ m ih =>
    intro i h tk hm hi st
    refine codeAny_builtin entry_loop ?_
    rw [Around.under_plainId plain_loop _]
    have hlt : i < its.length := by omega
    have hlk : i < ms.length := by have := hP.1; omega
    have hgi : its[i]? = some its[i] := List.getElem?_eq_getElem hlt
    have hgk : ms[i]? = some ms[i] := List.getElem?_eq_getElem hlk
    obtain ⟨b, ob, n, ev, hb, hbc, hbd⟩ := hP.2.1 i _ _ hgi hgk
    have nb1 : b ≠ d := fun z => by rw [z, hd0] at hb; cases hb
    have nb2 : b ≠ it := fun z => by rw [z, hi0] at hb; cases hb
    show wpAny _ A.in1 (pyNext (.ref it) >>= _) _ _ _
    refine wpAny_bind (wpAny_pyNext_list_item (x := its[i]) st.iter st.tup (by simp [hlt]) fun h1 hI1 hs1 => ?_)
    rw [ev]
    dsimp only
    have hb1 : h1.get? b = some ob := (hs1.2 b nb2).trans (st.keep b ob nb1 nb2 hb)
    have ty : ∀ tk', Shared.TypeIs ⟨h1, s.gens, s.drawn, tk', s.os⟩ (.ref b) "tuple" := fun _ => ⟨ob, hb1, hbc⟩
    have kp1 : ∀ b' o', b' ≠ d → b' ≠ it → h0.get? b' = some o' → h1.get? b' = some o' := fun b' o' n1 n2 e => (hs1.2 b' n2).trans (st.keep b' o' n1 n2 e)
    have hD1 : h1.DictOfH (tupleKind knd) d (mergedH [] (ms.take i)) := dictH_move st.dict (fun o ho => (hs1.2 d hdi).trans ho) (keys_kept (fun m hm => hP.2.2 m (List.mem_of_mem_take hm)) hd0 hi0 kp1)
    have hkey : (tupleKind knd).is h1 ms[i].1 ms[i].2.1 := is_kept (hP.2.2 _ (List.getElem_mem hlk)) hd0 hi0 kp1
    refine wpAny_bind (wpAny_holding (wpAny_bind (wpAny_tryCatch ?_)))
    unfold Builtin.Dict.pairItems
    refine wpAny_bind (wpAny_typeOf (ty _) ?_)
    rw [if_pos (by decide)]
    refine wpAny_bind (wpAny_seqItems hb1 hbd (wpAny_pure ?_))
    show wpAny _ _ (holding [Value.ref ms[i].2.1, ms[i].2.2] (dictSet d (Value.ref ms[i].2.1) ms[i].2.2)) _ _ _
    refine wpAny_holding (wpAny_dictSet_heap (s := ⟨h1, s.gens, s.drawn, _, s.os⟩) (knd := tupleKind knd) (show A.in1.units < cLine from hu) hkey hD1 (fun h2 hd2 hs2 => ?_) (by have := hml i; rw [sizeLine_eq]; omega))
    refine wpAny_pure ⟨plainId_quiet plain_loop _, ih (i + 1) h2 _ (by omega) (by omega) ⟨?_, ?_, ?_, ?_⟩⟩
    · obtain ⟨o, ho, r⟩ := st.tup
      exact list_same ⟨o, (hs1.2 a hit).trans ho, r⟩ hs2 hd
    · exact iter_sameL hI1 hs2 hdi.symm
    · rw [mergedH_take [] ms i ms[i] hgk]
      exact hd2
    · intro b' o' n1 n2 e
      exact (hs2.2 b' n1).trans ((hs1.2 b' n2).trans (st.keep b' o' n1 n2 e))
theorem call_dictH {a : Addr} {o : Obj} {its : List Value} {n : Nat} {ms : List (List K × Addr × Value)} {Q : Value → Shared → Prop} (hh : A.handled = none) (hu : A.units + 2 < cLine) (ho : s.heap.get? a = some o) (hc : o.cls = .type "list") (hdat : o.data = .seq its.toArray n) (hdn : o.dict = none)
    (hP : PairsAtH knd s.heap its ms) (hz : its.length ≤ 1000)
    (h : ∀ h' tk, h'.DictOfH (tupleKind knd) s.heap.objs.size (mergedH [] ms) → (∀ b o, s.heap.get? b = some o → h'.get? b = some o) → Q (.ref s.heap.objs.size) { s with heap := h', toks := tk }) :
    wpAny (model prog w) A (call (.type "dict") [.ref a]) Q E s := by
  refine callType_codes (Q₁ := fun ob1 s₁ => ob1 = .ref s.heap.objs.size ∧ s₁ = { s with heap := s.heap.push { cls := .type "dict", data := .dict #[] } }) F.kt_called_dict (F.kt_typeCall_dict_1 _) F.entry_dict_init (kt_code_dict_new _ ⟨rfl, rfl⟩) ?_
  rintro ob1 s₁ ⟨rfl, rfl⟩
  have fresh0 : (s.heap.push { cls := .type "dict", data := .dict #[] }).DictOfH (tupleKind knd) s.heap.objs.size [] := Heap.DictOfH.new s.heap
  have hsz1 : (s.heap.push { cls := .type "dict", data := .dict #[] }).objs.size = s.heap.objs.size + 1 := Heap.size_push ..
  have al : a < s.heap.objs.size := Heap.lt_size ho
  have hoa : (s.heap.push { cls := .type "dict", data := .dict #[] }).get? a = some o := Heap.get?_push_of_some _ ho
  refine ⟨fresh0.typeIs, F.args_dict_init_2 _ _, ?_⟩
  unfold Builtin.«dict.__init__»
  refine wpAny_bind ?_
  unfold Builtin.Dict.selfAndRest
  refine wpAny_bind (wpAny_notOrdered_dict fresh0.typeIs ?_)
  show wpAny _ _ (pure (s.heap.objs.size, [Value.ref a])) _ _ _
  refine wpAny_pure ?_
  show wpAny _ _ (Builtin.Dict.updateFrom "dict.__init__" s.heap.objs.size (.ref a) [] .none) _ _ _
  unfold Builtin.Dict.updateFrom
  refine wpAny_bind (wpAny_typeOf (T := "list") ⟨o, hoa, hc⟩ ?_)
  rw [if_pos (by decide)]
  refine wpAny_bind (keys_list hoa hc hdat hdn hh fun h2 tk2 k2 => ?_)
  rw [if_pos (show (none : Option Value).isNone = true from rfl)]
  refine wpAny_bind (wpAny_rule ?_)
  have ht2 : h2.IsList a its.toArray := ⟨o, k2 a o hoa, hc, n, hdat⟩
  refine wpAny_bind (wpAny_pyIter_list ht2 ?_)
  obtain ⟨od, _, _, hod, _⟩ := id fresh0
  have dl : s.heap.objs.size < h2.objs.size := Heap.lt_size (k2 _ _ hod)
  have e0 : rawInt 0 = rawInt ((0 : Nat) : Int) := rfl
  rw [e0]
  refine wpAny_pure ⟨plainId_quiet plain_loop _, upd_loopH (A := A.in1) (s := s) (knd := knd) (h0 := s.heap) (ms := ms) (its := its) (a := a) hh (show A.in1.units + 1 < cLine from hu) hP (Nat.ne_of_lt al) (Nat.ne_of_lt (Nat.lt_trans al dl)) (Nat.ne_of_lt dl) hz (Heap.get?_none_of_le (Nat.le_refl _)) (Heap.get?_none_of_le (Nat.le_of_lt dl))
    (fun i => ?_) (fun h' tk hD hk => ⟨rfl, h h' tk hD fun b ob e => hk b ob (Nat.ne_of_lt (Heap.lt_size e)) (Nat.ne_of_lt (Nat.lt_trans (Heap.lt_size e) dl)) e⟩) its.length 0 _ _ (by simp) (Nat.zero_le _) ⟨?_, ?_, ?_, ?_⟩⟩
  · have e1 := mergedH_len (ms.take i) []
    have e2 : (ms.take i).length ≤ ms.length := by rw [List.length_take]; omega
    have e3 := hP.1
    simp only [List.length_nil] at e1
    omega
  · exact Heap.IsList.push ht2 _
  · exact ⟨_, Heap.get?_push_size _ rfl, rfl, rfl⟩
  · rw [List.take_zero]
    have hd2 : h2.DictOfH (tupleKind knd) s.heap.objs.size [] := dictH_move fresh0 (fun o ho => k2 _ _ ho) fun _ hx => by cases hx
    exact dictH_move hd2 (fun o ho => Heap.get?_push_of_some _ ho) fun _ hx => by cases hx
  · intro b ob _ _ e
    exact Heap.get?_push_of_some _ (k2 b ob (Heap.get?_push_of_some _ e))
end
end HD
namespace L2
open PySem PySem.Spec PyProof.Rows
section
variable {X : Cx}
def mergeT (kvs more : List (List Key × V)) : List (List Key × V) := more.foldl (fun acc kv => putK acc kv.1 kv.2) kvs
def PairsT (K : PySem.W.Frag) (H : Hp) (ys : List V) (kvs : List (List Key × V)) : Prop := Paired (fun (v : V) (kx : List Key × V) => ∃ b c, v = .ref b ∧ SqT K H b [.ref c, kx.2] ∧ H c = some (.tup (kx.1.map kV))) ys kvs
theorem pairs_atH {pins : List (Addr × Obj)} {σ : St} {H : Hp} {s : Shared} (I : Inv X pins σ H s) : ∀ {ys : List V} {kvs : List (List Key × V)} {its : List Value}, PairsT X.K H ys kvs → Vals ys its → ∃ ms : List (List Key × Addr × Value), KT H kvs ms ∧ HD.PairsAtH (mixKind X.prog X.w) s.heap its ms
  | _, _, _, .nil, .nil => ⟨[], .nil, rfl, (fun j v kx e => by simp at e), fun m hm => by cases hm⟩
  | _ :: _, kx :: _, _ :: _, .cons hp r, .cons rv rr => by
    obtain ⟨b, c, rfl, hq, hc⟩ := hp
    cases rv
    obtain ⟨ms, kt, hl, hat, his⟩ := pairs_atH I r rr
    obtain ⟨its2, r2, p2, _⟩ := I.tuple hq
    obtain ⟨o, ho, hcl, n, hd⟩ := p2
    cases r2 with
    | cons rk rx =>
      cases rx with
      | cons rx rn =>
        cases rn
        cases rk
        rename_i val
        refine ⟨(kx.1, c, val) :: ms, .cons ⟨rfl, hc, rx⟩ kt, by rw [List.length_cons, List.length_cons, hl], fun j v m e1 e2 => ?_, fun m hm => ?_⟩
        · cases j with
          | zero =>
            cases e1; cases e2
            exact ⟨b, o, n, rfl, ho, hcl, hd⟩
          | succ j => exact hat j v m (by simpa using e1) (by simpa using e2)
        · rcases List.mem_cons.mp hm with rfl | hm
          · exact key_of I.hok hc
          · exact his m hm
theorem KT.merge {H : Hp} : ∀ {more acc : List (List Key × V)} {ms xs : List (List Key × Addr × Value)}, KT H more ms → KT H acc xs → KT H (mergeT acc more) (HD.mergedH xs ms) := by
  intro more acc ms xs r
  unfold KT at r
  induction r generalizing acc xs with
  | nil => intro q; exact q
  | @cons p q ps qs hq t ih =>
    intro hx
    have := KT.put hx p.1 (b := q.2.1) hq.2.1 hq.2.2
    rw [hq.1] at this
    refine ih (acc := putK acc p.1 p.2) (xs := storedH xs q.1 q.2.1 q.2.2) ?_
    rw [hq.1]
    exact this
theorem length_mergeT : ∀ (more kvs : List (List Key × V)), (mergeT kvs more).length ≤ kvs.length + more.length
  | [], kvs => Nat.le_refl _
  | m :: more, kvs => by
    have h1 := length_mergeT more (putK kvs m.1 m.2)
    have h2 := length_putK kvs m.1 m.2
    show (mergeT (putK kvs m.1 m.2) more).length ≤ kvs.length + (more.length + 1)
    omega
theorem call_dictLT (hc : X.calm = true) (hu : X.A.units + 8 < cLine) : CallR X (.type "dict") (fun xs H Q => ∃ a ys kvs, xs = [.ref a] ∧ H a = some (.lst ys) ∧ PairsT X.K H ys kvs ∧ ys.length ≤ 1000 ∧ ∀ p, H p = none → Q (.ref p) (upd H p (.dT (mergeT [] kvs)))) := by
  intro pins s σ H xs us Q I r h
  obtain ⟨a, ys, kvs, rfl, hH, hp, hz, q⟩ := h
  obtain ⟨u, rfl, ru⟩ := vals1 r
  cases ru
  obtain ⟨z, its, n, ri, hl, ho⟩ := I.lstM hH
  obtain ⟨ms, kt, hP⟩ := pairs_atH I hp ri
  have lk : kvs.length ≤ 1000 := by
    have e1 := Paired.length kt
    have e2 := hP.1
    omega
  refine HD.call_dictH (I.ok.hd hc) (by omega) ho rfl rfl rfl hP (by omega) fun h' tk hD k => ?_
  have hm := length_mergeT kvs []
  obtain ⟨o, es, ep, hq, h2, h3, h4, _, h5⟩ := hD
  have I2 : Inv X pins σ (upd H s.heap.objs.size (.dT (mergeT [] kvs))) { s with heap := h', toks := tk } := by
    refine I.laid (h' := h') (t' := tk) (o := .dT (mergeT [] kvs)) k (Nat.le_refl _) ⟨by rw [sizeLine_eq]; simp only [List.length_nil] at hm; omega, beq_eq_false_iff_ne.mpr (Ne.symm (Nat.ne_of_lt I.big)), HD.mergedH [] ms, (KT.merge kt .nil).keeps fun c zs ec => ?_, o, es, ep, hq, h2, h3, h4, h5⟩
    rw [upd_ne (ne_of_none ec I.fresh)]
    exact ec
  exact ⟨.ref s.heap.objs.size, _, I2, rfl, q _ I.fresh⟩
end
end L2
namespace Mi
open PySem L2
structure Cl where
  ad : List Str
  ck : Int
  hd : Str
  nm : Int
deriving DecidableEq
def ltC (c d : Cl) : Bool := if c.ck = d.ck then (if c.hd = d.hd then decide (c.nm < d.nm) else HS.ltS c.hd d.hd) else decide (c.ck < d.ck)
theorem ltC_irr (c : Cl) : ltC c c = false := by unfold ltC; rw [if_pos rfl, if_pos rfl]; exact decide_eq_false (Int.lt_irrefl _)
theorem ltC_tri {c d : Cl} (h : c.ad = d.ad) (h1 : ltC c d = false) (h2 : ltC d c = false) : c = d := by
  obtain ⟨a, k, x, n⟩ := c
  obtain ⟨a', k', x', n'⟩ := d
  unfold ltC at h1 h2
  simp only at h h1 h2
  by_cases e1 : k = k'
  · subst e1
    rw [if_pos rfl] at h1 h2
    by_cases e2 : x = x'
    · subst e2
      rw [if_pos rfl] at h1 h2
      have h1' := of_decide_eq_false h1
      have h2' := of_decide_eq_false h2
      have : n = n' := by omega
      rw [h, this]
    · rw [if_neg e2] at h1
      rw [if_neg (Ne.symm e2)] at h2
      exact absurd (HS.ltS_tri h1 h2) e2
  · rw [if_neg e1] at h1
    rw [if_neg (Ne.symm e1)] at h2
    have h1' := of_decide_eq_false h1
    have h2' := of_decide_eq_false h2
    omega
theorem ltC_tot {c d : Cl} (h : ltC c d = true) : ltC d c = false := by
  unfold ltC at h ⊢
  by_cases e1 : c.ck = d.ck
  · rw [if_pos e1] at h
    rw [if_pos e1.symm]
    by_cases e2 : c.hd = d.hd
    · rw [if_pos e2] at h
      rw [if_pos e2.symm]
      have := of_decide_eq_true h
      exact decide_eq_false (by omega)
    · rw [if_neg e2] at h
      rw [if_neg (Ne.symm e2)]
      exact HS.ltS_tot _ _ h
  · rw [if_neg e1] at h
    rw [if_neg (Ne.symm e1)]
    have := of_decide_eq_true h
    exact decide_eq_false (by omega)
theorem ltC_tr {a b c : Cl} (h1 : ltC b a = false) (h2 : ltC c b = false) : ltC c a = false := by
  unfold ltC at h1 h2 ⊢
  by_cases e1 : c.ck = a.ck
  · rw [if_pos e1]
    by_cases e3 : b.ck = a.ck
    · rw [if_pos e3] at h1
      rw [if_pos (e1.trans e3.symm)] at h2
      by_cases f1 : c.hd = a.hd
      · rw [if_pos f1]
        by_cases f3 : b.hd = a.hd
        · rw [if_pos f3] at h1
          rw [if_pos (f1.trans f3.symm)] at h2
          have h1' := of_decide_eq_false h1
          have h2' := of_decide_eq_false h2
          exact decide_eq_false (by omega)
        · rw [if_neg f3] at h1
          rw [if_neg (fun z => f3 (z.symm.trans f1))] at h2
          rw [f1] at h2
          exact absurd (HS.ltS_tri h1 h2) f3
      · rw [if_neg f1]
        by_cases f3 : b.hd = a.hd
        · rw [← f3] at f1 ⊢
          rw [if_neg f1] at h2
          exact h2
        · rw [if_neg f3] at h1
          by_cases f4 : c.hd = b.hd
          · rw [f4]; exact h1
          · rw [if_neg f4] at h2
            exact HS.ltS_tr _ _ _ h1 h2
    · rw [if_neg e3] at h1
      rw [if_neg (fun z => e3 (z.symm.trans e1))] at h2
      have h1' := of_decide_eq_false h1
      have h2' := of_decide_eq_false h2
      omega
  · rw [if_neg e1]
    refine decide_eq_false ?_
    by_cases e3 : b.ck = a.ck
    · rw [if_neg (fun z => e1 (z.trans e3))] at h2
      have h2' := of_decide_eq_false h2
      omega
    · rw [if_neg e3] at h1
      have h1' := of_decide_eq_false h1
      by_cases e4 : c.ck = b.ck
      · omega
      · rw [if_neg e4] at h2
        have h2' := of_decide_eq_false h2
        omega
def MaxIn (L : List Cl) (c : Cl) : Prop := c ∈ L ∧ ∀ d ∈ L, d.ad = c.ad → ltC c d = false
theorem MaxIn.uniq {L : List Cl} {c d : Cl} (hc : MaxIn L c) (hd : MaxIn L d) (h : c.ad = d.ad) : c = d := ltC_tri h (hc.2 d hd.1 h.symm) (hd.2 c hc.1 h)
theorem max_ex : ∀ (L : List Cl) (u : List Str), (∃ c ∈ L, c.ad = u) → ∃ c, MaxIn L c ∧ c.ad = u
  | [], _, ⟨_, h, _⟩ => by cases h
  | x :: L, u, h => by
    by_cases hL : ∃ c ∈ L, c.ad = u
    · obtain ⟨c, hc, e⟩ := max_ex L u hL
      by_cases hx : x.ad = u ∧ ltC c x = true
      · refine ⟨x, ⟨List.mem_cons_self .., fun d hd he => ?_⟩, hx.1⟩
        rcases List.mem_cons.mp hd with rfl | hd
        · exact ltC_irr _
        · exact ltC_tr (hc.2 d hd (he.trans (hx.1.trans e.symm))) (ltC_tot hx.2)
      · refine ⟨c, ⟨List.mem_cons_of_mem _ hc.1, fun d hd he => ?_⟩, e⟩
        rcases List.mem_cons.mp hd with rfl | hd
        · cases hl : ltC c d with
          | false => rfl
          | true => exact absurd ⟨he.trans e, hl⟩ hx
        · exact hc.2 d hd he
    · obtain ⟨c, hc, e⟩ := h
      rcases List.mem_cons.mp hc with rfl | hc
      · refine ⟨c, ⟨List.mem_cons_self .., fun d hd he => ?_⟩, e⟩
        rcases List.mem_cons.mp hd with rfl | hd
        · exact ltC_irr _
        · exact absurd ⟨d, hd, he.trans e⟩ hL
      · exact absurd ⟨c, hc, e⟩ hL
structure Tog (L A : List Cl) : Prop where
  rise : A.Pairwise fun a b => HS.ltT a.ad b.ad = true
  mem : ∀ c, c ∈ A ↔ MaxIn L c
theorem cl_eq : ∀ {A B : List Cl}, A.Pairwise (fun a b => HS.ltT a.ad b.ad = true) → B.Pairwise (fun a b => HS.ltT a.ad b.ad = true) → (∀ c, c ∈ A ↔ c ∈ B) → A = B
  | [], [], _, _, _ => rfl
  | [], b :: B, _, _, h => by have := (h b).mpr (List.mem_cons_self ..); cases this
  | a :: A, [], _, _, h => by have := (h a).mp (List.mem_cons_self ..); cases this
  | a :: A, b :: B, ha, hb, h => by
    have ha' := List.pairwise_cons.mp ha
    have hb' := List.pairwise_cons.mp hb
    have irr : ∀ x : List Str, HS.ltT x x = true → False := fun x hx => by
      have := HS.ltT_tot _ _ hx
      rw [this] at hx
      cases hx
    have e : a = b := by
      rcases List.mem_cons.mp ((h a).mp (List.mem_cons_self ..)) with e | e
      · exact e
      · rcases List.mem_cons.mp ((h b).mpr (List.mem_cons_self ..)) with e2 | e2
        · exact e2.symm
        · have h1 := hb'.1 a e
          have h2 := ha'.1 b e2
          rw [HS.ltT_tot _ _ h1] at h2
          cases h2
    subst e
    rw [cl_eq (A := A) (B := B) ha'.2 hb'.2 fun r => ?_]
    constructor
    · intro hr
      rcases List.mem_cons.mp ((h r).mp (List.mem_cons_of_mem _ hr)) with e | e
      · subst e; exact (irr _ (ha'.1 r hr)).elim
      · exact e
    · intro hr
      rcases List.mem_cons.mp ((h r).mpr (List.mem_cons_of_mem _ hr)) with e | e
      · subst e; exact (irr _ (hb'.1 r hr)).elim
      · exact e
theorem Tog.eq {L M A B : List Cl} (ha : Tog L A) (hb : Tog M B) (h : ∀ c, MaxIn L c ↔ MaxIn M c) : A = B := cl_eq ha.rise hb.rise fun c => by rw [ha.mem, hb.mem, h]
theorem max_congr {L M : List Cl} (h : ∀ c, c ∈ L ↔ c ∈ M) (c : Cl) : MaxIn L c ↔ MaxIn M c := by
  unfold MaxIn
  constructor
  · rintro ⟨h1, h2⟩; exact ⟨(h c).mp h1, fun d hd => h2 d ((h d).mpr hd)⟩
  · rintro ⟨h1, h2⟩; exact ⟨(h c).mpr h1, fun d hd => h2 d ((h d).mp hd)⟩
theorem max_tog {L M A : List Cl} (h : Tog L A) (c : Cl) : MaxIn (A ++ M) c ↔ MaxIn (L ++ M) c := by
  constructor
  · rintro ⟨h1, h2⟩
    refine ⟨?_, fun d hd he => ?_⟩
    · rcases List.mem_append.mp h1 with h1 | h1
      · exact List.mem_append_left _ ((h.mem c).mp h1).1
      · exact List.mem_append_right _ h1
    · rcases List.mem_append.mp hd with hd | hd
      · obtain ⟨m, hm, em⟩ := max_ex L d.ad ⟨d, hd, rfl⟩
        exact ltC_tr (hm.2 d hd em.symm) (h2 m (List.mem_append_left _ ((h.mem m).mpr hm)) (em.trans he))
      · exact h2 d (List.mem_append_right _ hd) he
  · rintro ⟨h1, h2⟩
    refine ⟨?_, fun d hd he => ?_⟩
    · rcases List.mem_append.mp h1 with h1 | h1
      · exact List.mem_append_left _ ((h.mem c).mpr ⟨h1, fun d hd => h2 d (List.mem_append_left _ hd)⟩)
      · exact List.mem_append_right _ h1
    · rcases List.mem_append.mp hd with hd | hd
      · exact h2 d (List.mem_append_left _ ((h.mem d).mp hd).1) he
      · exact h2 d (List.mem_append_right _ hd) he
theorem tog_self {A : List Cl} (h : A.Pairwise fun a b => HS.ltT a.ad b.ad = true) : Tog A A := by
  refine ⟨h, fun c => ⟨fun hc => ⟨hc, fun d hd he => ?_⟩, fun hc => hc.1⟩⟩
  have : d = c := by
    have irr : ∀ x : List Str, HS.ltT x x = true → False := fun x hx => by
      have := HS.ltT_tot _ _ hx
      rw [this] at hx
      cases hx
    obtain ⟨i, hi, rfl⟩ := List.mem_iff_getElem.mp hc
    obtain ⟨j, hj, rfl⟩ := List.mem_iff_getElem.mp hd
    rcases Nat.lt_trichotomy i j with c' | c' | c'
    · have := List.pairwise_iff_getElem.mp h i j hi hj c'
      rw [he] at this
      exact (irr _ this).elim
    · subst c'; rfl
    · have := List.pairwise_iff_getElem.mp h j i hj hi c'
      rw [he] at this
      exact (irr _ this).elim
  rw [this]
  exact ltC_irr _
end Mi
namespace Co
open PySem L2 Mi
def ClH (H : Hp) (b a : Addr) (c : Cl) : Prop := H b = some (.tup [.ref a, .int c.ck, .str c.hd, .int c.nm]) ∧ H a = some (.tup (c.ad.map V.str))
theorem ClH.ts {H H' : Hp} {b a : Addr} {c : Cl} (h : ClH H b a c) (s : TS' H H') : ClH H' b a c := ⟨s _ _ h.1, s _ _ h.2⟩
abbrev crefs (cs : List (Addr × Addr × Cl)) : List V := cs.map fun x => V.ref x.1
def ClsIn (H : Hp) (cs : List (Addr × Addr × Cl)) : Prop := ∀ x ∈ cs, ClH H x.1 x.2.1 x.2.2
def ClsAt (H : Hp) (p : Addr) (L : List Cl) : Prop := ∃ cs : List (Addr × Addr × Cl), H p = some (.tup (crefs cs)) ∧ ClsIn H cs ∧ cs.map (·.2.2) = L
theorem ClsIn.ts {H H' : Hp} {cs : List (Addr × Addr × Cl)} (h : ClsIn H cs) (s : TS' H H') : ClsIn H' cs := fun x hx => (h x hx).ts s
theorem ClsAt.ts {H H' : Hp} {p : Addr} {L : List Cl} (h : ClsAt H p L) (s : TS' H H') : ClsAt H' p L := by
  obtain ⟨cs, h1, h2, h3⟩ := h
  exact ⟨cs, s _ _ h1, h2.ts s, h3⟩
theorem ClsAt.same {H H' : Hp} {p : Addr} {L : List Cl} (h : ClsAt H p L) (s : Same H H') : ClsAt H' p L := h.ts s.ts
abbrev clD (c : Cl) : Dat := .tup [.tup (c.ad.map Dat.str), .int c.ck, .str c.hd, .int c.nm]
theorem dat_strs' {K : PySem.W.Frag} {H : Hp} : ∀ ts : List Str, AreDat K H (ts.map Dat.str) (ts.map V.str)
  | [] => rfl
  | t :: ts => ⟨_, _, rfl, rfl, dat_strs' ts⟩
theorem cl_dat {K : PySem.W.Frag} {H : Hp} {b a : Addr} {c : Cl} (h : ClH H b a c) : IsDat K H (clD c) (.ref b) :=
  ⟨b, _, rfl, SqT.of h.1, _, _, rfl, ⟨a, _, rfl, SqT.of h.2, dat_strs' _⟩, _, _, rfl, rfl, _, _, rfl, rfl, _, _, rfl, rfl, rfl⟩
theorem cmps_strs : ∀ u v : List Str, Dat.cmps (u.map Dat.str) (v.map Dat.str) = true
  | [], [] => rfl
  | [], _ :: _ => rfl
  | _ :: _, [] => rfl
  | _ :: u, _ :: v => by show (true && Dat.cmps (u.map Dat.str) (v.map Dat.str)) = true; rw [cmps_strs u v]; rfl
theorem cl_cmp (c d : Cl) : Dat.cmp (clD c) (clD d) = true := by
  show (Dat.cmps (c.ad.map Dat.str) (d.ad.map Dat.str) && (true && (true && (true && true)))) = true
  rw [cmps_strs]; rfl
theorem deeps0' : ∀ u : List Str, Dat.deeps (u.map Dat.str) = 0
  | [] => rfl
  | t :: u => by show max 0 (Dat.deeps (u.map Dat.str)) = 0; rw [deeps0' u]; rfl
theorem cl_deep (c : Cl) : Dat.deep (clD c) ≤ 3 := by
  show max (Dat.deeps (c.ad.map Dat.str) + 1) (max 0 (max 0 (max 0 0))) + 1 ≤ 3
  rw [deeps0']
  decide
theorem lt_tail (c d : Cl) : Dat.lts [.int c.ck, .str c.hd, .int c.nm] [.int d.ck, .str d.hd, .int d.nm] = ltC c d := by
  show (if (c.ck == d.ck) = true then (if (c.hd == d.hd) = true then (if (c.nm == d.nm) = true then false else decide (c.nm < d.nm)) else decide (c.hd.cps.toList < d.hd.cps.toList)) else decide (c.ck < d.ck)) = ltC c d
  unfold ltC
  by_cases e1 : c.ck = d.ck
  · rw [if_pos e1, if_pos (beq_iff_eq.mpr e1)]
    by_cases e2 : c.hd = d.hd
    · rw [if_pos e2, if_pos (beq_iff_eq.mpr e2)]
      by_cases e3 : c.nm = d.nm
      · rw [if_pos (beq_iff_eq.mpr e3), e3]; exact (decide_eq_false (Int.lt_irrefl _)).symm
      · rw [if_neg (fun z => e3 (beq_iff_eq.mp z))]
    · rw [if_neg e2, if_neg (fun z => e2 (beq_iff_eq.mp z))]; rfl
  · rw [if_neg e1, if_neg (fun z => e1 (beq_iff_eq.mp z))]
theorem cl_lt {c d : Cl} (h : c.ad = d.ad) : Dat.lt (clD c) (clD d) = ltC c d := by
  show (if Dat.beqs (c.ad.map Dat.str) (d.ad.map Dat.str) = true then Dat.lts [.int c.ck, .str c.hd, .int c.nm] [.int d.ck, .str d.hd, .int d.nm] else Dat.lts (c.ad.map Dat.str) (d.ad.map Dat.str)) = ltC c d
  rw [h, if_pos (beqs_refl _), lt_tail]
theorem inrT_inj {a b : List Str} (h : (a.map Sum.inr : List Key) = b.map Sum.inr) : a = b := by
  have e := congrArg (List.map strK) h
  rw [List.map_map, List.map_map] at e
  have id' : ∀ l : List Str, l.map (strK ∘ (Sum.inr : Str → Key)) = l := fun l => by
    have : ∀ z ∈ l, (strK ∘ (Sum.inr : Str → Key)) z = z := fun z _ => rfl
    rw [List.map_congr_left this, List.map_id']
  rw [id', id'] at e
  exact e
theorem putKT_keys {kvs : List (List Key × V)} {us : List (List Str)} {u : List Str} {v : V} (h : kvs.map (·.1) = us.map fun t => t.map Sum.inr) :
    (putK kvs (u.map Sum.inr) v).map (·.1) = (if u ∈ us then us else us ++ [u]).map fun t => t.map Sum.inr := by
  have hany : (kvs.any fun kv => decide (kv.1 = u.map Sum.inr)) = decide (u ∈ us) := by
    rw [Bool.eq_iff_iff, List.any_eq_true, decide_eq_true_eq]
    constructor
    · rintro ⟨kv, hm, e⟩
      have hk : kv.1 ∈ kvs.map (·.1) := List.mem_map.mpr ⟨kv, hm, rfl⟩
      rw [h] at hk
      obtain ⟨t, ht, e2⟩ := List.mem_map.mp hk
      have e3 : kv.1 = u.map Sum.inr := by simpa using e
      rw [← inrT_inj (e2.trans e3)]
      exact ht
    · intro hu
      have hk : (u.map Sum.inr : List Key) ∈ us.map fun t => t.map Sum.inr := List.mem_map.mpr ⟨u, hu, rfl⟩
      rw [← h] at hk
      obtain ⟨kv, hm, e⟩ := List.mem_map.mp hk
      exact ⟨kv, hm, by simpa using e⟩
  unfold putK
  rw [hany]
  by_cases c : u ∈ us
  · rw [decide_eq_true c, if_pos rfl, if_pos c, List.map_map, ← h]
    refine List.map_congr_left fun kv _ => ?_
    show (if kv.1 = u.map Sum.inr then (kv.1, v) else kv).1 = kv.1
    split <;> rfl
  · rw [decide_eq_false c, if_neg Bool.false_ne_true, if_neg c, List.map_append, List.map_append, h]
    rfl
def LatAt (H : Hp) (d : Addr) (L : List Cl) (us : List (List Str)) : Prop := ∃ kvs : List (List Key × V), H d = some (.dT kvs) ∧ kvs.map (·.1) = (us.map fun t => t.map Sum.inr) ∧ us.Nodup ∧ us.length ≤ L.length ∧ (∀ u, u ∈ us ↔ ∃ c ∈ L, c.ad = u) ∧
  ∀ u, (u ∈ us → ∃ b a c, valV kvs (u.map Sum.inr) = some (.ref b) ∧ ClH H b a c ∧ MaxIn L c ∧ c.ad = u) ∧ (u ∉ us → valV kvs (u.map Sum.inr) = none)
theorem LatAt.nil {H : Hp} {d : Addr} (h : H d = some (.dT [])) : LatAt H d [] [] := ⟨[], h, rfl, List.nodup_nil, Nat.le_refl _, by simp, fun u => ⟨(fun z => by cases z), fun _ => rfl⟩⟩
theorem LatAt.same {H H' : Hp} {d : Addr} {L : List Cl} {us : List (List Str)} (h : LatAt H d L us) (s : Same H H') : LatAt H' d L us := by
  obtain ⟨kvs, h1, h2, h3, h4, h5, h6⟩ := h
  refine ⟨kvs, s _ _ h1, h2, h3, h4, h5, fun u => ⟨fun hu => ?_, (h6 u).2⟩⟩
  obtain ⟨b, a, c, e1, e2, e3⟩ := (h6 u).1 hu
  exact ⟨b, a, c, e1, e2.ts s.ts, e3⟩
theorem max_snoc_keep {L : List Cl} {x m : Cl} (hm : MaxIn L m) (h : m.ad = x.ad → ltC m x = false) : MaxIn (L ++ [x]) m := ⟨List.mem_append_left _ hm.1, fun d hd he => by
  rcases List.mem_append.mp hd with hd | hd
  · exact hm.2 d hd he
  · rw [List.mem_singleton.mp hd] at he ⊢; exact h he.symm⟩
theorem LatAt.skip {H : Hp} {d : Addr} {L : List Cl} {us : List (List Str)} (h : LatAt H d L us) {x m : Cl} (hm : MaxIn L m) (ha : m.ad = x.ad) (hl : ltC m x = false) : LatAt H d (L ++ [x]) us := by
  obtain ⟨kvs, h1, h2, h3, h4, h5, h6⟩ := h
  have hx : x.ad ∈ us := (h5 x.ad).mpr ⟨m, hm.1, ha⟩
  refine ⟨kvs, h1, h2, h3, by rw [List.length_append]; omega, fun u => ?_, fun u => ⟨fun hu => ?_, (h6 u).2⟩⟩
  · rw [h5]
    constructor
    · rintro ⟨c, hc, e⟩; exact ⟨c, List.mem_append_left _ hc, e⟩
    · rintro ⟨c, hc, e⟩
      rcases List.mem_append.mp hc with hc | hc
      · exact ⟨c, hc, e⟩
      · rw [List.mem_singleton.mp hc] at e; exact ⟨m, hm.1, ha.trans e⟩
  · obtain ⟨b, a, c, e1, e2, e3, e4⟩ := (h6 u).1 hu
    refine ⟨b, a, c, e1, e2, max_snoc_keep e3 fun he => ?_, e4⟩
    rw [MaxIn.uniq e3 hm (he.trans ha.symm)]
    exact hl
theorem LatAt.put {H : Hp} {d : Addr} {L : List Cl} {us : List (List Str)} (h : LatAt H d L us) {b a : Addr} {x : Cl} (hx : ClH H b a x) (hl : ∀ m, MaxIn L m → m.ad = x.ad → ltC m x = true) (hz : L.length ≤ 1000) :
    ∃ H', DPut H d (.ref a) (.ref b) H' ∧ LatAt H' d (L ++ [x]) (if x.ad ∈ us then us else us ++ [x.ad]) ∧ (∀ c o, c ≠ d → H c = some o → H' c = some o) ∧ ∀ kvs, H d = some (.dT kvs) → H' = upd H d (.dT (putK kvs (x.ad.map Sum.inr) (.ref b))) := by
  obtain ⟨kvs, h1, h2, h3, h4, h5, h6⟩ := h
  have hkl : kvs.length = us.length := by have := congrArg List.length h2; rw [List.length_map, List.length_map] at this; exact this
  have ek : (x.ad.map V.str) = ((x.ad.map Sum.inr : List Key).map kV) := by rw [List.map_map]; rfl
  have hk := hx.2
  rw [ek] at hk
  have ndT : TS' H (upd H d (.dT (putK kvs (x.ad.map Sum.inr) (.ref b)))) := fun c ys e => by rw [upd_ne (fun z => by rw [z, h1] at e; cases e)]; exact e
  have hmx : MaxIn (L ++ [x]) x := ⟨List.mem_append_right _ (by simp), fun e he hee => by
    rcases List.mem_append.mp he with he | he
    · obtain ⟨m, hm, em⟩ := max_ex L e.ad ⟨e, he, rfl⟩
      exact ltC_tr (hm.2 e he em.symm) (ltC_tot (hl m hm (em.trans hee)))
    · rw [List.mem_singleton.mp he]; exact ltC_irr _⟩
  refine ⟨_, DPut.t h1 hk (bigl _ (by omega)), ⟨_, upd_same, putKT_keys h2, ?_, ?_, fun u => ?_, fun u => ?_⟩, (fun c o hc e => by rw [upd_ne hc]; exact e), fun kvs' e => by rw [h1] at e; cases e; rfl⟩
  · by_cases c : x.ad ∈ us
    · rw [if_pos c]; exact h3
    · rw [if_neg c, List.nodup_append]
      exact ⟨h3, by simp, fun y hy z hz e => by rw [List.mem_singleton.mp hz] at e; exact c (e ▸ hy)⟩
  · rw [List.length_append, List.length_singleton]
    by_cases c : x.ad ∈ us
    · rw [if_pos c]; omega
    · rw [if_neg c, List.length_append, List.length_singleton]; omega
  · have base' : (∃ c ∈ L ++ [x], c.ad = u) ↔ u ∈ us ∨ u = x.ad := by
      rw [h5]
      constructor
      · rintro ⟨z, hz, e⟩
        rcases List.mem_append.mp hz with hz | hz
        · exact .inl ⟨z, hz, e⟩
        · rw [List.mem_singleton.mp hz] at e; exact .inr e.symm
      · rintro (⟨z, hz, e⟩ | e)
        · exact ⟨z, List.mem_append_left _ hz, e⟩
        · exact ⟨x, List.mem_append_right _ (by simp), e.symm⟩
    rw [base']
    by_cases c : x.ad ∈ us
    · rw [if_pos c]; exact ⟨.inl, fun h => h.elim id fun e => e ▸ c⟩
    · rw [if_neg c, List.mem_append, List.mem_singleton]
  · rw [valV_put]
    by_cases e : u = x.ad
    · subst e
      have c1 : (if ((x.ad.map Sum.inr : List Key) = x.ad.map Sum.inr) then some (V.ref b) else valV kvs (x.ad.map Sum.inr)) = some (V.ref b) := if_pos rfl
      rw [c1]
      refine ⟨fun _ => ⟨b, a, x, rfl, hx.ts ndT, hmx, rfl⟩, fun hn => absurd ?_ hn⟩
      by_cases c : x.ad ∈ us
      · rw [if_pos c]; exact c
      · rw [if_neg c]; exact List.mem_append_right _ (by simp)
    · rw [if_neg (fun z => e (inrT_inj z))]
      have hg : (u ∈ if x.ad ∈ us then us else us ++ [x.ad]) ↔ u ∈ us := by
        by_cases c : x.ad ∈ us
        · rw [if_pos c]
        · rw [if_neg c, List.mem_append, List.mem_singleton]
          exact ⟨fun h => h.elim id fun z => absurd z e, .inl⟩
      rw [hg]
      refine ⟨fun h => ?_, (h6 u).2⟩
      obtain ⟨b', a', c', e1, e2, e3, e4⟩ := (h6 u).1 h
      exact ⟨b', a', c', e1, e2.ts ndT, max_snoc_keep e3 fun he => absurd (e4.symm.trans he) e, e4⟩
theorem LatAt.get {H : Hp} {d a : Addr} {L : List Cl} {us : List (List Str)} (h : LatAt H d L us) {u : List Str} (ha : H a = some (.tup (u.map V.str))) :
    (u ∈ us ∧ ∃ b a' c, DGet H d (.ref a) (some (.ref b)) ∧ ClH H b a' c ∧ MaxIn L c ∧ c.ad = u) ∨ (u ∉ us ∧ DGet H d (.ref a) none) := by
  obtain ⟨kvs, h1, h2, h3, h4, h5, h6⟩ := h
  have ek : (u.map V.str) = ((u.map Sum.inr : List Key).map kV) := by rw [List.map_map]; rfl
  rw [ek] at ha
  have g := DGet.t h1 ha
  by_cases hu : u ∈ us
  · obtain ⟨b, a', c, e1, e2, e3, e4⟩ := (h6 u).1 hu
    rw [e1] at g
    exact .inl ⟨hu, b, a', c, g, e2, e3, e4⟩
  · rw [(h6 u).2 hu] at g
    exact .inr ⟨hu, g⟩
theorem made_cls {H : Hp} {Pc : Cl → Prop} : ∀ {rs : List (Addr × List Str)} {ys : List V}, Paired (fun x v => ∃ r : Addr × List Str, x = V.ref r.1 ∧ H r.1 = some (.tup (r.2.map V.str)) ∧ ∃ b a c, v = V.ref b ∧ ClH H b a c ∧ Pc c ∧ c.ad = r.2) (rs.map fun r => V.ref r.1) ys → (∀ r ∈ rs, H r.1 = some (.tup (r.2.map V.str))) →
    ∃ cs : List (Addr × Addr × Cl), ys = crefs cs ∧ ClsIn H cs ∧ cs.map (fun x => x.2.2.ad) = rs.map (·.2) ∧ ∀ x ∈ cs, Pc x.2.2
  | [], _, h, _ => by cases h; exact ⟨[], rfl, (fun x hx => by cases hx), rfl, fun x hx => by cases hx⟩
  | r :: rs, _, h, hr => by
    rw [List.map_cons] at h
    cases h with
    | cons h1 h2 =>
      obtain ⟨r', e, hr', b, a, c, rfl, hc, hm, hca⟩ := h1
      injection e with e
      rw [← e, hr r (List.mem_cons_self ..)] at hr'
      injection hr' with hr'
      injection hr' with hr'
      have e2 : r.2 = r'.2 := by
        have := congrArg (List.map fun v => match v with | V.str x => x | _ => ("" : Str)) hr'
        rw [List.map_map, List.map_map] at this
        have id' : ∀ l : List Str, l.map ((fun v => match v with | V.str x => x | _ => ("" : Str)) ∘ V.str) = l := fun l => by
          have : ∀ z ∈ l, ((fun v => match v with | V.str x => x | _ => ("" : Str)) ∘ V.str) z = z := fun z _ => rfl
          rw [List.map_congr_left this, List.map_id']
        rw [id', id'] at this
        exact this
      obtain ⟨cs, e1, e3, e4, e5⟩ := made_cls h2 fun q hq => hr q (List.mem_cons_of_mem _ hq)
      refine ⟨(b, a, c) :: cs, by rw [e1]; rfl, fun x hx => ?_, by rw [List.map_cons, List.map_cons, e4, e2]; rw [← hca], fun x hx => ?_⟩
      · rcases List.mem_cons.mp hx with rfl | hx
        · exact hc
        · exact e3 x hx
      · rcases List.mem_cons.mp hx with rfl | hx
        · exact hm
        · exact e5 x hx
theorem tog_of {L : List Cl} {us : List (List Str)} {rs : List (Addr × List Str)} {cs : List (Addr × Addr × Cl)} (hu : us.Nodup) (hm : ∀ u, u ∈ us ↔ ∃ c ∈ L, c.ad = u) (hp : (rs.map (·.2)).Perm us) (hs : rs.Pairwise fun a b => HS.ltT b.2 a.2 = false) (he : cs.map (fun x => x.2.2.ad) = rs.map (·.2)) (hc : ∀ x ∈ cs, MaxIn L x.2.2) : Tog L (cs.map (·.2.2)) := by
  refine ⟨?_, fun c => ⟨fun h => ?_, fun h => ?_⟩⟩
  · have h1 : (rs.map (·.2)).Pairwise fun a b => HS.ltT a b = true := by
      rw [List.pairwise_map]
      have ndq : (rs.map (·.2)).Nodup := hp.nodup_iff.mpr hu
      rw [List.Nodup, List.pairwise_map] at ndq
      refine (hs.and ndq).imp fun {a b} z => ?_
      cases hc : HS.ltT a.2 b.2 with
      | true => rfl
      | false => exact absurd (HS.ltT_tri _ _ hc z.1) z.2
    rw [← he, List.pairwise_map] at h1
    rw [List.pairwise_map]
    exact h1
  · obtain ⟨x, hx, rfl⟩ := List.mem_map.mp h
    exact hc x hx
  · have h2 : c.ad ∈ cs.map fun x => x.2.2.ad := by rw [he, hp.mem_iff, hm]; exact ⟨c, h.1, rfl⟩
    obtain ⟨x, hx, e⟩ := List.mem_map.mp h2
    rw [← MaxIn.uniq (hc x hx) h e]
    exact List.mem_map.mpr ⟨x, hx, rfl⟩
end Co
namespace Co
open PySem L2 Mi
theorem compF_cls {J : It} {rs : List (Addr × Addr × Cl)} {tt : TT} {te : TE} {fr : St} {H1 : Hp} {QD : Hp → Prop} (f : Addr × Addr × Cl → V) (p : Addr × Addr × Cl → Bool) (D : Addr) (hD : H1 D = none) (T : Tells J H1 (crefs rs)) (hz : rs.length < sizeLine)
    (ht : ∀ r H R, r ∈ rs → Same H1 H → (∀ H', Same H H' → R (p r) H') → tt (some (.ref r.1) :: fr) H R)
    (he : ∀ r H R, r ∈ rs → p r = true → Same H1 H → (∀ H', Same H H' → R (f r) H') → te (some (.ref r.1) :: fr) H R)
    (hd : ∀ H', Same H1 H' → H' D = some (.lst ((rs.filter p).map f)) → QD H') :
    ∃ W : Nat → Nat → List V → Hp → Prop, (∃ m, W 0 m [] (upd H1 D (.lst []))) ∧ ∀ i m ys H2, W i m ys H2 → H2 D = some (.lst ys) ∧
      ((J.stop i H2 ∧ QD H2) ∨ (J.go i H2 ∧ ∀ x H3, J.yld i H2 x H3 → ∀ pre : St, pre.length = 1 → gName 0 x (pre ++ fr) H3 fun σ4 H4 => (∃ pre' : St, pre'.length = 1 ∧ σ4 = pre' ++ fr) ∧
        tt σ4 H4 fun b H5 => if b = true then te σ4 H5 (fun y H6 => H6 D = some (.lst ys) ∧ ys.length < sizeLine ∧ ∃ m', m' < m ∧ W (i + 1) m' (ys ++ [y]) (upd H6 D (.lst (ys ++ [y])))) else ∃ m', m' < m ∧ W (i + 1) m' ys H5)) := by
  refine ⟨fun i m ys H2 => m = rs.length - i ∧ i ≤ rs.length ∧ ys = ((rs.take i).filter p).map f ∧ H2 D = some (.lst ys) ∧ Same H1 H2, ⟨rs.length, by simp, Nat.zero_le _, by simp, upd_same, Same.new hD _⟩, ?_⟩
  rintro i m ys H2 ⟨rfl, hi, rfl, hD2, sm⟩
  refine ⟨hD2, ?_⟩
  by_cases hlt : i < rs.length
  · refine .inr ⟨T.go H2 i sm (by rw [List.length_map]; exact hlt), fun x H3 y pre hpre => ?_⟩
    obtain ⟨rfl, hx⟩ := T.yld H2 i x H3 sm y
    rw [List.getElem?_map, List.getElem?_eq_getElem hlt] at hx
    cases hx
    have hm : rs[i] ∈ rs := List.getElem_mem hlt
    obtain ⟨a0, rfl⟩ : ∃ a0, pre = [a0] := by
      cases pre with
      | nil => simp at hpre
      | cons a0 r => cases r with
        | nil => exact ⟨a0, rfl⟩
        | cons _ _ => simp at hpre
    refine ⟨⟨[some (.ref rs[i].1)], rfl, rfl⟩, ?_⟩
    have htk : (rs.take (i + 1)).filter p = (rs.take i).filter p ++ (if p rs[i] = true then [rs[i]] else []) := by
      rw [List.take_add_one, List.getElem?_eq_getElem hlt, List.filter_append]
      cases hp : p rs[i] <;> simp [hp]
    refine ht rs[i] H3 _ hm sm fun H5 s5 => ?_
    cases hp : p rs[i] with
    | false =>
      rw [hp, if_neg Bool.false_ne_true, List.append_nil] at htk
      exact iteF ⟨rs.length - (i + 1), by omega, rfl, hlt, by rw [htk], s5 _ _ hD2, sm.trans s5⟩
    | true =>
      rw [hp, if_pos rfl] at htk
      refine iteT (he rs[i] H5 _ hm hp (sm.trans s5) fun H6 s6 => ?_)
      have hl : (((rs.take i).filter p).map f).length ≤ i := by
        rw [List.length_map]
        refine Nat.le_trans (List.length_filter_le _ _) ?_
        rw [List.length_take]; omega
      refine ⟨s6 _ _ (s5 _ _ hD2), by omega, rs.length - (i + 1), by omega, rfl, hlt, ?_, upd_same, ?_⟩
      · rw [htk, List.map_append]; rfl
      · intro b o e
        have hb : b ≠ D := ne_of_none e hD
        rw [upd_ne hb]
        exact s6 _ _ (s5 _ _ (sm _ _ e))
  · have e : i = rs.length := by omega
    subst e
    rw [List.take_length] at hD2
    have hst := T.stop H2 sm
    rw [List.length_map] at hst
    exact .inl ⟨hst, hd H2 sm hD2⟩
def TupsH (H : Hp) (p : Addr) (T : List (List Str)) : Prop := ∃ rs : List (Addr × List Str), H p = some (.tup (rs.map fun r => V.ref r.1)) ∧ (∀ r ∈ rs, H r.1 = some (.tup (r.2.map V.str))) ∧ rs.map (·.2) = T
theorem filter_cls (cs : List (Addr × Addr × Cl)) (p : Cl → Bool) : (cs.filter fun r => p r.2.2).map (·.2.2) = (cs.map (·.2.2)).filter p := by
  rw [List.filter_map]
  rfl
end Co
namespace Co
open PySem L2 Mi
def GotAt (H : Hp) (d : Addr) (us : List (List Str)) (Pc : Cl → Prop := fun c => 0 ≤ c.ck) : Prop := ∃ kvs : List (List Key × V), H d = some (.dT kvs) ∧ kvs.map (·.1) = (us.map fun t => t.map Sum.inr) ∧ us.Nodup ∧
  ∀ u, u ∈ us → ∃ b a c, valV kvs (u.map Sum.inr) = some (.ref b) ∧ ClH H b a c ∧ c.ad = u ∧ Pc c
theorem GotAt.nil {Pc : Cl → Prop} {H : Hp} {d : Addr} (h : H d = some (.dT [])) : GotAt H d [] Pc := ⟨[], h, rfl, List.nodup_nil, fun u z => by cases z⟩
theorem GotAt.ts {Pc : Cl → Prop} {H H' : Hp} {d : Addr} {us : List (List Str)} (h : GotAt H d us Pc) (s : TS' H H') (hd : ∀ kvs, H d = some (.dT kvs) → H' d = some (.dT kvs)) : GotAt H' d us Pc := by
  obtain ⟨kvs, h1, h2, h3, h6⟩ := h
  refine ⟨kvs, hd _ h1, h2, h3, fun u hu => ?_⟩
  obtain ⟨b, a, c, e1, e2, e3⟩ := h6 u hu
  exact ⟨b, a, c, e1, e2.ts s, e3⟩
theorem GotAt.same {Pc : Cl → Prop} {H H' : Hp} {d : Addr} {us : List (List Str)} (h : GotAt H d us Pc) (s : Same H H') : GotAt H' d us Pc := h.ts s.ts fun _ e => s _ _ e
theorem GotAt.put {Pc : Cl → Prop} {H : Hp} {d : Addr} {us : List (List Str)} (h : GotAt H d us Pc) {b a : Addr} {x : Cl} (hx : ClH H b a x) (h0 : Pc x) (hz : us.length ≤ 1000) :
    ∃ o, DPut H d (.ref a) (.ref b) (upd H d o) ∧ GotAt (upd H d o) d (if x.ad ∈ us then us else us ++ [x.ad]) Pc := by
  obtain ⟨kvs, h1, h2, h3, h6⟩ := h
  have hkl : kvs.length = us.length := by have := congrArg List.length h2; rw [List.length_map, List.length_map] at this; exact this
  have ek : (x.ad.map V.str) = ((x.ad.map Sum.inr : List Key).map kV) := by rw [List.map_map]; rfl
  have hk := hx.2
  rw [ek] at hk
  have ndT : TS' H (upd H d (.dT (putK kvs (x.ad.map Sum.inr) (.ref b)))) := fun c ys e => by rw [upd_ne (fun z => by rw [z, h1] at e; cases e)]; exact e
  refine ⟨_, DPut.t h1 hk (bigl _ (by omega)), _, upd_same, putKT_keys h2, ?_, fun u hu => ?_⟩
  · by_cases c : x.ad ∈ us
    · rw [if_pos c]; exact h3
    · rw [if_neg c, List.nodup_append]
      exact ⟨h3, by simp, fun y hy z hz e => by rw [List.mem_singleton.mp hz] at e; exact c (e ▸ hy)⟩
  · rw [valV_put]
    by_cases e : u = x.ad
    · subst e
      exact ⟨b, a, x, if_pos rfl, hx.ts ndT, rfl, h0⟩
    · rw [if_neg (fun z => e (inrT_inj z))]
      have hu' : u ∈ us := by
        by_cases c : x.ad ∈ us
        · rw [if_pos c] at hu; exact hu
        · rw [if_neg c] at hu
          exact (List.mem_append.mp hu).elim id fun z => absurd (List.mem_singleton.mp z) e
      obtain ⟨b', a', c', e1, e2, e3⟩ := h6 u hu'
      exact ⟨b', a', c', e1, e2.ts ndT, e3⟩
theorem GotAt.get {Pc : Cl → Prop} {H : Hp} {d a : Addr} {us : List (List Str)} (h : GotAt H d us Pc) {u : List Str} (hu : u ∈ us) (ha : H a = some (.tup (u.map V.str))) : ∃ b a' c, DGet H d (.ref a) (some (.ref b)) ∧ ClH H b a' c ∧ c.ad = u ∧ Pc c := by
  obtain ⟨kvs, h1, h2, h3, h6⟩ := h
  have ek : (u.map V.str) = ((u.map Sum.inr : List Key).map kV) := by rw [List.map_map]; rfl
  rw [ek] at ha
  obtain ⟨b, a', c, e1, e2, e3⟩ := h6 u hu
  have g := DGet.t h1 ha
  rw [e1] at g
  exact ⟨b, a', c, g, e2, e3⟩
end Co
namespace Co
open PySem L2 Mi
theorem tog_app {L M A C : List Cl} (h : Tog L A) (g : Tog (A ++ M) C) : Tog (L ++ M) C := ⟨g.rise, fun c => (g.mem c).trans (max_tog h c)⟩
theorem tog_congr {L M C : List Cl} (g : Tog L C) (h : ∀ c, c ∈ L ↔ c ∈ M) : Tog M C := ⟨g.rise, fun c => (g.mem c).trans (max_congr h c)⟩
theorem tog_uniq {L A B : List Cl} (h : Tog L A) (g : Tog L B) : A = B := Tog.eq h g fun _ => Iff.rfl
theorem _root_.Mi.Tog.sub {L A : List Cl} (h : Tog L A) {c : Cl} (hc : c ∈ A) : c ∈ L := ((h.mem c).mp hc).1
theorem len_of_rise {A : List Cl} {us : List (List Str)} (h : A.Pairwise fun a b => HS.ltT a.ad b.ad = true) (hu : ∀ c ∈ A, c.ad ∈ us) : A.length ≤ us.length := by
  have nd : (A.map (·.ad)).Nodup := by
    rw [List.Nodup, List.pairwise_map]
    refine h.imp fun {a b} z e => ?_
    rw [e] at z
    have := HS.ltT_tot _ _ z
    rw [z] at this
    cases this
  have := nodup_len (L := us) nd fun x hx => by
    obtain ⟨c, hc, rfl⟩ := List.mem_map.mp hx
    exact hu c hc
  rwa [List.length_map] at this
end Co
namespace Co
open PySem L2 Mi
theorem tog_len {L A : List Cl} (h : Tog L A) : A.length ≤ L.length := by
  have := len_of_rise (us := L.map (·.ad)) h.rise fun c hc => List.mem_map.mpr ⟨c, h.sub hc, rfl⟩
  rwa [List.length_map] at this
end Co
namespace Co
open PySem L2 Mi
theorem St1.updL {K : PySem.W.Frag} {a t d : Addr} {ns : List Int} {n : Nat} {H : Hp} {xs : List V} (o : HO) (h : St1 K a t ns n H) (hd : H d = some (.lst xs)) (hne : d ≠ t) : St1 K a t ns n (upd H d o) := by
  obtain ⟨⟨zs, h1, h2⟩, h3⟩ := h
  refine ⟨⟨zs, by rw [upd_ne (Ne.symm hne)]; exact h1, h2⟩, ?_⟩
  rcases h3 with ⟨o', h3⟩ | h3
  · exact .inl ⟨o', by rw [upd_ne (fun e => by rw [e, hd] at h3; cases h3)]; exact h3⟩
  · exact .inr h3
theorem TupsH.ts {H H' : Hp} {p : Addr} {T : List (List Str)} (h : TupsH H p T) (s : TS' H H') : TupsH H' p T := by
  obtain ⟨rs, h1, h2, h3⟩ := h
  exact ⟨rs, s _ _ h1, fun r hr => s _ _ (h2 r hr), h3⟩
theorem TupsH.same {H H' : Hp} {p : Addr} {T : List (List Str)} (h : TupsH H p T) (s : Same H H') : TupsH H' p T := h.ts s.ts
end Co
namespace HK
open PySem
section
variable {prog : Program} {w : World} {A : Around} {R : Result → Shared → Prop} {I : Addr} {fp wr : List Addr} {n : Nat} {P : Nat → Value → Prop} {St : Nat → Heap → Prop} {Kp : Shared → Prop}
def CmpK (prog : Program) (w : World) (A : Around) (op : CmpOp) (P : Nat → Value → Prop) (bt : Nat → Nat → Bool) (Kp : Shared → Prop) : Prop :=
  ∀ i j vi vj (s : Shared) (Q : Value → Shared → Prop) (E : Value → Shared → Prop), Kp s → P i vi → P j vj → Q (.bool (bt i j)) s → wpAny (model prog w) A (richCompare op vi vj) Q E s
theorem max_loop (W : Walks prog w A.in1 I fp wr n P St) (bt : Nat → Nat → Bool) (hcmp : CmpK prog w A.in1 .Gt P bt Kp) (S : Addr) (hSf : S ∉ fp)
    (hK : ∀ (s : Shared) h' tk, Kp s → (∀ b o, b ∉ wr → b ≠ S → s.heap.get? b = some o → h'.get? b = some o) → Kp { s with heap := h', toks := tk }) :
    ∀ (k j : Nat) (s : Shared) (vb : Value) (c : Nat), n - (j + 1) = k → j + 1 ≤ n → St (j + 1) s.heap → Kp s → P (argBest bt j) vb →
    s.heap.get? S = some { cls := .type "list", dict := none, data := .seq #[vb, vb] c, slots := #[] } →
    (∀ v h' tk, P (argBest bt (n - 1)) v → (∀ b o, b ∉ wr → b ≠ S → s.heap.get? b = some o → h'.get? b = some o) → R (.ok (.ret v)) { s with heap := h', toks := tk }) →
    codeAny (model prog w) A (.builtin "max.loop" ⟨[.ref I, .none, .ref S], []⟩) R s := by
  have hSw : S ∉ wr := fun h => hSf (W.sub _ h)
  have hname : (toString "max" ++ toString ".loop" : String) = "max.loop" := by decide
  intro k
  induction k with
  | zero =>
    intro j s vb c hk hj hst hKp hPb hS hR
    have hin : j + 1 = n := by omega
    refine codeAny_builtin F.entry_max_loop ?_
    rw [Around.under_plainId F.plain_max_loop _]
    show wpAny _ A.in1 (seqItems? (.ref S) >>= _) _ _ s
    refine wpAny_bind (wpAny_seqItems hS rfl ?_)
    show wpAny _ A.in1 (tryCatch (pyNext (.ref I)) _ >>= _) _ _ s
    refine wpAny_bind (wpAny_tryCatch (W.done s _ _ (hin ▸ hst) fun h' tk hk' => ?_))
    have hS' := hk' S _ hSw hS
    show wpAny _ A.in1 (updateSeq S (fun _ => #[]) >>= _) _ _ _
    refine wpAny_bind ?_
    refine wpAny_updateSeq hS' rfl (wpAny_bind (wpAny_letGo (wpAny_pure ?_)))
    refine hR vb _ tk (by rw [← hin]; exact hPb) fun b o hbw hbS e => (Heap.get?_update_other _ _ (Ne.symm hbS)).trans (hk' b o hbw e)
  | succ k ih =>
    intro j s vb c hk hj hst hKp hPb hS hR
    have hlt : j + 1 < n := by omega
    refine codeAny_builtin F.entry_max_loop ?_
    rw [Around.under_plainId F.plain_max_loop _]
    show wpAny _ A.in1 (seqItems? (.ref S) >>= _) _ _ s
    refine wpAny_bind (wpAny_seqItems hS rfl ?_)
    show wpAny _ A.in1 (tryCatch (pyNext (.ref I)) _ >>= _) _ _ s
    refine wpAny_bind (wpAny_tryCatch (W.item (j + 1) s _ _ hlt hst fun v h' tk hP hst' hk' => ?_))
    have hS' := hk' S _ hSw hS
    have hKp' : Kp { s with heap := h', toks := tk } := hK s h' tk hKp fun b o hb _ e => hk' b o hb e
    show wpAny _ A.in1 (tryCatch (holding [v, v] (richCompare .Gt v vb >>= _)) _ >>= _) _ _ _
    refine wpAny_bind (wpAny_tryCatch (wpAny_holding (wpAny_bind (hcmp (j + 1) (argBest bt j) v vb _ _ _ hKp' hP hPb ?_))))
    refine wpAny_bind (wpAny_holding (wpAny_truthy_bool ?_))
    refine wpAny_bind (wpAny_letGo (wpAny_pure ?_))
    cases hb : bt (j + 1) (argBest bt j) with
    | true =>
      simp only [if_true]
      refine wpAny_bind ?_
      refine wpAny_updateSeq hS' rfl (wpAny_bind (wpAny_letGo ?_))
      rw [hname]
      refine wpAny_pure ⟨plainId_quiet F.plain_max_loop _, ih (j + 1) _ v _ (by omega) hlt (W.frame _ _ _ hst' fun b hbf o e => ?_) (hK _ _ _ hKp' fun b o _ hbS e => (Heap.get?_update_other _ _ (Ne.symm hbS)).trans e) (by simp only [argBest, hb, if_true]; exact hP) (Heap.get?_update_self _ hS' rfl)
        fun v' h'' tk'' hP' hk'' => ?_⟩
      · exact (Heap.get?_update_other _ _ (fun h : S = b => hSf (by rw [h]; exact hbf))).trans e
      · exact hR v' h'' tk'' hP' fun b o hbw hbS e => hk'' b o hbw hbS ((Heap.get?_update_other _ _ (Ne.symm hbS)).trans (hk' b o hbw e))
    | false =>
      simp only [Bool.false_eq_true, if_false]
      refine wpAny_bind (wpAny_letGo ?_)
      rw [hname]
      refine wpAny_pure ⟨plainId_quiet F.plain_max_loop _, ih (j + 1) _ vb c (by omega) hlt hst' hKp' (by simp only [argBest, hb, Bool.false_eq_true, if_false]; exact hPb) hS' fun v' h'' tk'' hP' hk'' => ?_⟩
      exact hR v' h'' tk'' hP' fun b o hbw hbS e => hk'' b o hbw hbS (hk' b o hbw e)
theorem max_loop_first (W : Walks prog w A.in1 I fp wr n P St) (bt : Nat → Nat → Bool) (hcmp : CmpK prog w A.in1 .Gt P bt Kp) (S : Addr) (hSf : S ∉ fp)
    (hK : ∀ (s : Shared) h' tk, Kp s → (∀ b o, b ∉ wr → b ≠ S → s.heap.get? b = some o → h'.get? b = some o) → Kp { s with heap := h', toks := tk }) (hn : 0 < n) {s : Shared} {c : Nat} (hst : St 0 s.heap) (hKp : Kp s)
    (hS : s.heap.get? S = some { cls := .type "list", dict := none, data := .seq #[] c, slots := #[] })
    (hR : ∀ v h' tk, P (argBest bt (n - 1)) v → (∀ b o, b ∉ wr → b ≠ S → s.heap.get? b = some o → h'.get? b = some o) → R (.ok (.ret v)) { s with heap := h', toks := tk }) :
    codeAny (model prog w) A (.builtin "max.loop" ⟨[.ref I, .none, .ref S], []⟩) R s := by
  have hSw : S ∉ wr := fun h => hSf (W.sub _ h)
  have hname : (toString "max" ++ toString ".loop" : String) = "max.loop" := by decide
  refine codeAny_builtin F.entry_max_loop ?_
  rw [Around.under_plainId F.plain_max_loop _]
  show wpAny _ A.in1 (seqItems? (.ref S) >>= _) _ _ s
  refine wpAny_bind (wpAny_seqItems hS rfl ?_)
  show wpAny _ A.in1 (tryCatch (pyNext (.ref I)) _ >>= _) _ _ s
  refine wpAny_bind (wpAny_tryCatch (W.item 0 s _ _ hn hst fun v h' tk hP hst' hk' => ?_))
  have hS' := hk' S _ hSw hS
  have hKp' : Kp { s with heap := h', toks := tk } := hK s h' tk hKp fun b o hb _ e => hk' b o hb e
  show wpAny _ A.in1 (updateSeq S (fun _ => #[v, v]) >>= _) _ _ _
  refine wpAny_bind ?_
  refine wpAny_updateSeq hS' rfl ?_
  rw [hname]
  refine wpAny_pure ⟨plainId_quiet F.plain_max_loop _, max_loop W bt hcmp S hSf hK _ 0 _ v _ rfl hn (W.frame _ _ _ hst' fun b hbf o e => ?_) (hK _ _ _ hKp' fun b o _ hbS e => (Heap.get?_update_other _ _ (Ne.symm hbS)).trans e) hP (Heap.get?_update_self _ hS' rfl) fun v' h'' tk'' hP' hk'' => ?_⟩
  · exact (Heap.get?_update_other _ _ (fun h : S = b => hSf (by rw [h]; exact hbf))).trans e
  · exact hR v' h'' tk'' hP' fun b o hbw hbS e => hk'' b o hbw hbS ((Heap.get?_update_other _ _ (Ne.symm hbS)).trans (hk' b o hbw e))
end
section
variable {prog : Program} {w : World} {A : Around} {E : Value → Shared → Prop} {s : Shared}
theorem call_max_walkK {x : Value} {Q : Value → Shared → Prop}
    (h : wpAny (model prog w) A.in1 (pyIter x) (fun it s₂ => ∃ I fp wr n P St bt, ∃ Kp : Shared → Prop, it = .ref I ∧ Walks prog w A.in1 I fp wr n P St ∧ St 0 s₂.heap ∧ (∀ b ∈ fp, b < s₂.heap.objs.size) ∧ 0 < n ∧ CmpK prog w A.in1 .Gt P bt Kp ∧
      (∀ h' tk, (∀ b o, b ∉ wr → s₂.heap.get? b = some o → h'.get? b = some o) → Kp { s₂ with heap := h', toks := tk }) ∧
      ∀ v h' tk, P (argBest bt (n - 1)) v → (∀ b o, b ∉ wr → s₂.heap.get? b = some o → h'.get? b = some o) → Q v { s₂ with heap := h', toks := tk }) E s) :
    wpAny (model prog w) A (call (.builtin "max") [x]) Q E s := by
  have hname : (toString "max" ++ toString ".loop" : String) = "max.loop" := by decide
  refine call_function_tree F.kind_max F.plain_max F.entry_max (F.args_max1 _) ?_
  show wpAny _ A.in1 (Builtin.Builtins.bindParams "max" ["key", "default"] 0 ⟨[], []⟩ >>= _) _ _ s
  refine wpAny_bind (wpAny_of_eq (show Builtin.Builtins.bindParams "max" ["key", "default"] 0 ⟨[], []⟩ = pure [none, none] from rfl) ?_)
  refine wpAny_bind (wpAny_pure ?_)
  refine wpAny_bind (wpAny_mono h (fun it s₂ h₂ => ?_) fun _ _ e => e)
  obtain ⟨I, fp, wr, n, P, St, bt, Kp, rfl, W, hst, hfp, hn, hcmp, hKp, hQ⟩ := h₂
  refine wpAny_bind (wpAny_newObj_type ?_)
  have hSf : s₂.heap.objs.size ∉ fp := fun hm => Nat.lt_irrefl _ (hfp _ hm)
  rw [hname]
  have hcmp' : CmpK prog w A.in1 .Gt P bt (fun s' => ∃ h' tk, s' = { s₂ with heap := h', toks := tk } ∧ ∀ b o, b ∉ wr → s₂.heap.get? b = some o → h'.get? b = some o) := fun i j vi vj s' Q' E' ⟨h', tk, e, hk⟩ hi hj q => by
    subst e
    exact hcmp i j vi vj _ Q' E' (hKp h' tk hk) hi hj q
  refine wpAny_pure ⟨plainId_quiet F.plain_max_loop _, max_loop_first (Kp := fun s' => ∃ h' tk, s' = { s₂ with heap := h', toks := tk } ∧ ∀ b o, b ∉ wr → s₂.heap.get? b = some o → h'.get? b = some o) W bt hcmp' s₂.heap.objs.size hSf (fun s' h'' tk'' => ?_) hn (W.frame _ _ _ hst fun b _ o e => Heap.get?_push_of_some _ e) ⟨_, _, rfl, fun b o _ e => Heap.get?_push_of_some _ e⟩ (Heap.get?_push_size _ rfl) fun v h' tk hP hk => ?_⟩
  · rintro ⟨h', tk, rfl, hk⟩ hk''
    exact ⟨h'', tk'', rfl, fun b o hb e => hk'' b o hb (Nat.ne_of_lt (Heap.lt_size e)) (hk b o hb e)⟩
  · exact hQ v h' tk hP fun b o hbw e => hk b o hbw (Nat.ne_of_lt (Heap.lt_size e)) (Heap.get?_push_of_some _ e)
end
end HK
namespace HL
open PySem PySem.SeqAt
open AutoSeq1 (wpAny_loadPart')
open MeetsSeq MeetsSeq2 MeetsSeq3
def GtAt (A : Around) (s : Shared) (y x : Value) (b : Bool) : Prop :=
  ∀ (prog : Program) (w : World) (E : Value → Shared → Prop) (Q : Value → Shared → Prop), Q (.bool b) s → wpAny (model prog w) A (richCompare .Gt y x) Q E s
theorem tuple_gtAt (p q : Addr) (xs ys : Array Value) (n n2 : Nat) (dp dq : Option Addr) (sp sq : Array (Option Value)) (e g : Nat → Bool) :
    Meets (Builtin.«tuple.__gt__» ⟨[.ref p, .ref q], []⟩)
      (fun A R s => s.heap.get? p = some { cls := .type "tuple", dict := dp, data := .seq xs n, slots := sp } ∧ s.heap.get? q = some { cls := .type "tuple", dict := dq, data := .seq ys n2, slots := sq } ∧
        (∀ j (h1 : j < xs.size) (h2 : j < ys.size), EqAt A.in1 s xs[j] ys[j] (e j)) ∧ (∀ j (h1 : j < xs.size) (h2 : j < ys.size), e j = false → GtAt A.in1 s xs[j] ys[j] (g j)) ∧
        R (.ok (.ret (.bool (lexB e g (decide (ys.size < xs.size)) (List.range (min xs.size ys.size)))))) s) :=
  .of_wp fun prog w A R s h => by
    obtain ⟨hp, gs, d, tk, os⟩ := s; obtain ⟨g1, g2, he, hg, h⟩ := h
    have sub := AutoSeq1.sub_tuple_tuple
    have hZ : (xs.toList.zip ys.toList).length = min xs.size ys.size := by simp
    wp_walk using wpAny_loadPart' g1, wpAny_loadPart' g2, wpAny_forIn_list _ (fun rest b s' => b.1 = none ∧ s' = ⟨hp, gs, d, tk, os⟩ ∧ ∃ i, rest = (xs.toList.zip ys.toList).drop i ∧
      R (.ok (.ret (.bool (lexB e g (decide (ys.size < xs.size)) ((List.range (min xs.size ys.size)).drop i))))) ⟨hp, gs, d, tk, os⟩) _
    case turn =>
      rintro ⟨y, x⟩ rest b s' ⟨hb', rfl, i, hz, hR⟩
      have hlt : i < (xs.toList.zip ys.toList).length := Nat.lt_of_not_le fun z => by rw [List.drop_of_length_le z] at hz; cases hz
      have hm : i < min xs.size ys.size := hZ ▸ hlt
      have h1 : i < xs.size := by omega
      have h2 : i < ys.size := by omega
      rw [List.drop_eq_getElem_cons hlt] at hz
      injection hz with hyx hrest
      obtain rfl : y = xs[i] := by simpa using congrArg Prod.fst hyx
      obtain rfl : x = ys[i] := by simpa using congrArg Prod.snd hyx
      have hd : (List.range (min xs.size ys.size)).drop i = i :: (List.range (min xs.size ys.size)).drop (i + 1) := by simp [List.drop_eq_getElem_cons, hm]
      rw [hd] at hR
      have step : lexB e g (decide (ys.size < xs.size)) (i :: (List.range (min xs.size ys.size)).drop (i + 1)) = if e i = true then lexB e g (decide (ys.size < xs.size)) ((List.range (min xs.size ys.size)).drop (i + 1)) else g i := rfl
      rw [step] at hR
      refine wpAny_bind (he i h1 h2 prog w _ _ ?_)
      cases hy : e i with
      | true =>
        rw [hy] at hR
        wp_walk
        exact ⟨rfl, rfl, i + 1, hrest, by simpa using hR⟩
      | false =>
        rw [hy] at hR
        have hg' := hg i h1 h2 hy
        simp only [Bool.not_false, if_true]
        exact wpAny_bind (wpAny_rule (wpAny_bind (hg' prog w _ _ (wpAny_bind (wpAny_pure (wpAny_pure (wpAny_pure ⟨_, rfl, by simpa using hR⟩)))))))
    case fin =>
      rintro ⟨b1, b2⟩ s' ⟨hb', rfl, i, hz, hR⟩
      simp only at hb'
      subst hb'
      have hge : min xs.size ys.size ≤ i := Nat.le_of_not_lt fun z => by
        rw [List.drop_eq_getElem_cons (hZ.symm ▸ z)] at hz; cases hz
      rw [List.drop_of_length_le (by simpa using hge)] at hR
      wp_walk
      exact ⟨_, rfl, by simpa [Builtin.Tuple.tupleCompareSizes, lexB] using hR⟩
    case h =>
      exact ⟨rfl, rfl, 0, rfl, by simpa using h⟩
section
variable {A : Around} {s : Shared}
theorem GtAt.tuples {p q : Addr} {xs ys : Array Value} {e g : Nat → Bool} (hp : s.heap.IsTuple p xs) (hq : s.heap.IsTuple q ys) (hu : A.units < cLine)
    (he : ∀ j (h1 : j < xs.size) (h2 : j < ys.size), EqAt A.in1 s xs[j] ys[j] (e j)) (hg : ∀ j (h1 : j < xs.size) (h2 : j < ys.size), e j = false → GtAt A.in1 s xs[j] ys[j] (g j)) :
    GtAt A s (.ref p) (.ref q) (lexB e g (decide (ys.size < xs.size)) (List.range (min xs.size ys.size))) := fun prog w E Q h => by
  obtain ⟨⟨c1, d1, da1, s1⟩, o1, k1, n1, e1⟩ := id hp
  obtain ⟨⟨c2, d2, da2, s2⟩, o2, k2, n2, e2⟩ := id hq
  simp only at k1 e1 k2 e2
  subst k1 e1 k2 e2
  exact richCompare_meets_room (op := .Gt) ⟨_, o1, rfl⟩ ⟨_, o2, rfl⟩ F.slot_tuple_gt F.entry_tuple_gt (F.args_tuple_gt_2 _ _) (tuple_gtAt p q xs ys n1 n2 d1 d2 s1 s2 e g)
    ⟨o1, o2, he, hg, show Value.bool (lexB e g (decide (ys.size < xs.size)) (List.range (min xs.size ys.size))) ≠ Value.notImplemented ∧ Q _ s from ⟨(fun x => nomatch x), h⟩⟩ hu
theorem GtAt.int (a : Int) (t : Tok) (b : Int) (u : Tok) : GtAt A s (.int a t) (.int b u) (decide (b < a)) := fun _ _ _ _ h => PyProof.Rows.gt_int h
theorem GtAt.str (a : Str) (t : Tok) (b : Str) (u : Tok) : GtAt A s (.str a t) (.str b u) (decide (b.cps.toList < a.cps.toList)) := fun _ _ _ _ h => PySem.P.gt_str h
end
end HL
namespace L2
open PySem PySem.Spec PyProof.Rows HL
mutual
theorem dat_eq_of : ∀ {d e : Dat}, Dat.beq d e = true → d = e
  | .non, .non, _ => rfl
  | .int i, .int j, h => by rw [show i = j from eq_of_beq h]
  | .str i, .str j, h => by rw [show i = j from eq_of_beq h]
  | .tup ds, .tup es, h => by rw [dats_eq_of (ds := ds) (es := es) h]
  | .non, .int _, h => by cases h
  | .non, .str _, h => by cases h
  | .non, .tup _, h => by cases h
  | .int _, .non, h => by cases h
  | .int _, .str _, h => by cases h
  | .int _, .tup _, h => by cases h
  | .str _, .non, h => by cases h
  | .str _, .int _, h => by cases h
  | .str _, .tup _, h => by cases h
  | .tup _, .non, h => by cases h
  | .tup _, .int _, h => by cases h
  | .tup _, .str _, h => by cases h
theorem dats_eq_of : ∀ {ds es : List Dat}, Dat.beqs ds es = true → ds = es
  | [], [], _ => rfl
  | d :: ds, e :: es, h => by
    have h' : (Dat.beq d e && Dat.beqs ds es) = true := h
    rw [Bool.and_eq_true] at h'
    rw [dat_eq_of h'.1, dats_eq_of h'.2]
  | [], _ :: _, h => by cases h
  | _ :: _, [], h => by cases h
end
theorem beqs_iff {ds es : List Dat} : Dat.beqs ds es = true ↔ ds = es := ⟨dats_eq_of, fun h => h ▸ beqs_refl ds⟩
theorem beq_comm : ∀ d e : Dat, Dat.beq d e = Dat.beq e d := by
  intro d e
  cases h : Dat.beq d e with
  | true => rw [dat_eq_of h]; exact (beq_refl e).symm
  | false =>
    cases h2 : Dat.beq e d with
    | false => rfl
    | true => rw [dat_eq_of h2, beq_refl] at h; cases h
theorem gts_lex (ds es : List Dat) : Dat.lts es ds = lexB (fun j => Dat.beq (ds.getD j .non) (es.getD j .non)) (fun j => Dat.lt (es.getD j .non) (ds.getD j .non)) (decide (es.length < ds.length)) (List.range (min ds.length es.length)) := by
  rw [lts_lex es ds, Nat.min_comm]
  congr 1
  funext j
  exact beq_comm _ _
section
variable {X : Cx} {pins : List (Addr × Obj)} {σ : St} {H : Hp} {s : Shared}
theorem dat_gtAt (I : Inv X pins σ H s) : ∀ (n : Nat) (A : Around) {d e : Dat} {x y : V} {u v : Value}, Dat.cmp d e = true → Dat.deep d ≤ n → A.units + n < cLine → IsDat X.K H d x → IsDat X.K H e y → RelV x u → RelV y v → GtAt A s u v (Dat.lt e d) := by
  intro n
  induction n with
  | zero =>
    intro A d e x y u v hc hn hu hd he rx ry
    cases d with
    | non => exact absurd hc (by simp [Dat.cmp])
    | tup ds => exact absurd hn (by simp [Dat.deep])
    | int i =>
      cases e with
      | int j =>
        cases (show x = .int i from hd); cases (show y = .int j from he)
        obtain ⟨t, rfl⟩ := rx; obtain ⟨t', rfl⟩ := ry
        exact GtAt.int i t j t'
      | non => exact absurd hc (by simp [Dat.cmp])
      | str j => exact absurd hc (by simp [Dat.cmp])
      | tup es => exact absurd hc (by simp [Dat.cmp])
    | str i =>
      cases e with
      | str j =>
        cases (show x = .str i from hd); cases (show y = .str j from he)
        obtain ⟨t, rfl⟩ := rx; obtain ⟨t', rfl⟩ := ry
        exact GtAt.str i t j t'
      | non => exact absurd hc (by simp [Dat.cmp])
      | int j => exact absurd hc (by simp [Dat.cmp])
      | tup es => exact absurd hc (by simp [Dat.cmp])
  | succ n ih =>
    intro A d e x y u v hc hn hu hd he rx ry
    cases d with
    | non => exact absurd hc (by simp [Dat.cmp])
    | int i => exact ih A hc (Nat.zero_le _) (by omega) hd he rx ry
    | str i => exact ih A hc (Nat.zero_le _) (by omega) hd he rx ry
    | tup ds =>
      cases e with
      | non => exact absurd hc (by simp [Dat.cmp])
      | int j => exact absurd hc (by simp [Dat.cmp])
      | str j => exact absurd hc (by simp [Dat.cmp])
      | tup es =>
        obtain ⟨a, xs, rfl, q1, h1⟩ := hd
        obtain ⟨b, ys, rfl, q2, h2⟩ := he
        obtain ⟨its, r1, p1, _⟩ := I.tuple q1
        obtain ⟨its2, r2, p2, _⟩ := I.tuple q2
        cases rx; cases ry
        have l1 := h1.length
        have l2 := h2.length
        have s1 : its.toArray.size = ds.length := by rw [List.size_toArray, ← r1.length, l1]
        have s2 : its2.toArray.size = es.length := by rw [List.size_toArray, ← r2.length, l2]
        have hdp : ∀ {j}, ds.getD j .non ∈ ds → Dat.deep (ds.getD j .non) ≤ n := fun m1 => by
          have h3 := deep_at m1
          have h4 : Dat.deeps ds + 1 ≤ n + 1 := hn
          omega
        have key := GtAt.tuples (e := fun j => Dat.beq (ds.getD j .non) (es.getD j .non)) (g := fun j => Dat.lt (es.getD j .non) (ds.getD j .non)) p1 p2 (by omega : A.units < cLine)
          (fun j j1 j2 => by
            obtain ⟨x', d1, rx', m1⟩ := dat_at (A := A) h1 r1 j1
            obtain ⟨y', d2, ry', _⟩ := dat_at (A := A) h2 r2 j2
            exact dat_eqAt I n A.in1 (hdp m1) (by show A.units + 1 + n < cLine; omega) d1 d2 rx' ry')
          (fun j j1 j2 _ => by
            obtain ⟨x', d1, rx', m1⟩ := dat_at (A := A) h1 r1 j1
            obtain ⟨y', d2, ry', _⟩ := dat_at (A := A) h2 r2 j2
            exact ih A.in1 (cmps_at hc (by omega) (by omega)) (hdp m1) (by show A.units + 1 + n < cLine; omega) d1 d2 rx' ry')
        rw [s1, s2, ← gts_lex] at key
        exact key
end
end L2
namespace L2
open PySem PySem.Spec PyProof.Rows HL
section
variable {X : Cx}
theorem rc_eqD {pins : List (Addr × Obj)} {σ : St} {H : Hp} {s : Shared} (I : Inv X pins σ H s) (hu : X.A.units + 8 < cLine) {ds es : List Dat} {a b : Addr} {xs ys : List V} (q1 : SqT X.K H a xs) (q2 : SqT X.K H b ys) (h1 : AreDat X.K H ds xs) (h2 : AreDat X.K H es ys) (hdp : Dat.deeps ds ≤ 6) : SeqAt.RcAt X.A s (.ref a) (.ref b) (Dat.beqs ds es) := by
  obtain ⟨its, r1, p1, _⟩ := I.tuple q1
  obtain ⟨its2, r2, p2, _⟩ := I.tuple q2
  have s1 : its.toArray.size = ds.length := by rw [List.size_toArray, ← r1.length, h1.length]
  have s2 : its2.toArray.size = es.length := by rw [List.size_toArray, ← r2.length, h2.length]
  have key := SeqAt.RcAt.tuples (A := X.A) (s := s) (e := fun j => Dat.beq (ds.getD j .non) (es.getD j .non)) p1 p2 (by omega) fun j j1 j2 => by
    obtain ⟨x', d1, rx', m1⟩ := dat_at (A := X.A) h1 r1 j1
    obtain ⟨y', d2, ry', _⟩ := dat_at (A := X.A) h2 r2 j2
    have h3 := deep_at m1
    exact dat_eqAt I 6 X.A.in1 (by omega) (by show X.A.units + 1 + 6 < cLine; omega) d1 d2 rx' ry'
  rw [s1, s2, ← beqs_all] at key
  exact key
def rEqD (K : PySem.W.Frag) : R2 := fun x y H Q => ∃ ds es, IsDat K H (.tup ds) x ∧ IsDat K H (.tup es) y ∧ Dat.deeps ds ≤ 6 ∧ Q (.bl (Dat.beqs ds es)) H
def rNeD (K : PySem.W.Frag) : R2 := fun x y H Q => ∃ ds es, IsDat K H (.tup ds) x ∧ IsDat K H (.tup es) y ∧ Dat.deeps ds ≤ 6 ∧ Q (.bl (!Dat.beqs ds es)) H
theorem op_eqD (hu : X.A.units + 8 < cLine) : OpR X (compareOp .Eq) (rEqD X.K) := by
  intro pins s σ H x y v u Q I rx ry h
  obtain ⟨ds, es, ⟨a, xs, rfl, q1, h1⟩, ⟨b, ys, rfl, q2, h2⟩, hdp, q⟩ := h
  cases rx
  cases ry
  exact rc_eqD I hu q1 q2 h1 h2 hdp _ _ _ _ ⟨.bl _, H, I, rfl, q⟩
theorem op_neD (hu : X.A.units + 8 < cLine) : OpR X (compareOp .NotEq) (rNeD X.K) := by
  intro pins s σ H x y v u Q I rx ry h
  obtain ⟨ds, es, ⟨a, xs, rfl, q1, h1⟩, ⟨b, ys, rfl, q2, h2⟩, hdp, q⟩ := h
  cases rx
  cases ry
  obtain ⟨its, r1, p1, _⟩ := I.tuple q1
  obtain ⟨its2, r2, p2, _⟩ := I.tuple q2
  have s1 : its.toArray.size = ds.length := by rw [List.size_toArray, ← r1.length, h1.length]
  have s2 : its2.toArray.size = es.length := by rw [List.size_toArray, ← r2.length, h2.length]
  have key := SeqAt.RcNeAt.tuples (A := X.A) (s := s) (e := fun j => Dat.beq (ds.getD j .non) (es.getD j .non)) p1 p2 (by omega) fun j j1 j2 => by
    obtain ⟨x', d1, rx', m1⟩ := dat_at (A := X.A) h1 r1 j1
    obtain ⟨y', d2, ry', _⟩ := dat_at (A := X.A) h2 r2 j2
    have h3 := deep_at m1
    exact dat_eqAt I 6 X.A.in1 (by omega) (by show X.A.units + 1 + 6 < cLine; omega) d1 d2 rx' ry'
  rw [s1, s2, ← beqs_all] at key
  exact key _ _ _ _ ⟨.bl _, H, I, rfl, q⟩
theorem dats_any {H : Hp} {e : Dat} {f : Value → Bool} : ∀ {ds : List Dat} {xs : List V} {its : List Value}, AreDat X.K H ds xs → Vals xs its → (∀ d x u, d ∈ ds → IsDat X.K H d x → RelV x u → u ∈ its → f u = Dat.beq d e) → its.any f = ds.any fun d => Dat.beq d e
  | [], _, _, h, r, _ => by rw [show _ = [] from h] at r; cases r; rfl
  | d :: ds, _, _, ⟨y, ys, e1, h1, h2⟩, r, hf => by
    subst e1
    cases r with
    | cons r1 r2 =>
      rw [List.any_cons, List.any_cons, hf d y _ (List.mem_cons_self ..) h1 r1 (List.mem_cons_self ..), dats_any h2 r2 fun d' x' u' hd hi hr hu => hf d' x' u' (List.mem_cons_of_mem _ hd) hi hr (List.mem_cons_of_mem _ hu)]
theorem dats_get {H : Hp} : ∀ {ds : List Dat} {xs : List V} {its : List Value} {u : Value}, AreDat X.K H ds xs → Vals xs its → u ∈ its → ∃ d x, d ∈ ds ∧ IsDat X.K H d x ∧ RelV x u
  | [], _, _, _, h, r, hu => by rw [show _ = [] from h] at r; cases r; cases hu
  | d :: ds, _, _, u, ⟨y, ys, e1, h1, h2⟩, r, hu => by
    subst e1
    cases r with
    | cons r1 r2 =>
      rcases List.mem_cons.mp hu with rfl | hu
      · exact ⟨d, y, List.mem_cons_self .., h1, r1⟩
      · obtain ⟨d', x', hm, hi, hr⟩ := dats_get h2 r2 hu
        exact ⟨d', x', List.mem_cons_of_mem _ hm, hi, hr⟩
def rInD (K : PySem.W.Frag) (neg : Bool) : R2 := fun x y H Q => ∃ p ds es xs, IsDat K H es x ∧ y = .ref p ∧ (SqL K H p xs ∨ SqT K H p xs) ∧ AreDat K H ds xs ∧ Dat.deeps ds ≤ 6 ∧ Q (.bl (if neg then !(ds.any fun d => Dat.beq d es) else ds.any fun d => Dat.beq d es)) H
open Classical in
theorem in_D (neg : Bool) (hu : X.A.units + 8 < cLine) : OpR X (compareOp (if neg then .NotIn else .In)) (rInD X.K neg) := by
  intro pins s σ H x y v u Q I rx ry h
  obtain ⟨p, ds, es, xs, he, rfl, hq, hd, hdp, q⟩ := h
  cases ry
  have key : ∀ {its : List Value}, Vals xs its → ∃ f : Value → Bool, (∀ u ∈ its, SeqAt.EqAt X.A.in1 s u v (f u)) ∧ its.any f = ds.any fun d => Dat.beq d es := fun {its} r => by
    let f : Value → Bool := fun u => decide (∃ d x, d ∈ ds ∧ IsDat X.K H d x ∧ RelV x u ∧ Dat.beq d es = true)
    have fE : ∀ u d x, d ∈ ds → IsDat X.K H d x → RelV x u → f u = Dat.beq d es := fun u d x hm hi hr => by
      cases hb : Dat.beq d es with
      | true => exact decide_eq_true ⟨d, x, hm, hi, hr, hb⟩
      | false =>
        refine decide_eq_false ?_
        rintro ⟨d', x', hm', hi', hr', hb'⟩
        have e' := dat_eq_of hb'
        subst e'
        have ex := RelV.inj hr hr'
        subst ex
        have := dat_det I hi hi'
        rw [hb] at this
        cases this
    refine ⟨f, fun u hu' => ?_, dats_any hd r fun d x u hm hi hr _ => fE u d x hm hi hr⟩
    obtain ⟨d, x', hm, hi, hr⟩ := dats_get hd r hu'
    rw [fE u d x' hm hi hr]
    exact dat_eqAt I 6 X.A.in1 (Nat.le_trans (deep_at hm) hdp) (by show X.A.units + 1 + 6 < cLine; omega) hi he hr rx
  cases neg
  · rcases hq with hq | hq
    · obtain ⟨its, r, pl, hz⟩ := I.list hq
      obtain ⟨f, f1, f2⟩ := key r
      refine SeqAt.in_listAt f pl.isList (fun w hw => f1 w (by simpa using hw)) ⟨.bl _, H, I, rfl, ?_⟩
      rw [show its.toArray.any f = its.any f by simp, f2]
      exact q
    · obtain ⟨its, r, pl, hz⟩ := I.tuple hq
      obtain ⟨f, f1, f2⟩ := key r
      refine SeqAt.in_tupleAt f pl (fun w hw => f1 w (by simpa using hw)) ⟨.bl _, H, I, rfl, ?_⟩
      rw [show its.toArray.any f = its.any f by simp, f2]
      exact q
  · rcases hq with hq | hq
    · obtain ⟨its, r, pl, hz⟩ := I.list hq
      obtain ⟨f, f1, f2⟩ := key r
      refine SeqAt.notIn_listAt f pl.isList (fun w hw => f1 w (by simpa using hw)) ⟨.bl _, H, I, rfl, ?_⟩
      rw [show its.toArray.any f = its.any f by simp, f2]
      exact q
    · obtain ⟨its, r, pl, hz⟩ := I.tuple hq
      obtain ⟨f, f1, f2⟩ := key r
      refine SeqAt.notIn_tupleAt f pl (fun w hw => f1 w (by simpa using hw)) ⟨.bl _, H, I, rfl, ?_⟩
      rw [show its.toArray.any f = its.any f by simp, f2]
      exact q
theorem op_notInD (hu : X.A.units + 8 < cLine) : OpR X (compareOp .NotIn) (rInD X.K true) := in_D true hu
end
end L2
namespace L2
open PySem PySem.Spec PyProof.Rows HL
section
variable {X : Cx}
def maxD (ds : List Dat) : Dat := ds.getD (argBest (fun i j => Dat.lt (ds.getD j .non) (ds.getD i .non)) (ds.length - 1)) .non
theorem call_maxD (hc : X.calm = true) (hu : X.A.units + 8 < cLine) : CallR X (.builtin "max") (fun xs H Q => ∃ a ds ys, xs = [.ref a] ∧ SqL X.K H a ys ∧ AreDat X.K H ds ys ∧ ds ≠ [] ∧ Dat.deeps ds ≤ 6 ∧ (∀ d ∈ ds, ∀ e ∈ ds, Dat.cmp d e = true) ∧ ∀ v, IsDat X.K H (maxD ds) v → Q v H) := by
  intro pins s σ H xs us Q I r h
  obtain ⟨a, ds, ys, rfl, hq, hd, hne, hdp, hcm, q⟩ := h
  obtain ⟨u, rfl, ru⟩ := vals1 r
  cases ru
  obtain ⟨its, ri, pl, hz⟩ := I.list hq
  have hl : its.length = ds.length := by rw [← ri.length, hd.length]
  have hp : 0 < ds.length := List.length_pos_iff.mpr hne
  have al : a < s.heap.objs.size := by obtain ⟨o, ho, _⟩ := pl.isList; exact Heap.lt_size ho
  have at_ : ∀ i v, its.toArray[i]? = some v → ∃ x, IsDat X.K H (ds.getD i .non) x ∧ RelV x v ∧ ds.getD i .non ∈ ds := fun i v hv => by
    have hi : i < its.toArray.size := by
      rcases Nat.lt_or_ge i its.toArray.size with h | h
      · exact h
      · rw [Array.getElem?_eq_none h] at hv; cases hv
    obtain ⟨x, h1, h2, h3⟩ := dat_at (A := X.A) hd ri hi
    rw [Array.getElem?_eq_getElem hi] at hv
    injection hv with hv
    rw [hv] at h2
    exact ⟨x, h1, h2, h3⟩
  refine HK.call_max_walkK (wpAny_pyIter_list pl.isList ?_)
  have kp : ∀ h' tk, (∀ b o, b ∉ [s.heap.objs.size] → (s.heap.push { cls := .type "list_iterator", data := .fields #[.ref a, .int 0 0] }).get? b = some o → h'.get? b = some o) → Inv X pins σ H { s with heap := h', toks := tk } := fun h' tk hk =>
    I.kept (h' := h') (t' := tk) fun b o eb => hk b o (by simp; exact Nat.ne_of_lt (Heap.lt_size eb)) (Heap.get?_push_of_some _ eb)
  refine ⟨s.heap.objs.size, [s.heap.objs.size, a], [s.heap.objs.size], its.toArray.size, _, _, fun i j => Dat.lt (ds.getD j .non) (ds.getD i .non), fun s' => ∃ h' tk, s' = { s with heap := h', toks := tk } ∧ Inv X pins σ H { s with heap := h', toks := tk }, rfl, Walks.list (show X.A.in1.handled = none from I.ok.hd hc) _ a (Nat.ne_of_lt al) its.toArray,
    ⟨⟨_, Heap.get?_push_size _ rfl, rfl, rfl⟩, pl.isList.push _⟩, fun b hb => ?_, by rw [List.size_toArray]; omega, ?_, fun h' tk hk => ⟨h', tk, rfl, kp h' tk hk⟩, fun v h' tk hv hk => ?_⟩
  · show b < (s.heap.push _).objs.size
    rw [Heap.size_push]
    simp at hb
    rcases hb with e | e
    · rw [e]; exact Nat.lt_succ_self _
    · rw [e]; exact Nat.lt_succ_of_lt al
  · rintro i j vi vj s' Q' E' ⟨h', tk, rfl, I'⟩ hi hj hQ
    obtain ⟨x, d1, r1, m1⟩ := at_ i vi hi
    obtain ⟨y, d2, r2, m2⟩ := at_ j vj hj
    exact dat_gtAt I' 6 X.A.in1 (hcm _ m1 _ m2) (Nat.le_trans (deep_at m1) hdp) (by show X.A.units + 1 + 6 < cLine; omega) d1 d2 r1 r2 _ _ _ _ hQ
  · have e : its.toArray.size - 1 = ds.length - 1 := by rw [List.size_toArray, hl]
    rw [e] at hv
    obtain ⟨x, h1, h2, _⟩ := at_ _ v hv
    exact ⟨x, H, kp h' tk hk, h2, q x h1⟩
def tPar3 (i j k : Nat) (ta : TA) : TS := fun D σ H => ta σ H fun vs H1 => ∃ v w x, vs = [v, w, x] ∧ D.nx (((σ.set i (some v)).set j (some w)).set k (some x)) H1
theorem ps_par3 {i j k : Nat} {x y z : Str} {a b c : Expr} {ta : TA} {px py pz pt pos : Pos} {kt k2 pt2} (hc : X.calm = true) (hN : X.N.Nodup) (hi : X.N[i]? = some x) (hj : X.N[j]? = some y) (hk : X.N[k]? = some z) (hij : i ≠ j) (hik : i ≠ k) (hjk : j ≠ k)
    (hx : X.env.scope.names.lookup x = some .local) (hy : X.env.scope.names.lookup y = some .local) (hz : X.env.scope.names.lookup z = some .local) (ha : PA X [a, b, c] ta)
    (hw : swappedStores [.Tuple [.Name x px, .Name y py, .Name z pz] kt pt] (.Tuple [a, b, c] k2 pt2) X.env = pure (some [x, y, z]))
    (hs : swapsWithSole [.Tuple [.Name x px, .Name y py, .Name z pz] kt pt] (.Tuple [a, b, c] k2 pt2) pos.line X.env = pure false := by rfl) :
    PS X (.Assign [.Tuple [.Name x px, .Name y py, .Name z pz] kt pt] (.Tuple [a, b, c] k2 pt2) pos) (tPar3 i j k ta) := by
  intro pins s σ H D I h
  rw [exec_Assign_arm]
  refine wpAny_bind (wpAny_standAt ?_)
  rw [hs]
  refine wpAny_bind (wpAny_pure ?_)
  rw [if_neg (by decide)]
  refine wpAny_bind (Tuple_ (thn (ha _ pins s σ H _ I h) fun us s1 ⟨vs, H1, I1, r1, q1⟩ => ?_))
  obtain ⟨v, w, v3, e1, q1⟩ := q1
  subst e1
  obtain ⟨u1, u2, u3, rfl, rv, rw', rx'⟩ : ∃ u1 u2 u3, us = [u1, u2, u3] ∧ RelV v u1 ∧ RelV w u2 ∧ RelV v3 u3 := by
    cases r1 with
    | cons p q =>
      cases q with
      | cons p' q' =>
        cases q' with
        | cons p'' q'' =>
          cases q''
          exact ⟨_, _, _, rfl, p, p', p''⟩
  refine wpAny_newObj_type ?_ (by show 3 ≤ sizeLine; decide)
  have I2 : Inv X pins σ H1 { s1 with heap := s1.heap.push { cls := .type "tuple", data := .seq [u1, u2, u3].toArray } } := I1.kept (t' := s1.toks) fun b o e => Heap.get?_push_of_some _ e
  rw [hw]
  refine wpAny_bind (wpAny_pure ?_)
  show wpAny (model X.prog X.w) X.A (do rule "assign.swapped-stores"; let items ← unpackItems (.ref s1.heap.objs.size) 3 none; assignInOrder [fun v => bindName X.env z v, fun v => bindName X.env y v, fun v => bindName X.env x v] items.reverse; pure Flow.next) _ _ _
  refine wpAny_bind (wpAny_rule (wpAny_bind (unpackItems_tuple (items := #[u1, u2, u3]) (I.ok.hd hc) (IsTup.new s1.heap _) fun h' hx' => ?_)))
  have I3 := I2.kept (h' := h') (t' := s1.toks) fun b o e => hx' b o (Nat.ne_of_lt (Heap.lt_size e)) e
  show wpAny _ _ (assignInOrder [fun v => bindName X.env z v, fun v => bindName X.env y v, fun v => bindName X.env x v] [u3, u2, u1] >>= fun _ => pure Flow.next) _ _ _
  refine wpAny_bind (assignInOrder_cons (wpAny_bindName (store_ok I3 hN hk (.inl hz) rx' (fun s2 I4 => ?_) (.inr hz))))
  refine assignInOrder_cons (wpAny_bindName (store_ok I4 hN hj (.inl hy) rw' (fun s3 I5 => ?_) (.inr hy)))
  refine assignInOrder_cons (wpAny_bindName (store_ok I5 hN hi (.inl hx) rv (fun s4 I6 => assignInOrder_nil (wpAny_pure ?_)) (.inr hx)))
  have e : ((σ.set k (some v3)).set j (some w)).set i (some v) = ((σ.set i (some v)).set j (some w)).set k (some v3) := by
    rw [List.set_comm _ _ (Ne.symm hjk), List.set_comm _ _ (Ne.symm hik), List.set_comm _ _ (Ne.symm hij)]
  rw [e] at I6
  exact ⟨_, H1, I6, q1⟩
end
end L2
namespace HM
open PySem
theorem mul_meets01 (l : Addr) (items : Array Value) (n : Nat) (d : Option Addr) (sl : Array (Option Value)) (x : Int) (u : Tok) (hx : x = 0 ∨ x = 1) (hne : items.isEmpty = false) :
    Meets (Builtin.«tuple.__mul__» ⟨[.ref l, .int x u], []⟩) (fun _ R s => s.heap.get? l = some { cls := .type "tuple", dict := d, data := .seq items n, slots := sl } ∧
      (x = 1 → R (.ok (.ret (.ref l))) s) ∧ (x = 0 → R (.ok (.ret (.ref s.heap.objs.size))) { s with heap := s.heap.push { cls := .type "tuple", data := .seq #[] } })) :=
  .of_wp fun prog w A R s h => by
    obtain ⟨hp, g, dr, tk, os⟩ := s; obtain ⟨hl, h1, h0⟩ := h
    rcases hx with rfl | rfl
    · wp_walk
      exact ⟨_, rfl, h0 rfl⟩
    · wp_walk
      exact ⟨_, rfl, h1 rfl⟩
section
variable {prog : Program} {w : World} {A : Around} {E : Value → Shared → Prop} {s : Shared}
theorem mul_t01 {l : Addr} {o : Obj} {its : List Value} {k : Nat} {x : Int} {u : Tok} {Q : Value → Shared → Prop} (ho : s.heap.get? l = some o) (hc : o.cls = .type "tuple") (hd : o.data = .seq its.toArray k) (hx : x = 0 ∨ x = 1) (hne : its ≠ [])
    (h1 : x = 1 → Q (.ref l) s) (h0 : x = 0 → Q (.ref s.heap.objs.size) { s with heap := s.heap.push { cls := .type "tuple", data := .seq #[] } }) :
    wpAny (model prog w) A (binaryOp .Mult (.ref l) (.int x u)) Q E s := by
  obtain ⟨oc, od, dt, sl⟩ := o
  cases hc; cases hd
  have ty : s.TypeIs (.ref l) "tuple" := ⟨_, ho, rfl⟩
  have hem : its.toArray.isEmpty = false := by cases its with | nil => exact absurd rfl hne | cons a r => simp
  refine wpAny_binaryOp_repeat_ref (T := "tuple") (U := "int") (by decide) ty (fun s' => typeIs_int s' x u) nofill_t F.fills_int_mul F.slot_int_rmul rep_t F.slot_int_index.lookup
    (call_meets F.slot_int_rmul (typeIs_int s x u) F.entry_int_rmul (F.args_int_rmul_2 _ _) (rmul_t x u l its.toArray k od sl) ⟨ho, rfl, ty, ?_⟩)
  exact call_meets F.slot_tuple_mul ty F.entry_tuple_mul (F.args_tuple_mul_2 _ _) (mul_meets01 l its.toArray k od sl x u hx hem) ⟨ho, h1, h0⟩
end
end HM
namespace L2
open PySem PySem.Spec PyProof.Rows
section
variable {X : Cx}
theorem op_mulT01 : OpR X (binaryOp .Mult) (fun x y H Q => ∃ a xs n, x = .ref a ∧ y = .int n ∧ H a = some (.tup xs) ∧ xs ≠ [] ∧ (n = 0 ∨ n = 1) ∧ ∀ p H', Same H H' → H' p = some (.tup (List.replicate n.toNat xs).flatten) → Q (.ref p) H') := by
  intro pins s σ H x y v u Q I rx ry h
  obtain ⟨a, xs, n, rfl, rfl, hH, hne, hn, q⟩ := h
  cases rx
  obtain ⟨t', rfl⟩ := ry
  obtain ⟨its, r, p, _⟩ := I.tuple (SqT.of hH)
  obtain ⟨o, ho, hc, k, hd⟩ := p
  refine HM.mul_t01 ho hc hd hn (fun e => hne (by subst e; cases r; rfl)) (fun e => ?_) fun e => ?_
  · subst e
    refine ⟨.ref a, H, I, rfl, q a H (Same.refl _) ?_⟩
    rw [hH]
    simp
  · subst e
    have I2 := I.laid (t' := s.toks) (h' := s.heap.push { cls := .type "tuple", data := .seq #[] }) (o := .tup []) (fun b u e => Heap.get?_push_of_some _ e) (Nat.le_refl _) ⟨Nat.zero_le _, [], .nil, ⟨_, Heap.get?_push_size _ rfl, rfl, _, rfl⟩, _, Heap.get?_push_size _ rfl, rfl⟩
    exact ⟨.ref s.heap.objs.size, _, I2, rfl, q _ _ (Same.new I.fresh _) upd_same⟩
end
end L2
namespace L2
open PySem PySem.Spec PyProof.Rows
section
variable {X : Cx}
def rNeS (K : PySem.W.Frag) : R2 := fun x y H Q => ∃ ds, IsDat K H (.tup ds) x ∧ IsDat K H (.tup ds) y ∧ Dat.deeps ds ≤ 6 ∧ Q (.bl false) H
def rEqS (K : PySem.W.Frag) : R2 := fun x y H Q => ∃ ds, IsDat K H (.tup ds) x ∧ IsDat K H (.tup ds) y ∧ Dat.deeps ds ≤ 6 ∧ Q (.bl true) H
theorem op_neS (hu : X.A.units + 8 < cLine) : OpR X (compareOp .NotEq) (rNeS X.K) := by
  intro pins s σ H x y v u Q I rx ry h
  obtain ⟨ds, h1, h2, h3, q⟩ := h
  refine op_neD hu pins s σ H x y v u Q I rx ry ⟨ds, ds, h1, h2, h3, ?_⟩
  rw [beqs_refl]
  exact q
theorem op_eqS (hu : X.A.units + 8 < cLine) : OpR X (compareOp .Eq) (rEqS X.K) := by
  intro pins s σ H x y v u Q I rx ry h
  obtain ⟨ds, h1, h2, h3, q⟩ := h
  refine op_eqD hu pins s σ H x y v u Q I rx ry ⟨ds, ds, h1, h2, h3, ?_⟩
  rw [beqs_refl]
  exact q
theorem op_neLS (hu : X.A.units + 8 < cLine) : OpR X (compareOp .NotEq) (fun x y H Q => ∃ a b ds xs ys, x = .ref a ∧ y = .ref b ∧ SqL X.K H a xs ∧ SqL X.K H b ys ∧ AreDat X.K H ds xs ∧ AreDat X.K H ds ys ∧ Dat.deeps ds ≤ 3 ∧ Q (.bl false) H) := by
  intro pins s σ H x y v u Q I rx ry h
  obtain ⟨a, b, ds, xs, ys, e1, e2, h1, h2, h3, h4, h5, q⟩ := h
  exact op_neA hu pins s σ H x y v u Q I rx ry ⟨a, b, ds, xs, ys, e1, e2, .inr ⟨h1, h2⟩, h3, h4, h5, q⟩
end
theorem deeps_map {α : Type} {f : α → Dat} {n : Nat} : ∀ {L : List α}, (∀ x ∈ L, Dat.deep (f x) ≤ n) → Dat.deeps (L.map f) ≤ n
  | [], _ => Nat.zero_le _
  | x :: L, h => by
    show max (Dat.deep (f x)) (Dat.deeps (L.map f)) ≤ n
    exact Nat.max_le.mpr ⟨h x (List.mem_cons_self ..), deeps_map fun y hy => h y (List.mem_cons_of_mem _ hy)⟩
theorem are_map {α : Type} {K : PySem.W.Frag} {H : Hp} {f : α → Dat} {g : α → V} : ∀ {L : List α}, (∀ x ∈ L, IsDat K H (f x) (g x)) → AreDat K H (L.map f) (L.map g)
  | [], _ => rfl
  | x :: L, h => ⟨_, _, rfl, h x (List.mem_cons_self ..), are_map fun y hy => h y (List.mem_cons_of_mem _ hy)⟩
theorem best_is {bt : Nat → Nat → Bool} (n : Nat) (tr : ∀ i j k, i ≤ n → j ≤ n → k ≤ n → bt i j = false → bt k j = true → bt i k = false) (irr : ∀ i, i ≤ n → bt i i = false) : ∀ k, k ≤ n → ∀ i, i ≤ k → bt i (argBest bt k) = false
  | 0, hk, i, hi => by
    have : i = 0 := by omega
    subst this
    exact irr 0 (Nat.zero_le _)
  | k + 1, hk, i, hi => by
    have ih := best_is n tr irr k (by omega)
    have hb := best_le bt k
    show bt i (if bt (k + 1) (argBest bt k) then k + 1 else argBest bt k) = false
    cases h : bt (k + 1) (argBest bt k) with
    | true =>
      rw [if_pos rfl]
      by_cases e : i = k + 1
      · subst e; exact irr _ hk
      · exact tr i (argBest bt k) (k + 1) (by omega) (by omega) hk (ih i (by omega)) h
    | false =>
      rw [if_neg Bool.false_ne_true]
      by_cases e : i = k + 1
      · subst e; exact h
      · exact ih i (by omega)
end L2
namespace Co
open PySem L2 Mi
theorem cls_dat {K : PySem.W.Frag} {H : Hp} {p : Addr} {L : List Cl} (h : ClsAt H p L) : IsDat K H (.tup (L.map clD)) (.ref p) := by
  obtain ⟨cs, h1, h2, h3⟩ := h
  refine ⟨p, _, rfl, SqT.of h1, ?_⟩
  rw [← h3, List.map_map]
  exact are_map fun x hx => cl_dat (h2 x hx)
theorem cls_deep (L : List Cl) : Dat.deeps (L.map clD) ≤ 3 := deeps_map fun c _ => cl_deep c
theorem tups_dat {K : PySem.W.Frag} {H : Hp} {p : Addr} {T : List (List Str)} (h : TupsH H p T) : IsDat K H (.tup (T.map tupD)) (.ref p) := by
  obtain ⟨rs, h1, h2, h3⟩ := h
  refine ⟨p, _, rfl, SqT.of h1, ?_⟩
  rw [← h3]
  exact dat_tups h2
theorem tup_beq (u v : List Str) : Dat.beqs (u.map Dat.str) (v.map Dat.str) = decide (u = v) := by
  rw [Bool.eq_iff_iff, beqs_iff, decide_eq_true_eq]
  constructor
  · intro h
    have e := congrArg (List.map fun d => match d with | Dat.str x => x | _ => ("" : Str)) h
    rw [List.map_map, List.map_map] at e
    have id' : ∀ l : List Str, l.map ((fun d => match d with | Dat.str x => x | _ => ("" : Str)) ∘ Dat.str) = l := fun l => by
      have : ∀ z ∈ l, ((fun d => match d with | Dat.str x => x | _ => ("" : Str)) ∘ Dat.str) z = z := fun z _ => rfl
      rw [List.map_congr_left this, List.map_id']
    rw [id', id'] at e
    exact e
  · rintro rfl; rfl
theorem str_dat {K : PySem.W.Frag} {H : Hp} {a : Addr} {u : List Str} (h : H a = some (.tup (u.map V.str))) : IsDat K H (tupD u) (.ref a) := ⟨a, _, rfl, SqT.of h, dat_strs' u⟩
theorem mergeT_keys : ∀ {gs : List (List Str × V)} {us : List (List Str)} {kvs : List (List Key × V)}, kvs.map (·.1) = (us.map fun t => t.map Sum.inr) → us.Nodup →
    ∃ us' : List (List Str), (mergeT kvs (gs.map fun g => (g.1.map Sum.inr, g.2))).map (·.1) = (us'.map fun t => t.map Sum.inr) ∧ us'.Nodup ∧ (∀ u, u ∈ us' ↔ u ∈ us ∨ u ∈ gs.map (·.1)) ∧ us'.length ≤ us.length + gs.length
  | [], us, kvs, h, nd => ⟨us, h, nd, by simp, by simp⟩
  | g :: gs, us, kvs, h, nd => by
    have nd2 : (if g.1 ∈ us then us else us ++ [g.1]).Nodup := by
      by_cases c : g.1 ∈ us
      · rw [if_pos c]; exact nd
      · rw [if_neg c, List.nodup_append]
        exact ⟨nd, by simp, fun y hy z hz e => by rw [List.mem_singleton.mp hz] at e; exact c (e ▸ hy)⟩
    obtain ⟨us', e1, e2, e3, e4⟩ := mergeT_keys (gs := gs) (putKT_keys (v := g.2) (u := g.1) h) nd2
    refine ⟨us', e1, e2, fun u => ?_, ?_⟩
    · rw [e3, List.map_cons, List.mem_cons]
      by_cases c : g.1 ∈ us
      · rw [if_pos c]
        exact ⟨fun h => h.elim .inl fun h => .inr (.inr h), fun h => h.elim .inl fun h => h.elim (fun e => .inl (e ▸ c)) .inr⟩
      · rw [if_neg c, List.mem_append, List.mem_singleton]
        exact ⟨fun h => h.elim (fun h => h.elim .inl fun e => .inr (.inl e)) fun h => .inr (.inr h), fun h => h.elim (fun h => .inl (.inl h)) fun h => h.elim (fun e => .inl (.inr e)) .inr⟩
    · have : (if g.1 ∈ us then us else us ++ [g.1]).length ≤ us.length + 1 := by
        by_cases c : g.1 ∈ us
        · rw [if_pos c]; omega
        · rw [if_neg c, List.length_append]; simp
      rw [List.length_cons]; omega
theorem made_pairs0 {K : PySem.W.Frag} {H : Hp} : ∀ {cs : List (Addr × Addr × Cl)} {ys : List V}, ClsIn H cs → Paired (fun x v => ∃ b0 a c, x = V.ref b0 ∧ ClH H b0 a c ∧ ∃ b, v = V.ref b ∧ H b = some (.tup [.ref a, .int 0])) (crefs cs) ys → PairsT K H ys ((cs.map fun r => (r.2.2.ad, V.int 0)).map fun g => (g.1.map Sum.inr, g.2))
  | [], _, _, h => by cases h; exact .nil
  | r :: cs, _, hc, h => by
    have h' : Paired (fun x v => ∃ b0 a c, x = V.ref b0 ∧ ClH H b0 a c ∧ ∃ b, v = V.ref b ∧ H b = some (.tup [.ref a, .int 0])) (V.ref r.1 :: crefs cs) _ := h
    cases h' with
    | cons h1 h2 =>
      obtain ⟨b0, a, c, e, hcl, b, rfl, hb⟩ := h1
      injection e with e
      subst e
      have hr := hc r (List.mem_cons_self ..)
      have e1 := hr.1
      rw [hcl.1] at e1
      injection e1 with e1
      injection e1 with e1
      injection e1 with e1 _
      injection e1 with e1
      subst e1
      have ek : (r.2.2.ad.map V.str) = ((r.2.2.ad.map Sum.inr : List Key).map kV) := by rw [List.map_map]; rfl
      exact .cons ⟨b, r.2.1, rfl, SqT.of hb, by rw [← ek]; exact hr.2⟩ (made_pairs0 (fun x hx => hc x (List.mem_cons_of_mem _ hx)) h2)
abbrev tailD (c : Cl) : Dat := .tup [.int c.ck, .str c.hd, .int c.nm]
theorem tail_lt (c d : Cl) : Dat.lt (tailD c) (tailD d) = ltC c d := lt_tail c d
theorem max_tail {L : List Cl} {m : Cl} (hm : m ∈ L) (hmax : ∀ d ∈ L, ltC m d = false) (had : ∀ d ∈ L, d.ad = m.ad) : maxD (L.map tailD) = tailD m := by
  have hp : 0 < L.length := List.length_pos_iff.mpr fun e => by rw [e] at hm; cases hm
  let c0 : Cl := ⟨[], 0, "", 0⟩
  have at_ : ∀ i, i < L.length → (L.map tailD).getD i .non = tailD (L.getD i c0) := fun i hi => by
    rw [List.getD_eq_getElem?_getD, List.getD_eq_getElem?_getD, List.getElem?_map, List.getElem?_eq_getElem hi]
    rfl
  have mem_ : ∀ i, i < L.length → L.getD i c0 ∈ L := fun i hi => by
    rw [List.getD_eq_getElem?_getD, List.getElem?_eq_getElem hi]
    exact List.getElem_mem hi
  have hb := best_le (fun i j => Dat.lt ((L.map tailD).getD j .non) ((L.map tailD).getD i .non)) ((L.map tailD).length - 1)
  rw [List.length_map] at hb
  unfold maxD
  rw [List.length_map]
  have spec := best_is (bt := fun i j => Dat.lt ((L.map tailD).getD j .non) ((L.map tailD).getD i .non)) (L.length - 1) (fun i j k hi hj hk h1 h2 => by
      rw [at_ _ (by omega), at_ _ (by omega), tail_lt] at h1 h2 ⊢
      exact ltC_tr h1 (ltC_tot h2)) (fun i hi => by rw [at_ _ (by omega), tail_lt]; exact ltC_irr _) (L.length - 1) (Nat.le_refl _)
  generalize argBest (fun i j => Dat.lt ((L.map tailD).getD j .non) ((L.map tailD).getD i .non)) (L.length - 1) = z at *
  have hz : z < L.length := by omega
  obtain ⟨k, hk, ek⟩ := List.mem_iff_getElem.mp hm
  have h1 := spec k (by omega)
  rw [at_ _ hz, at_ _ hk, tail_lt] at h1
  have ek' : L.getD k c0 = m := by rw [List.getD_eq_getElem?_getD, List.getElem?_eq_getElem hk]; exact ek
  rw [ek'] at h1
  rw [at_ _ hz]
  have hzm := mem_ z hz
  rw [ltC_tri (had _ hzm) h1 (hmax _ hzm)]
end Co
namespace Co
open PySem L2 Mi
theorem tails_dat {K : PySem.W.Frag} {H : Hp} : ∀ {cs : List (Addr × Addr × Cl)} {ys : List V}, ClsIn H cs → Paired (fun x v => ∃ b0 a c, x = V.ref b0 ∧ ClH H b0 a c ∧ ∃ b, v = V.ref b ∧ H b = some (.tup [.int c.ck, .str c.hd, .int c.nm])) (crefs cs) ys → AreDat K H ((cs.map (·.2.2)).map tailD) ys
  | [], _, _, h => by cases h; exact rfl
  | r :: cs, _, hc, h => by
    have h' : Paired (fun x v => ∃ b0 a c, x = V.ref b0 ∧ ClH H b0 a c ∧ ∃ b, v = V.ref b ∧ H b = some (.tup [.int c.ck, .str c.hd, .int c.nm])) (V.ref r.1 :: crefs cs) _ := h
    cases h' with
    | cons h1 h2 =>
      obtain ⟨b0, a, c, e, hcl, b, rfl, hb⟩ := h1
      injection e with e
      subst e
      have hr := hc r (List.mem_cons_self ..)
      have e1 := hr.1
      rw [hcl.1] at e1
      injection e1 with e1
      injection e1 with e1
      injection e1 with _ e1
      injection e1 with k1 e1
      injection e1 with k2 e1
      injection e1 with k3 _
      injection k1 with k1
      injection k2 with k2
      injection k3 with k3
      rw [k1, k2, k3] at hb
      exact ⟨_, _, rfl, ⟨b, _, rfl, SqT.of hb, _, _, rfl, rfl, _, _, rfl, rfl, _, _, rfl, rfl, rfl⟩, tails_dat (fun x hx => hc x (List.mem_cons_of_mem _ hx)) h2⟩
end Co
namespace Co
open PySem L2 Mi
theorem boot_max : bootBuiltins (Str.ofString "max") = some (Value.builtin "max") := by decide +kernel
end Co
namespace LW
open PySem L2 Mi Co
def top (i : Nat) : Stmt := PySem.Challenge.pw_pagenames_k31_whole_hands_put_together.main.body.getD i (.Pass ⟨0, 0, 0, 0⟩)
abbrev sTog : Stmt := top 4
abbrev sPut : Stmt := top 5
abbrev sSince : Stmt := top 6
abbrev sPages : Stmt := top 7
abbrev sDraw : Stmt := top 9
abbrev sPick : Stmt := top 10
abbrev sRows : Stmt := top 11
abbrev sBoth : Stmt := top 12
abbrev sSinceH : Stmt := top 13
abbrev sLaw : Stmt := top 14
end LW
namespace LW
open PySem L2 Mi Co
def spTog : Sp := fun vs H Q _ => ∃ (p q : Addr) (A B : List Cl), vs = [.ref p, .ref q] ∧ ClsAt H p A ∧ ClsAt H q B ∧ A.length + B.length ≤ 60 ∧ (∀ c ∈ A ++ B, c.ad ≠ []) ∧ ∀ (r : Addr) (C : List Cl) (H' : Hp), Same H H' → ClsAt H' r C → Tog (A ++ B) C → Q (.ref r) H'
def spPutH : Sp := fun vs H Q _ => ∃ (p b a : Addr) (A : List Cl) (c : Cl), vs = [.ref p, .ref b] ∧ ClsAt H p A ∧ ClH H b a c ∧ A.length ≤ 50 ∧ (∀ x ∈ A ++ [c], x.ad ≠ []) ∧ ∀ (r : Addr) (C : List Cl) (H' : Hp), Same H H' → ClsAt H' r C → Tog (A ++ [c]) C → Q (.ref r) H'
section
variable {P : Program} {w : World} {K : PySem.W.Frag} {mg : Str → Option Value} {base : Heap} {f : Addr} {fd : FuncData}
theorem scTog : FnScope ["one", "other", "latest", "row", "address"] ["one", "other"] (defScope sTog) := ⟨rfl, rfl, rfl, by decide +kernel, rfl, by decide +kernel, by decide +kernel⟩
theorem ndT1 : (["address", "latest"] : List Str).Nodup := by decide +kernel
theorem ok_tog {k : Nat} (F : Fun K "together" "together" sTog f fd) (G : Blt mg) (h0 : IsInt mg "ADDRESS" 0) : FnOk P w K mg base CX0 (k + 1) f fd ["one", "other"] spTog := by
  refine F.ok scTog (fun vs H Q E h => ?_) (fun cdv A outer s H vs Q E hr h => ?_)
  · obtain ⟨p, q', L, M, rfl, _⟩ := h
    rfl
  obtain ⟨p, q', L, M, rfl, hL, hM, hz, hne, q⟩ := h
  obtain ⟨t0, m0⟩ := h0
  have hu := hu_of hr
  have hu3 : (A.deeper (PyProof.Rows.envOfC "together" (defScope sTog) s.heap.objs.size f cdv)).units + 3 < cLine := by have := hu8 hr; omega
  refine ⟨_, pss_cons (ps_set (i := 2) scTog.nd rfl (Or.inr rfl) pe_dnewT)
    (pss_cons (ps_for PassesOwn.never rfl (pi_tup (pe_op op_catH (pv 0) (pv 1))) (pg_name (i := 3) scTog.nd rfl (Or.inl rfl))
      (pss_cons (ps_set (i := 4) scTog.nd rfl (Or.inl rfl) (pe_ix ix_tup (pv 3) (pe_glob rfl m0 (v := .int 0) ⟨_, rfl⟩) fun _ _ => rfl))
      (pss_one (ps_if (PW.pt (pw_or (pt_cmp (pc_dnotin hu (pv 4) (pv 2)) (by with_unfolding_all rfl)) (pw_or1 (pt_cmpR (op_ltD (n := 3) hu3) (pe_dget hu (pv 2) (pv 4) fun _ _ => rfl) (pv 3) (nomark _)))))
        (pss_one (ps_dput hu (pv 2) (pv 4) (pv 3) rfl)) pss_nil))))
    (pss_one (ps_ret (pe_callTy call_tuple_of rfl G.tuple boot_tuple (pa_cons (pe_compF (xs := ["address"]) (ys := ["latest"]) (js := [2]) rfl (by decide +kernel) (by decide +kernel) rfl (by decide +kernel) ⟨rfl, .inl rfl, rfl, trivial⟩
      (pi_list (pe_callB (call_sortDT rfl) rfl G.sorted boot_sorted (pa_cons (pv 2) pa_nil))) (fun _ _ _ _ _ => pg_name (i := 0) ndT1 rfl (Or.inl rfl) (.inr rfl)) (fun _ _ _ _ _ => pts_nil)
      (fun _ _ _ _ _ => pe_dget hu (pv 1) (pv 0) fun _ _ => rfl)) pa_nil))))), ?_⟩
  intro d ndd
  have s1 := Same.new ndd (.dT [])
  have hd1 : (upd H d (.dT []) : Hp) d = some (.dT []) := upd_same
  generalize (upd H d (.dT []) : Hp) = H1 at *
  obtain ⟨as, ha, has, eA⟩ := hL.same s1
  obtain ⟨bs, hb, hbs, eB⟩ := hM.same s1
  have lA : as.length = L.length := by rw [← eA, List.length_map]
  have lB : bs.length = M.length := by rw [← eB, List.length_map]
  refine ⟨_, rfl, _, rfl, p, q', _, _, rfl, rfl, ha, hb, big _ (by rw [List.length_map, List.length_map]; omega), fun cc H2 s2 hcc => ?_⟩
  have ecc : crefs as ++ crefs bs = crefs (as ++ bs) := by unfold crefs; rw [List.map_append]
  rw [ecc] at hcc
  have hcs : ClsIn H2 (as ++ bs) := fun x hx => by
    rcases List.mem_append.mp hx with hx | hx
    · exact (has x hx).ts s2.ts
    · exact (hbs x hx).ts s2.ts
  have eC : (as ++ bs).map (·.2.2) = L ++ M := by rw [List.map_append, eA, eB]
  have lC : (as ++ bs).length ≤ 60 := by rw [List.length_append]; omega
  have hneC : ∀ x ∈ as ++ bs, x.2.2.ad ≠ [] := fun x hx => hne _ (by rw [← eC]; exact List.mem_map.mpr ⟨x, hx, rfl⟩)
  have hd2 := s2 _ _ hd1
  have s02 := s1.trans s2
  generalize as ++ bs = cs at *
  refine ⟨cc, rfl, ⟨_, SqT.of hcc⟩, ?_⟩
  refine for_tup (xs := crefs cs) (fun j σ H' => ∃ (v3 v4 : Option V) (us : List (List Str)), σ = [some (.ref p), some (.ref q'), some (.ref d), v3, v4] ∧ Same H H' ∧ TS' H2 H' ∧ LatAt H' d ((cs.map (·.2.2)).take j) us)
    ⟨_, _, [], rfl, s02, (fun b xs e => e), by rw [List.take_zero]; exact LatAt.nil hd2⟩ (fun j σ H' _ h => by obtain ⟨_, _, _, _, _, ts, _⟩ := h; exact SqT.of (ts _ _ hcc)) ?_ ?_
  · rintro j x σ H3 hx ⟨v3, v4, us, rfl, s3, ts3, hG⟩
    rw [List.getElem?_map] at hx
    obtain ⟨r, hri, rfl⟩ : ∃ r, cs[j]? = some r ∧ V.ref r.1 = x := by
      cases hh : cs[j]? with
      | none => rw [hh] at hx; cases hx
      | some y => rw [hh] at hx; injection hx with hx; exact ⟨y, rfl, hx⟩
    have hrow : ClH H3 r.1 r.2.1 r.2.2 := (hcs r (List.mem_of_getElem? hri)).ts ts3
    have htk : (cs.map (·.2.2)).take (j + 1) = (cs.map (·.2.2)).take j ++ [r.2.2] := by
      rw [List.take_add_one, List.getElem?_map, hri]
      rfl
    have hlj : ((cs.map (·.2.2)).take j).length ≤ 60 := by rw [List.length_take, List.length_map]; omega
    obtain ⟨kvs0, hdk, _⟩ := id hG
    have fin : (∀ m, MaxIn ((cs.map (·.2.2)).take j) m → m.ad = r.2.2.ad → ltC m r.2.2 = true) → ∃ H', DPut H3 d (.ref r.2.1) (.ref r.1) H' ∧ Same H H' ∧ TS' H2 H' ∧ LatAt H' d ((cs.map (·.2.2)).take (j + 1)) (if r.2.2.ad ∈ us then us else us ++ [r.2.2.ad]) := fun hl => by
      obtain ⟨H', hput, hG', hkeep, _⟩ := hG.put hrow hl (by omega)
      refine ⟨H', hput, fun b o e => hkeep _ _ (ne_of_none e ndd) (s3 _ _ e), fun b xs e => ?_, by rw [htk]; exact hG'⟩
      have e3 := ts3 _ _ e
      exact hkeep _ _ (fun z => by rw [z, hdk] at e3; cases e3) e3
    refine ⟨_, rfl, r.1, _, _, V.ref r.2.1, rfl, rfl, SqT.of hrow.1, rfl, ?_⟩
    rcases hG.get hrow.2 with ⟨hin, b, a', m, hget, hcm, hmm, hma⟩ | ⟨hin, hget⟩
    · refine ⟨_, rfl, _, rfl, d, _, rfl, hget, _, rfl, iteF ?_⟩
      refine ⟨_, rfl, _, rfl, d, V.ref b, rfl, hget, _, rfl, clD m, clD r.2.2, cl_dat hcm, cl_dat hrow, cl_cmp _ _, cl_deep _, _, rfl, ?_⟩
      rw [cl_lt hma]
      cases hl : ltC m r.2.2 with
      | true =>
        obtain ⟨H', hput, s', ts', hG'⟩ := fin fun m' hm' he => by rw [MaxIn.uniq hm' hmm (he.trans hma.symm)]; exact hl
        exact iteT ⟨_, rfl, _, rfl, _, rfl, d, H', rfl, hput, _, _, _, rfl, s', ts', hG'⟩
      | false =>
        refine iteF ⟨_, _, us, rfl, s3, ts3, ?_⟩
        rw [htk]
        exact hG.skip hmm hma hl
    · refine ⟨_, rfl, _, rfl, d, _, rfl, hget, _, rfl, iteT ?_⟩
      obtain ⟨_, _, _, _, _, h5, _⟩ := id hG
      obtain ⟨H', hput, s', ts', hG'⟩ := fin fun m' hm' he => absurd ((h5 r.2.2.ad).mpr ⟨m', hm'.1, he⟩) hin
      exact ⟨_, rfl, _, rfl, _, rfl, d, H', rfl, hput, _, _, _, rfl, s', ts', hG'⟩
  · rintro σ H3 ⟨v3, v4, us, rfl, s3, ts3, hG⟩
    have e1 : (cs.map (·.2.2)).take (crefs cs).length = cs.map (·.2.2) := List.take_of_length_le (by rw [List.length_map, List.length_map]; exact Nat.le_refl _)
    rw [e1] at hG
    obtain ⟨kvs0, hdk, hkeys, ndu, hul, hmu, _⟩ := id hG
    rw [List.length_map] at hul
    refine ⟨_, rfl, d, us, rfl, ⟨kvs0, .inl hdk, hkeys⟩, by omega, fun u hu' => ?_, fun l rs nl hp hH hs => ?_⟩
    · obtain ⟨c, hc, rfl⟩ := (hmu u).mp hu'
      obtain ⟨x, hx, rfl⟩ := List.mem_map.mp hc
      exact hneC x hx
    have s4 := Same.new nl (.lst (rs.map fun r => V.ref r.1))
    have hl4 : (upd H3 l (.lst (rs.map fun r => V.ref r.1)) : Hp) l = some (.lst (rs.map fun r => V.ref r.1)) := upd_same
    have hG4 := hG.same s4
    have hH4 : ∀ r ∈ rs, (upd H3 l (.lst (rs.map fun r => V.ref r.1)) : Hp) r.1 = some (.tup (r.2.map V.str)) := fun r hr' => s4 _ _ (hH r hr')
    generalize (upd H3 l (.lst (rs.map fun r => V.ref r.1)) : Hp) = H4 at *
    have hrl : rs.length ≤ 60 := by have := hp.length_eq; rw [List.length_map] at this; omega
    refine ⟨l, rfl, ⟨_, SqL.of hl4⟩, fun D hD => ?_⟩
    refine compF_rel (xs := rs.map fun r => V.ref r.1) (fr := [some (.ref d)]) (fun x v H' => ∃ r : Addr × List Str, x = V.ref r.1 ∧ H' r.1 = some (.tup (r.2.map V.str)) ∧ ∃ b a c, v = V.ref b ∧ ClH H' b a c ∧ MaxIn (cs.map (·.2.2)) c ∧ c.ad = r.2) (fun x v H H' s h => ?_) D hD (tells_list (SqL.of hl4)) (bigl _ (by rw [List.length_map]; omega)) ?_ ?_
    · obtain ⟨r, e, h1, b, a, c, e2, h2, h3⟩ := h
      exact ⟨r, e, s _ _ h1, b, a, c, e2, h2.ts s, h3⟩
    · intro x H5 Rr hx s5 hR5
      obtain ⟨r, hr', rfl⟩ := List.mem_map.mp hx
      have hr5 := s5 _ _ (hH4 r hr')
      have hin : r.2 ∈ us := hp.mem_iff.mp (List.mem_map.mpr ⟨r, hr', rfl⟩)
      rcases (hG4.same s5).get hr5 with ⟨_, b, a', m, hget, hcm, hmm, hma⟩ | ⟨hn, _⟩
      · exact ⟨_, rfl, _, rfl, d, V.ref b, rfl, hget, hR5 _ _ (Same.refl _) ⟨r, rfl, hr5, b, a', m, rfl, hcm, hmm, hma⟩⟩
      · exact absurd hin hn
    · intro H5 ys s5 hD5 hp5
      obtain ⟨cs2, rfl, hc2, ec2, hm2⟩ := made_cls hp5 fun r hr' => s5 _ _ (hH4 r hr')
      refine ⟨D, _, rfl, .inl ⟨SqL.of hD5, fun q2 nq2 => ?_⟩⟩
      have s6 := Same.new nq2 (.tup (crefs cs2))
      have htg := tog_of ndu hmu hp hs ec2 hm2
      rw [eC] at htg
      exact q q2 _ _ (((s3.trans s4).trans s5).trans s6) ⟨cs2, upd_same, hc2.ts s6.ts, rfl⟩ htg
theorem scPut : FnScope ["rows", "row"] ["rows", "row"] (defScope sPut) := ⟨rfl, rfl, rfl, by decide +kernel, rfl, by decide +kernel, by decide +kernel⟩
theorem ok_put {k : Nat} (F : Fun K "put" "put" sPut f fd) (hT : Has P w K mg base "together" k ["one", "other"] spTog) : FnOk P w K mg base CX0 (k + 1) f fd ["rows", "row"] spPutH := by
  refine F.ok scPut (fun vs H Q E h => ?_) (fun cdv A outer s H vs Q E hr h => ?_)
  · obtain ⟨p, b, a, L, c, rfl, _⟩ := h
    rfl
  obtain ⟨p, b, a, L, c, rfl, hL, hc, hz, hne, q⟩ := h
  refine ⟨_, pss_one (ps_ret (pe_callH hT hr rfl (pa_cons (pv 0) (pa_cons (pe_tup (pa_cons (pv 1) pa_nil)) pa_nil)))), ?_⟩
  refine ⟨_, rfl, _, rfl, big _ (by simp), fun t nt => ?_⟩
  have s1 := Same.new nt (.tup [V.ref b])
  exact ⟨p, t, L, [c], rfl, hL.same s1, ⟨[(b, a, c)], upd_same, (fun x hx => by rw [List.mem_singleton.mp hx]; exact hc.ts s1.ts), rfl⟩, by simp; omega, hne, fun r C H' s' h1 h2 => q r C H' (s1.trans s') h1 h2⟩
end
end LW
namespace LW
open PySem L2 Mi Co
def spSince : Sp := fun vs H Q _ => ∃ (p : Addr) (n : Int) (A : List Cl), vs = [.ref p, .int n] ∧ ClsAt H p A ∧ A.length ≤ 60 ∧ ∀ (r : Addr) (H' : Hp), Same H H' → ClsAt H' r (A.filter fun c => decide (n < c.ck)) → Q (.ref r) H'
def spPages : Sp := fun vs H Q _ => ∃ (p : Addr) (n : Int) (A : List Cl), vs = [.ref p, .int n] ∧ ClsAt H p A ∧ A.length ≤ 60 ∧ (∀ c ∈ A, c.ad ≠ []) ∧ (A.Pairwise fun a b => HS.ltT a.ad b.ad = true) ∧ ∀ (r : Addr) (H' : Hp), Same H H' → TupsH H' r ((A.filter fun c => decide (c.nm = n)).map (·.ad)) → Q (.ref r) H'
section
variable {P : Program} {w : World} {K : PySem.W.Frag} {mg : Str → Option Value} {base : Heap} {f : Addr} {fd : FuncData}
theorem scSince : FnScope ["rows", "clock"] ["rows", "clock"] (defScope sSince) := ⟨rfl, rfl, rfl, by decide +kernel, rfl, by decide +kernel, by decide +kernel⟩
theorem ndS1 : (["row", "clock"] : List Str).Nodup := by decide +kernel
theorem ok_since {k : Nat} (F : Fun K "since" "since" sSince f fd) (G : Blt mg) (h1 : IsInt mg "CLOCK" 1) : FnOk P w K mg base CX0 (k + 1) f fd ["rows", "clock"] spSince := by
  refine F.ok scSince (fun vs H Q E h => ?_) (fun cdv A outer s H vs Q E hr h => ?_)
  · obtain ⟨p, n, L, rfl, _⟩ := h
    rfl
  obtain ⟨p, n, L, rfl, ⟨cs, hp, hcs, eL⟩, hz, q⟩ := h
  obtain ⟨t1, m1⟩ := h1
  have hlc : cs.length ≤ 60 := by rw [← eL, List.length_map] at hz; exact hz
  refine ⟨_, pss_one (ps_ret (pe_callTy call_tuple_of rfl G.tuple boot_tuple (pa_cons (pe_compF (tt := tTest (tOp (rI0 fun i j => .bl (decide (j < i))) (tOp (rIxT K) (tVar 0) (tC (.int 1))) (tVar 1))) (te := tVar 0) (xs := ["row"]) (ys := ["clock"]) (js := [1]) rfl (by decide +kernel) (by decide +kernel) rfl (by decide +kernel) ⟨rfl, .inl rfl, rfl, trivial⟩
      (pi_tup (pv 0)) (fun _ _ _ _ _ => pg_name (i := 0) ndS1 rfl (Or.inl rfl) (.inr rfl)) (fun _ _ _ _ _ => pts_one (pt_cmpR op_gt (pe_ix ix_tup (pv 0) (pe_glob rfl m1 (v := .int 1) ⟨_, rfl⟩) fun _ _ => rfl) (pv 1) (nomark _))) (fun _ _ _ _ _ => pv 0)) pa_nil))), ?_⟩
  refine ⟨_, rfl, p, rfl, ⟨_, SqT.of hp⟩, fun D hD => ?_⟩
  refine compF_cls (fr := [some (.int n)]) (fun r => .ref r.1) (fun r => decide (n < r.2.2.ck)) D hD (tells_tup (SqT.of hp)) (bigl _ (by omega)) ?_ ?_ ?_
  · intro r H1 Rr hr' s1 hR1
    exact ⟨_, rfl, r.1, _, _, V.int r.2.2.ck, rfl, rfl, SqT.of (s1 _ _ (hcs r hr').1), rfl, _, rfl, _, _, rfl, rfl, _, rfl, hR1 H1 (Same.refl _)⟩
  · intro r H1 Rr hr' _ s1 hR1
    exact ⟨_, rfl, hR1 H1 (Same.refl _)⟩
  intro H1 s1 hD1
  refine ⟨D, _, rfl, .inl ⟨SqL.of hD1, fun q2 nq2 => ?_⟩⟩
  have s2 := Same.new nq2 (.tup ((cs.filter fun r => decide (n < r.2.2.ck)).map fun r => V.ref r.1))
  refine q q2 _ (s1.trans s2) ⟨cs.filter fun r => decide (n < r.2.2.ck), upd_same, fun x hx => (hcs x (List.mem_filter.mp hx).1).ts (s1.trans s2).ts, ?_⟩
  rw [filter_cls cs fun c => decide (n < c.ck), eL]
theorem scPages : FnScope ["rows", "number"] ["rows", "number"] (defScope sPages) := ⟨rfl, rfl, rfl, by decide +kernel, rfl, by decide +kernel, by decide +kernel⟩
theorem ndS2 : (["row", "number"] : List Str).Nodup := by decide +kernel
theorem ok_pages {k : Nat} (F : Fun K "pages_of" "pages_of" sPages f fd) (G : Blt mg) (h0 : IsInt mg "ADDRESS" 0) (h3 : IsInt mg "NUMBER" 3) : FnOk P w K mg base CX0 (k + 1) f fd ["rows", "number"] spPages := by
  refine F.ok scPages (fun vs H Q E h => ?_) (fun cdv A outer s H vs Q E hr h => ?_)
  · obtain ⟨p, n, L, rfl, _⟩ := h
    rfl
  obtain ⟨p, n, L, rfl, ⟨cs, hp, hcs, eL⟩, hz, hne, hri, q⟩ := h
  obtain ⟨t0, m0⟩ := h0
  obtain ⟨t3, m3⟩ := h3
  have hlc : cs.length ≤ 60 := by rw [← eL, List.length_map] at hz; exact hz
  refine ⟨_, pss_one (ps_ret (pe_callTy call_tuple_of rfl G.tuple boot_tuple (pa_cons (pe_callB call_sortT rfl G.sorted boot_sorted (pa_cons (pe_compF (tt := tTest (tOp rEq (tOp (rIxT K) (tVar 0) (tC (.int 3))) (tVar 1))) (te := tOp (rIxT K) (tVar 0) (tC (.int 0))) (xs := ["row"]) (ys := ["number"]) (js := [1]) rfl (by decide +kernel) (by decide +kernel) rfl (by decide +kernel) ⟨rfl, .inl rfl, rfl, trivial⟩
      (pi_tup (pv 0)) (fun _ _ _ _ _ => pg_name (i := 0) ndS2 rfl (Or.inl rfl) (.inr rfl)) (fun _ _ _ _ _ => pts_one (pt_cmpR op_eq (pe_ix ix_tup (pv 0) (pe_glob rfl m3 (v := .int 3) ⟨_, rfl⟩) fun _ _ => rfl) (pv 1) (nomark _))) (fun _ _ _ _ _ => pe_ix ix_tup (pv 0) (pe_glob rfl m0 (v := .int 0) ⟨_, rfl⟩) fun _ _ => rfl)) pa_nil)) pa_nil))), ?_⟩
  refine ⟨_, rfl, p, rfl, ⟨_, SqT.of hp⟩, fun D hD => ?_⟩
  refine compF_cls (fr := [some (.int n)]) (fun r => .ref r.2.1) (fun r => decide (r.2.2.nm = n)) D hD (tells_tup (SqT.of hp)) (bigl _ (by omega)) ?_ ?_ ?_
  · intro r H1 Rr hr' s1 hR1
    refine ⟨_, rfl, r.1, _, _, V.int r.2.2.nm, rfl, rfl, SqT.of (s1 _ _ (hcs r hr').1), rfl, _, rfl, rfl, _, rfl, ?_⟩
    have e : decide (V.int r.2.2.nm = V.int n) = decide (r.2.2.nm = n) := by
      by_cases h : r.2.2.nm = n
      · simp [h]
      · simp [h]
    rw [e]
    exact hR1 H1 (Same.refl _)
  · intro r H1 Rr hr' _ s1 hR1
    exact ⟨_, rfl, r.1, _, _, V.ref r.2.1, rfl, rfl, SqT.of (s1 _ _ (hcs r hr').1), rfl, hR1 H1 (Same.refl _)⟩
  intro H1 s1 hD1
  have hfl : (cs.filter fun r => decide (r.2.2.nm = n)).length ≤ cs.length := List.length_filter_le _ _
  have hD1' : H1 D = some (.lst (((cs.filter fun r => decide (r.2.2.nm = n)).map fun r => (r.2.1, r.2.2.ad)).map fun r => V.ref r.1)) := by rw [hD1, List.map_map]; rfl
  refine ⟨D, (cs.filter fun r => decide (r.2.2.nm = n)).map fun r => (r.2.1, r.2.2.ad), rfl, .inl (SqL.of hD1'), by rw [List.length_map]; omega, fun r hr' => ?_, fun l rs nl hpp hs => ?_⟩
  · obtain ⟨x, hx, rfl⟩ := List.mem_map.mp hr'
    have hx' := (List.mem_filter.mp hx).1
    exact ⟨SqT.of (s1 _ _ (hcs x hx').2), hne _ (by rw [← eL]; exact List.mem_map.mpr ⟨x, hx', rfl⟩)⟩
  have s2 := Same.new nl (.lst (rs.map fun r => V.ref r.1))
  refine ⟨l, _, rfl, .inl ⟨SqL.of upd_same, fun q2 nq2 => ?_⟩⟩
  have s3 := Same.new nq2 (.tup (rs.map fun r => V.ref r.1))
  have eT : ((cs.filter fun r => decide (r.2.2.nm = n)).map fun r => (r.2.1, r.2.2.ad)).map (·.2) = (L.filter fun c => decide (c.nm = n)).map (·.ad) := by
    rw [List.map_map, ← eL, ← filter_cls cs fun c => decide (c.nm = n), List.map_map]
    rfl
  have hT : ((L.filter fun c => decide (c.nm = n)).map (·.ad)).Pairwise fun a b => HS.ltT a b = true := by
    rw [List.pairwise_map]
    exact List.Pairwise.sublist List.filter_sublist hri
  have hpp2 : (rs.map (·.2)).Perm ((L.filter fun c => decide (c.nm = n)).map (·.ad)) := by rw [← eT]; exact hpp.map _
  have hnd : ((L.filter fun c => decide (c.nm = n)).map (·.ad)).Nodup := hT.imp fun {a b} z e => by
    rw [e] at z
    have := HS.ltT_tot _ _ z
    rw [z] at this
    cases this
  have e2 : rs.map (·.2) = (L.filter fun c => decide (c.nm = n)).map (·.ad) := by
    refine tups_eq ?_ hT fun r => hpp2.mem_iff
    rw [List.pairwise_map]
    have ndq : (rs.map (·.2)).Nodup := hpp2.nodup_iff.mpr hnd
    rw [List.Nodup, List.pairwise_map] at ndq
    refine (hs.and ndq).imp fun {a b} z => ?_
    cases hc : HS.ltT a.2 b.2 with
    | true => rfl
    | false => exact absurd (HS.ltT_tri _ _ hc z.1) z.2
  refine q q2 _ ((s1.trans s2).trans s3) ⟨rs, upd_same, fun r hr' => ?_, e2⟩
  obtain ⟨x, hx, rfl⟩ := List.mem_map.mp (hpp.mem_iff.mp hr')
  exact ((s1.trans s2).trans s3) _ _ (hcs x (List.mem_filter.mp hx).1).2
end
end LW
namespace LW
open PySem L2 Mi Co
section
variable {P : Program} {w : World} {K : PySem.W.Frag} {mg : Str → Option Value} {base : Heap} {f : Addr} {fd : FuncData}
theorem scDraw : FnScope ["_law_script", "_law_town", "_law_many", "_law_k", "_law_cell", "_law_number", "_law_more"] ["_law_script", "_law_town", "_law_many"] (defScope sDraw) := ⟨rfl, rfl, rfl, by decide +kernel, rfl, by decide +kernel, by decide +kernel⟩
theorem ok_draw {k : Nat} (F : Fun K "_law_draw" "_law_draw" sDraw f fd) (G : Blt mg) : FnOk P w K mg base CX0 (k + 1) f fd ["_law_script", "_law_town", "_law_many"] (spDraw K) := by
  refine F.ok scDraw (fun vs H Q E h => ?_) (fun cdv A outer s H vs Q E hr h => ?_)
  · obtain ⟨a, t, ns, zs, m, rfl, _⟩ := h
    rfl
  obtain ⟨a, t, ns, zs, m, rfl, hS, h63, hT, hz, hm, q⟩ := h
  refine ⟨_, pss_cons (ps_expr (pe_bm PySem.F.plainAttrs_list PySem.F.slot_list_append PySem.F.type_list_append mt_append (pv 1) (pa_cons pe_int pa_nil)))
    (pss_cons (ps_set (i := 3) scDraw.nd rfl (Or.inl rfl) (pe_callB call_len_seq rfl G.len PySem.boot_len (pa_cons (pv 1) pa_nil)))
    (pss_cons (ps_set (i := 4) scDraw.nd rfl (Or.inl rfl) pe_int)
    (pss_cons (ps_if (pt_truth (pv 0) (fun _ => rfl)) (pss_one (ps_set (i := 4) scDraw.nd rfl (Or.inl rfl) (pe_ix ix_list (pv 0) (pe_op op_mod (pv 3) (pe_callB call_len_seq rfl G.len PySem.boot_len (pa_cons (pv 0) pa_nil))) (fun _ _ => rfl)))) pss_nil)
    (pss_cons (ps_set (i := 5) scDraw.nd rfl (Or.inl rfl) (pe_op op_mod (pe_op op_add (pv 4) (pe_op op_mul pe_int (pv 3))) pe_int))
    (pss_cons (ps_set (i := 5) scDraw.nd rfl (Or.inl rfl) (pe_op op_mod (pe_op op_mul (pe_op op_mod (pe_op op_mul (pv 5) (pv 5)) pe_int) pe_int) pe_int))
    (pss_cons (ps_set (i := 6) scDraw.nd rfl (Or.inl rfl) (pe_op op_mod (pe_op op_mul (pe_op op_mod (pe_op op_mul (pv 5) (pv 5)) pe_int) pe_int) pe_int))
    (pss_one (ps_ret (pe_op op_mod (pe_op op_add (pe_op op_mul (pe_op op_fdiv (pv 5) pe_int) pe_int) (pe_op op_fdiv (pv 6) pe_int)) (pv 2)))))))))), ?_⟩
  refine ⟨_, rfl, .inl ⟨rfl, _, SqL.of hT⟩, t, zs, _, rfl, rfl, hT, bigl _ (by omega), ?_⟩
  have hT' : (upd H t (.lst (zs ++ [V.int 0])) : Hp) t = some (.lst (zs ++ [V.int 0])) := upd_same
  have st : Stp t H (upd H t (.lst (zs ++ [V.int 0]))) := Stp.upd _
  have hS' := hS.stp hT st
  refine ⟨_, rfl, t, _, rfl, .inl (SqL.of hT'), ?_⟩
  refine ⟨_, rfl, _, .inl ⟨_, hS'.sq, rfl⟩, ?_⟩
  have rest : ∀ e : Int, Q (.int (e % m)) (upd H t (.lst (zs ++ [V.int 0]))) := fun e =>
    q _ _ (Int.emod_nonneg _ (by omega)) (Int.emod_lt_of_pos _ hm) hT' st
  refine ite2 (fun c => ?_) (fun c => ?_)
  · have hne : ns ≠ [] := fun e => by subst e; simp at c
    have hlen : 0 < (ns.map V.int).length := by rw [List.length_map]; exact List.length_pos_iff.mpr hne
    obtain ⟨v, hv⟩ := at_mod hne (((zs ++ [V.int 0]).length : Nat) : Int)
    refine ⟨_, rfl, _, rfl, _, rfl, a, _, rfl, .inl hS'.sq, _, _, rfl, rfl, by omega, a, _, _, _, rfl, rfl, hS'.sq, hv, ?_⟩
    refine ⟨_, rfl, _, rfl, _, _, rfl, rfl, .inl ⟨by decide, by decide⟩, _, _, rfl, rfl, _, _, rfl, rfl, (show (0 : Int) < 4294967291 by decide), ?_⟩
    refine ⟨_, rfl, _, rfl, _, _, rfl, rfl, .inl ⟨by omega, by omega⟩, _, _, rfl, rfl, (show (0 : Int) < 4294967279 by decide), _, _, rfl, rfl, .inl ⟨by omega, by omega⟩, _, _, rfl, rfl, (show (0 : Int) < 4294967291 by decide), ?_⟩
    refine ⟨_, rfl, _, rfl, _, _, rfl, rfl, .inl ⟨by omega, by omega⟩, _, _, rfl, rfl, (show (0 : Int) < 4294967279 by decide), _, _, rfl, rfl, .inl ⟨by omega, by omega⟩, _, _, rfl, rfl, (show (0 : Int) < 4294967291 by decide), ?_⟩
    exact ⟨_, rfl, _, _, rfl, rfl, ⟨by decide, by decide⟩, _, _, rfl, rfl, .inl ⟨by omega, by omega⟩, _, rfl, _, _, rfl, rfl, ⟨by decide, by decide⟩, _, _, rfl, rfl, _, rfl, _, _, rfl, rfl, hm, rest _⟩
  · refine ⟨_, rfl, _, rfl, _, _, rfl, rfl, .inl ⟨by decide, by decide⟩, _, _, rfl, rfl, _, _, rfl, rfl, (show (0 : Int) < 4294967291 by decide), ?_⟩
    refine ⟨_, rfl, _, rfl, _, _, rfl, rfl, .inl ⟨by omega, by omega⟩, _, _, rfl, rfl, (show (0 : Int) < 4294967279 by decide), _, _, rfl, rfl, .inl ⟨by omega, by omega⟩, _, _, rfl, rfl, (show (0 : Int) < 4294967291 by decide), ?_⟩
    refine ⟨_, rfl, _, rfl, _, _, rfl, rfl, .inl ⟨by omega, by omega⟩, _, _, rfl, rfl, (show (0 : Int) < 4294967279 by decide), _, _, rfl, rfl, .inl ⟨by omega, by omega⟩, _, _, rfl, rfl, (show (0 : Int) < 4294967291 by decide), ?_⟩
    exact ⟨_, rfl, _, _, rfl, rfl, ⟨by decide, by decide⟩, _, _, rfl, rfl, .inl ⟨by omega, by omega⟩, _, rfl, _, _, rfl, rfl, ⟨by decide, by decide⟩, _, _, rfl, rfl, _, rfl, _, _, rfl, rfl, hm, rest _⟩
end
end LW
namespace LW
open PySem L2 Mi Co
section
variable {P : Program} {w : World} {K : PySem.W.Frag} {mg : Str → Option Value} {base : Heap} {f : Addr} {fd : FuncData}
theorem scPick : FnScope ["_law_script", "_law_town", "_law_some"] ["_law_script", "_law_town", "_law_some"] (defScope sPick) := ⟨rfl, rfl, rfl, by decide +kernel, rfl, by decide +kernel, by decide +kernel⟩
theorem ok_pick {k : Nat} (F : Fun K "_law_pick" "_law_pick" sPick f fd) (G : Blt mg) (hD : Has P w K mg base "_law_draw" k ["_law_script", "_law_town", "_law_many"] (spDraw K)) : FnOk P w K mg base CX0 (k + 1) f fd ["_law_script", "_law_town", "_law_some"] (spPick K) := by
  refine F.ok scPick (fun vs H Q E h => ?_) (fun cdv A outer s H vs Q E hr h => ?_)
  · obtain ⟨a, t, ns, zs, _, _, _, _, ⟨l, xs, rfl, _⟩ | ⟨z, rfl, _⟩⟩ := h <;> rfl
  obtain ⟨a, t, ns, zs, hS, h63, hT, hz, h⟩ := h
  refine ⟨_, pss_one (ps_ret (pe_ix ix_seq (pv 2) (pe_callH hD hr rfl (pa_cons (pv 0) (pa_cons (pv 1) (pa_cons (pe_callB (call_len_seq.or call_len_str) rfl G.len PySem.boot_len (pa_cons (pv 2) pa_nil)) pa_nil)))) (fun _ _ => rfl))), ?_⟩
  rcases h with ⟨l, xs, rfl, hl, hne, hx, q⟩ | ⟨z, rfl, hz0, hz1, q⟩
  · refine ⟨_, rfl, _, rfl, _, rfl, _, rfl, .inl ⟨l, _, rfl, .inl (SqL.of hl), a, t, ns, zs, _, rfl, hS, h63, hT, hz, by omega, fun r H' h0 h1 hT' st => ?_⟩⟩
    obtain ⟨v, hv, hm⟩ := at_place h0 h1
    exact .inl ⟨l, xs, r, v, rfl, rfl, SqL.of (st l _ hne hl), hv, q v H' hm hT' st⟩
  · refine ⟨_, rfl, _, rfl, _, rfl, _, rfl, .inr ⟨z, rfl, big _ (by omega), a, t, ns, zs, _, rfl, hS, h63, hT, hz, by omega, fun r H' h0 h1 hT' st => ?_⟩⟩
    have hl : z.cps.toList.length = z.length := by simp [Str.length]
    obtain ⟨v, hv, hm⟩ := at_place (xs := z.cps.toList) h0 (by rw [hl]; exact h1)
    exact .inr (.inr ⟨z, r, v, rfl, rfl, big _ (by omega), hv, q v H' hm hT' st⟩)
end
end LW
namespace LW
open PySem L2 Mi Co
structure Gc (A : List Cl) : Prop where
  rise : A.Pairwise fun a b => HS.ltT a.ad b.ad = true
  ne : ∀ c ∈ A, c.ad ≠ [] ∧ c.ad.length ≤ 3
  ck : ∀ c ∈ A, (0 ≤ c.ck ∧ c.ck < 4) ∧ 0 ≤ c.nm ∧ c.nm < 3
abbrev Pc31 (c : Cl) : Prop := (0 ≤ c.ck ∧ c.ck < 4) ∧ 0 ≤ c.nm ∧ c.nm < 3
def spRows31 (K : PySem.W.Frag) : Sp := fun vs H Q _ => ∃ (a t : Addr) (ns : List Int) (zs : List V), vs = [.ref a, .ref t] ∧ Scr K H a ns ∧ ns.length ≤ 63 ∧ H t = some (.lst zs) ∧ zs.length < 50000 ∧
  ∀ (p : Addr) (A : List Cl) (zs' : List V) (H' : Hp), H' t = some (.lst zs') → zs'.length ≤ zs.length + 30 → Stp t H H' → ClsAt H' p A → Gc A → A.length ≤ 5 → Q (.ref p) H'
section
variable {P : Program} {w : World} {K : PySem.W.Frag} {mg : Str → Option Value} {base : Heap} {f : Addr} {fd : FuncData}
theorem scRows : FnScope ["_law_script", "_law_town", "_law_found", "_law_k", "_law_address", "_law_clock", "_law_hand"] ["_law_script", "_law_town"] (defScope sRows) := ⟨rfl, rfl, rfl, by decide +kernel, rfl, by decide +kernel, by decide +kernel⟩
theorem ndA0 : (["_law_address", "_law_found"] : List Str).Nodup := by decide +kernel
theorem abcd_ok : ("abcd" : Str).length = 4 := by decide +kernel
theorem ok_rows {k : Nat} (F : Fun K "_law_rows" "_law_rows" sRows f fd) (G : Blt mg) (hDraw : Has P w K mg base "_law_draw" k ["_law_script", "_law_town", "_law_many"] (spDraw K)) (hPick : Has P w K mg base "_law_pick" k ["_law_script", "_law_town", "_law_some"] (spPick K)) :
    FnOk P w K mg base CX0 (k + 1) f fd ["_law_script", "_law_town"] (spRows31 K) := by
  refine F.ok scRows (fun vs H Q E h => ?_) (fun cdv A outer s H vs Q E hr h => ?_)
  · obtain ⟨a, t, ns, zs, rfl, _⟩ := h
    rfl
  obtain ⟨a, t, ns, zs, rfl, hS, h63, hT, hz, q⟩ := h
  have hu := hu_of hr
  refine ⟨_, (pss_cons (ps_set (i := 2) scRows.nd rfl (Or.inr rfl) pe_dnewT)
    (pss_cons (ps_for PassesOwn.never rfl (pi_range1 rfl G.range (pa_cons (pe_callH hDraw hr rfl (pa_cons (pv 0) (pa_cons (pv 1) (pa_cons pe_int pa_nil)))) pa_nil)) (pg_name (i := 3) scRows.nd rfl (Or.inl rfl))
      (pss_cons (ps_set (i := 4) scRows.nd rfl (Or.inl rfl) (pe_op op_catH (pe_tup (pa_cons (pe_callH hPick hr rfl (pa_cons (pv 0) (pa_cons (pv 1) (pa_cons pe_str pa_nil)))) pa_nil)) (pe_op op_mulT01 (pe_tup (pa_cons pe_str pa_nil)) (pe_callH hDraw hr rfl (pa_cons (pv 0) (pa_cons (pv 1) (pa_cons pe_int pa_nil)))))))
      (pss_cons (ps_par (i := 5) (j := 6) rfl scRows.nd rfl rfl (by decide) rfl rfl (pa_cons (pe_callH hDraw hr rfl (pa_cons (pv 0) (pa_cons (pv 1) (pa_cons pe_int pa_nil)))) (pa_cons (pe_callH hPick hr rfl (pa_cons (pv 0) (pa_cons (pv 1) (pa_cons (pe_lst (pa_cons pe_str (pa_cons pe_str pa_nil))) pa_nil)))) pa_nil)) rfl)
      (pss_one (ps_dput hu (pv 2) (pv 4) (pe_tup (pa_cons (pv 4) (pa_cons (pv 5) (pa_cons (pv 6) (pa_cons (pe_callH hDraw hr rfl (pa_cons (pv 0) (pa_cons (pv 1) (pa_cons pe_int pa_nil)))) pa_nil))))) rfl)))))
    (pss_one (ps_ret (pe_callTy call_tuple_of rfl G.tuple boot_tuple (pa_cons (pe_compF (te := (tDGet (tVar 1) (tVar 0))) (xs := ["_law_address"]) (ys := ["_law_found"]) (js := [2]) rfl (by decide +kernel) (by decide +kernel) rfl (by decide +kernel) ⟨rfl, .inl rfl, rfl, trivial⟩
      (pi_list (pe_callB (call_sortDT rfl) rfl G.sorted boot_sorted (pa_cons (pv 2) pa_nil))) (fun _ _ _ _ _ => (pg_name (i := 0) ndA0 rfl (Or.inl rfl) (.inr rfl))) (fun _ _ _ _ _ => pts_nil) (fun _ _ _ _ _ => (pe_dget hu (pv 1) (pv 0) fun _ _ => rfl))) pa_nil)))))), ?_⟩
  intro d ndd
  have s1 := Same.new ndd (.dT [])
  have hd1 : (upd H d (.dT []) : Hp) d = some (.dT []) := upd_same
  generalize (upd H d (.dT []) : Hp) = H1 at *
  have hT1 := s1 _ _ hT
  have hdt : d ≠ t := fun e => by rw [← e, hd1] at hT1; cases hT1
  refine ⟨_, rfl, _, rfl, a, t, ns, zs, 6, rfl, hS.same s1, h63, hT1, by omega, by decide, fun mm H2 hm0 hm1 hT2 st2 => ?_⟩
  refine ⟨mm, rfl, by omega, by omega, ?_⟩
  refine for_range (n := mm.toNat) (fun j σ H' => ∃ (v3 v4 v5 v6 : Option V) (us : List (List Str)) (zs' : List V), σ = [some (.ref a), some (.ref t), some (.ref d), v3, v4, v5, v6] ∧ H' t = some (.lst zs') ∧ zs'.length ≤ zs.length + 1 + 5 * j ∧ Stp t H H' ∧ GotAt H' d us Pc31 ∧ us.length ≤ j ∧ ∀ u ∈ us, u ≠ [] ∧ u.length ≤ 3)
    ⟨_, _, _, _, [], _, rfl, hT2, by simp, s1.stp.trans st2, GotAt.nil (st2 _ _ hdt hd1), Nat.le_refl _, (fun u hu' => by cases hu')⟩ ?_ ?_
  · rintro j σ H3 hj ⟨v3, v4, v5, v6, us, zs3, rfl, hT3, hz3, st3, hG3, hul, hun⟩
    have hS3 := hS.stp hT st3
    refine ⟨_, rfl, _, rfl, a, t, ns, zs3, hS3, h63, hT3, by omega, .inr ⟨"abcd", rfl, by rw [abcd_ok]; decide, by rw [abcd_ok]; decide, fun ch H4 hch hT4 st4 => ?_⟩⟩
    have ts4 := st4.ts hT3
    have hG4 := hG3.ts ts4 fun kvs e => st4 _ _ hdt e
    generalize (⟨#[ch]⟩ : Str) = z1 at *
    refine ⟨big _ (by simp), fun t1 nt1 => ?_⟩
    have s5 := Same.new nt1 (.tup [V.str z1])
    have ht5 : (upd H4 t1 (.tup [V.str z1]) : Hp) t1 = some (.tup [V.str z1]) := upd_same
    generalize (upd H4 t1 (.tup [V.str z1]) : Hp) = H5 at *
    refine ⟨big _ (by simp), fun t2 nt2 => ?_⟩
    have s6 := Same.new nt2 (.tup [V.str "x"])
    have ht6 : (upd H5 t2 (.tup [V.str "x"]) : Hp) t2 = some (.tup [V.str "x"]) := upd_same
    generalize (upd H5 t2 (.tup [V.str "x"]) : Hp) = H6 at *
    have s46 := s5.trans s6
    have hT6 := s46 _ _ hT4
    have st06 := (st3.trans st4).trans (s46.stp (t := t))
    have hS6 := hS.stp hT st06
    refine ⟨_, rfl, _, rfl, a, t, ns, _, 2, rfl, hS6, h63, hT6, by simp; omega, by decide, fun n2 H7 hn0 hn1 hT7 st7 => ?_⟩
    have ts7 := st7.ts hT6
    refine ⟨t2, _, n2, rfl, rfl, ts7 _ _ ht6, (fun e => nomatch e), by omega, fun p8 H8 s8 hp8 => ?_⟩
    have ht18 := s8 _ _ (ts7 _ _ (s6 _ _ ht5))
    have hn2 : n2.toNat ≤ 1 := by omega
    have e8 : (List.replicate n2.toNat [V.str "x"]).flatten = (List.replicate n2.toNat ("x" : Str)).map V.str := by
      rw [List.map_replicate]
      rcases (by omega : n2.toNat = 0 ∨ n2.toNat = 1) with h | h <;> rw [h] <;> rfl
    rw [e8] at hp8
    refine ⟨t1, p8, _, _, rfl, rfl, ht18, hp8, big _ (by simp; omega), fun ad H9 s9 had => ?_⟩
    have ead : [V.str z1] ++ (List.replicate n2.toNat ("x" : Str)).map V.str = (z1 :: List.replicate n2.toNat ("x" : Str)).map V.str := rfl
    rw [ead] at had
    have hlu : (z1 :: List.replicate n2.toNat ("x" : Str)).length ≤ 3 := by simp; omega
    have hnu : (z1 :: List.replicate n2.toNat ("x" : Str)) ≠ [] := fun e => nomatch e
    generalize (z1 :: List.replicate n2.toNat ("x" : Str)) = u at *
    have s79 := s8.trans s9
    have hT9 := s79 _ _ hT7
    have st09 := (st06.trans st7).trans (s79.stp (t := t))
    have hS9 := hS.stp hT st09
    have hG9 := (((hG4.same s46).ts ts7 fun kvs e => st7 _ _ hdt e).same s79)
    refine ⟨_, rfl, _, rfl, a, t, ns, _, 4, rfl, hS9, h63, hT9, by simp; omega, by decide, fun ck H10 hc0 hc1 hT10 st10 => ?_⟩
    have ts10 := st10.ts hT9
    have st010 := st09.trans st10
    have hS10 := hS.stp hT st010
    refine ⟨_, rfl, _, rfl, big _ (by simp), fun l nl => ?_⟩
    have s11 := Same.new nl (.lst [V.str "h", V.str "i"])
    have hl11 : (upd H10 l (.lst [V.str "h", V.str "i"]) : Hp) l = some (.lst [V.str "h", V.str "i"]) := upd_same
    have hlt : l ≠ t := fun e => by rw [e, hT10] at nl; cases nl
    generalize (upd H10 l (.lst [V.str "h", V.str "i"]) : Hp) = H11 at *
    have hT11 := s11 _ _ hT10
    refine ⟨a, t, ns, _, hS10.same s11, h63, hT11, by simp; omega, .inl ⟨l, _, rfl, hl11, hlt, by simp, fun x H12 hx hT12 st12 => ?_⟩⟩
    obtain ⟨hand, rfl⟩ : ∃ z : Str, x = V.str z := by
      simp only [List.mem_cons, List.not_mem_nil, or_false] at hx
      rcases hx with rfl | rfl <;> exact ⟨_, rfl⟩
    have ts12 := st12.ts hT11
    have st012 := (st010.trans (s11.stp (t := t))).trans st12
    have hS12 := hS.stp hT st012
    refine ⟨_, _, rfl, ?_⟩
    refine ⟨_, rfl, _, rfl, _, rfl, _, rfl, _, rfl, a, t, ns, _, 3, rfl, hS12, h63, hT12, by simp; omega, by decide, fun nm H13 hm0' hm1' hT13 st13 => ?_⟩
    have ts13 := st13.ts hT12
    have st013 := st012.trans st13
    refine ⟨big _ (by simp), fun b nb => ?_⟩
    have s14 := Same.new nb (.tup [V.ref ad, V.int ck, V.str hand, V.int nm])
    have hb14 : (upd H13 b (.tup [V.ref ad, V.int ck, V.str hand, V.int nm]) : Hp) b = some (.tup [V.ref ad, V.int ck, V.str hand, V.int nm]) := upd_same
    generalize (upd H13 b (.tup [V.ref ad, V.int ck, V.str hand, V.int nm]) : Hp) = H14 at *
    have hG14 := (((((hG9.ts ts10 fun kvs e => st10 _ _ hdt e).same s11).ts ts12 fun kvs e => st12 _ _ hdt e).ts ts13 fun kvs e => st13 _ _ hdt e).same s14)
    have hcl : ClH H14 b ad ⟨u, ck, hand, nm⟩ := ⟨hb14, s14 _ _ (ts13 _ _ (ts12 _ _ (s11 _ _ (ts10 _ _ had))))⟩
    obtain ⟨o, hput, hG15⟩ := hG14.put hcl ⟨⟨hc0, hc1⟩, hm0', hm1'⟩ (by omega)
    refine ⟨_, rfl, _, rfl, d, _, rfl, hput, ?_⟩
    refine ⟨_, _, _, _, _, _, rfl, by rw [upd_ne (Ne.symm hdt)]; exact s14 _ _ hT13, by simp; omega, fun x o' hx ex => ?_, hG15, ?_, fun z hz' => ?_⟩
    · rw [upd_ne (ne_of_none ex ndd)]
      exact s14 _ _ (st013 _ _ hx ex)
    · show (if u ∈ us then us else us ++ [u]).length ≤ j + 1
      by_cases c : u ∈ us
      · rw [if_pos c]; omega
      · rw [if_neg c, List.length_append, List.length_singleton]; omega
    · have hz'' : z ∈ (if u ∈ us then us else us ++ [u]) := hz'
      by_cases c : u ∈ us
      · rw [if_pos c] at hz''; exact hun z hz''
      · rw [if_neg c] at hz''
        rcases List.mem_append.mp hz'' with h | h
        · exact hun z h
        · rw [List.mem_singleton.mp h]; exact ⟨hnu, hlu⟩
  · rintro σ H3 ⟨v3, v4, v5, v6, us, zs3, rfl, hT3, hz3, st3, hG3, hul, hun⟩
    obtain ⟨kvs0, hdk, hkeys, ndu, _⟩ := id hG3
    refine ⟨_, rfl, d, us, rfl, ⟨kvs0, .inl hdk, hkeys⟩, by omega, fun u hu' => (hun u hu').1, fun l rs nl hp hH hs => ?_⟩
    have s4 := Same.new nl (.lst (rs.map fun r => V.ref r.1))
    have hl4 : (upd H3 l (.lst (rs.map fun r => V.ref r.1)) : Hp) l = some (.lst (rs.map fun r => V.ref r.1)) := upd_same
    have hG4 := hG3.same s4
    have hH4 : ∀ r ∈ rs, (upd H3 l (.lst (rs.map fun r => V.ref r.1)) : Hp) r.1 = some (.tup (r.2.map V.str)) := fun r hr' => s4 _ _ (hH r hr')
    generalize (upd H3 l (.lst (rs.map fun r => V.ref r.1)) : Hp) = H4 at *
    have hrl : rs.length ≤ 5 := by have := hp.length_eq; rw [List.length_map] at this; omega
    refine ⟨l, rfl, ⟨_, SqL.of hl4⟩, fun D hD => ?_⟩
    refine compF_rel (xs := rs.map fun r => V.ref r.1) (fr := [some (.ref d)]) (fun x v H' => ∃ r : Addr × List Str, x = V.ref r.1 ∧ H' r.1 = some (.tup (r.2.map V.str)) ∧ ∃ b a c', v = V.ref b ∧ ClH H' b a c' ∧ Pc31 c' ∧ c'.ad = r.2) (fun x v H H' s h => ?_) D hD (tells_list (SqL.of hl4)) (bigl _ (by rw [List.length_map]; omega)) ?_ ?_
    · obtain ⟨r, e, h1, b, a, c, e2, h2, h3⟩ := h
      exact ⟨r, e, s _ _ h1, b, a, c, e2, h2.ts s, h3⟩
    · intro x H5 Rr hx s5 hR5
      obtain ⟨r, hr', rfl⟩ := List.mem_map.mp hx
      have hr5 := s5 _ _ (hH4 r hr')
      have hin : r.2 ∈ us := hp.mem_iff.mp (List.mem_map.mpr ⟨r, hr', rfl⟩)
      obtain ⟨b, a', m, hget, hcm, hma, hm0⟩ := (hG4.same s5).get hin hr5
      exact ⟨_, rfl, _, rfl, d, V.ref b, rfl, hget, hR5 _ _ (Same.refl _) ⟨r, rfl, hr5, b, a', m, rfl, hcm, hm0, hma⟩⟩
    · intro H5 ys s5 hD5 hp5
      obtain ⟨cs2, rfl, hc2, ec2, hck⟩ := made_cls (Pc := Pc31) hp5 fun r hr' => s5 _ _ (hH4 r hr')
      refine ⟨D, _, rfl, .inl ⟨SqL.of hD5, fun q2 nq2 => ?_⟩⟩
      have s6 := Same.new nq2 (.tup (crefs cs2))
      have s36 := (s4.trans s5).trans s6
      have hcl : cs2.length = rs.length := by have := congrArg List.length ec2; rw [List.length_map, List.length_map] at this; exact this
      refine q q2 (cs2.map (·.2.2)) zs3 _ (s36 _ _ hT3) (by omega) (st3.trans s36.stp) ⟨cs2, upd_same, hc2.ts s6.ts, rfl⟩ ⟨?_, fun c hc => ?_, fun c hc => by obtain ⟨x, hx, rfl⟩ := List.mem_map.mp hc; exact hck x hx⟩ (by rw [List.length_map]; omega)
      · have h1 : (rs.map (·.2)).Pairwise fun a b => HS.ltT a b = true := by
          rw [List.pairwise_map]
          have ndq : (rs.map (·.2)).Nodup := hp.nodup_iff.mpr ndu
          rw [List.Nodup, List.pairwise_map] at ndq
          refine (hs.and ndq).imp fun {a b} z => ?_
          cases hc : HS.ltT a.2 b.2 with
          | true => rfl
          | false => exact absurd (HS.ltT_tri _ _ hc z.1) z.2
        rw [← ec2, List.pairwise_map] at h1
        rw [List.pairwise_map]
        exact h1
      · obtain ⟨x, hx, rfl⟩ := List.mem_map.mp hc
        have : x.2.2.ad ∈ rs.map (·.2) := by rw [← ec2]; exact List.mem_map.mpr ⟨x, hx, rfl⟩
        exact hun _ (hp.mem_iff.mp this)
end
end LW
namespace LW
open PySem L2 Mi Co
def spBoth : Sp := fun vs H Q _ => ∃ (p q : Addr) (A B : List Cl), vs = [.ref p, .ref q] ∧ ClsAt H p A ∧ ClsAt H q B ∧ A.length + B.length ≤ 20 ∧ (∀ c ∈ A ++ B, c.ad ≠ []) ∧ ∀ H', Same H H' → Q (.bl true) H'
theorem rise_of_sort {us : List (List Str)} {rs : List (Addr × List Str)} (hu : us.Nodup) (hp : (rs.map (·.2)).Perm us) (hs : rs.Pairwise fun a b => HS.ltT b.2 a.2 = false) : (rs.map (·.2)).Pairwise fun a b => HS.ltT a b = true := by
  rw [List.pairwise_map]
  have ndq : (rs.map (·.2)).Nodup := hp.nodup_iff.mpr hu
  rw [List.Nodup, List.pairwise_map] at ndq
  refine (hs.and ndq).imp fun {a b} z => ?_
  cases hc : HS.ltT a.2 b.2 with
  | true => rfl
  | false => exact absurd (HS.ltT_tri _ _ hc z.1) z.2
theorem dat_refs {K : PySem.W.Frag} {H : Hp} {rs : List (Addr × List Str)} (h : ∀ r ∈ rs, H r.1 = some (.tup (r.2.map V.str))) : AreDat K H ((rs.map (·.2)).map tupD) (rs.map fun r => V.ref r.1) := dat_tups h
section
variable {P : Program} {w : World} {K : PySem.W.Frag} {mg : Str → Option Value} {base : Heap} {f : Addr} {fd : FuncData}
theorem scBoth : FnScope ["_law_one", "_law_other", "_law_both", "_law_every", "_law_row", "_law_rivals"] ["_law_one", "_law_other"] (defScope sBoth) := ⟨rfl, rfl, rfl, by decide +kernel, rfl, by decide +kernel, by decide +kernel⟩
theorem ndB0 : (["_law_row"] : List Str).Nodup := by decide +kernel
theorem ndB1 : (["_law_row"] : List Str).Nodup := by decide +kernel
theorem ndB2 : (["_law_more", "_law_row"] : List Str).Nodup := by decide +kernel
theorem ndB3 : (["_law_more"] : List Str).Nodup := by decide +kernel
theorem ok_both {k : Nat} (F : Fun K "_law_both_hold" "_law_both_hold" sBoth f fd) (G : Blt mg) (Z_max : mg "max" = none) (hTog : Has P w K mg base "together" k ["one", "other"] spTog) :
    FnOk P w K mg base CX0 (k + 1) f fd ["_law_one", "_law_other"] spBoth := by
  refine F.ok scBoth (fun vs H Q E h => ?_) (fun cdv A outer s H vs Q E hr h => ?_)
  · obtain ⟨p, q', L, M, rfl, _⟩ := h
    rfl
  obtain ⟨p, q', L, M, rfl, hL, hM, hz, hne, q⟩ := h
  have hu := hu_of hr
  refine ⟨_, (pss_cons (ps_par (i := 2) (j := 3) rfl scBoth.nd rfl rfl (by decide) rfl rfl (pa_cons (pe_callH hTog hr rfl (pa_cons (pv 0) (pa_cons (pv 1) pa_nil))) (pa_cons (pe_op op_catH (pv 0) (pv 1)) pa_nil)) rfl)
    (pss_cons (ps_if (pt_cmpR (op_neLS (hu8 hr)) (pe_compF (te := (tOp (rIxT K) (tVar 0) (tC (.int 0)))) (xs := ["_law_row"]) (ys := []) (js := []) rfl (by decide +kernel) (by decide +kernel) rfl (by decide +kernel) trivial
      (pi_tup (pv 2)) (fun _ _ _ _ _ => (pg_name (i := 0) ndB0 rfl (Or.inl rfl) (.inr rfl))) (fun _ _ _ _ _ => pts_nil) (fun _ _ _ _ _ => (pe_ix ix_tup (pv 0) pe_int fun _ _ => rfl))) (pe_callB (call_sortDT rfl) rfl G.sorted boot_sorted (pa_cons (pe_callTy (call_dictLT rfl (hu8 hr)) rfl G.dict boot_dict (pa_cons (pe_compF (te := (tTup (tCons (tOp (rIxT K) (tVar 0) (tC (.int 0))) (tCons (tC (.int 0)) tNil)))) (xs := ["_law_row"]) (ys := []) (js := []) rfl (by decide +kernel) (by decide +kernel) rfl (by decide +kernel) trivial
      (pi_tup (pv 3)) (fun _ _ _ _ _ => (pg_name (i := 0) ndB1 rfl (Or.inl rfl) (.inr rfl))) (fun _ _ _ _ _ => pts_nil) (fun _ _ _ _ _ => (pe_tup (pa_cons (pe_ix ix_tup (pv 0) pe_int fun _ _ => rfl) (pa_cons pe_int pa_nil))))) pa_nil)) pa_nil)) (nomark _)) pss_never pss_nil)
    (pss_cons (ps_for PassesOwn.never rfl (pi_tup (pv 2)) (pg_name (i := 4) scBoth.nd rfl (Or.inr rfl))
      (pss_cons (ps_compF (ix := 5) (tt := (tTest (tOp (rEqD K) (tOp (rIxT K) (tVar 0) (tC (.int 0))) (tOp (rIxT K) (tVar 1) (tC (.int 0)))))) (te := (tVar 0)) (xs := ["_law_more"]) (ys := ["_law_row"]) (js := [4]) rfl (by decide +kernel) (by decide +kernel) rfl (by decide +kernel) ⟨rfl, .inl rfl, rfl, trivial⟩
      (pi_tup (pv 3)) (fun _ _ _ _ _ => (pg_name (i := 0) ndB2 rfl (Or.inl rfl) (.inr rfl))) (fun _ _ _ _ _ => pts_one (pt_cmpR (op_eqD (hu8 hr)) (pe_ix ix_tup (pv 0) pe_int fun _ _ => rfl) (pe_ix ix_tup (pv 1) pe_int fun _ _ => rfl) (nomark _))) (fun _ _ _ _ _ => (pv 0)) scBoth.nd rfl (Or.inl rfl))
      (pss_one (ps_if (PW.pt (pw_or (pt_cmpR (op_notInD (hu8 hr)) (pv 4) (pv 5) (by with_unfolding_all rfl)) (pw_or1 (pt_cmpR (op_neS (hu8 hr)) (pe_callB (call_maxD rfl (hu8 hr)) rfl Z_max boot_max (pa_cons (pe_compF (xs := ["_law_more"]) (ys := []) (js := []) rfl (by decide +kernel) (by decide +kernel) rfl (by decide +kernel) trivial
      (pi_list (pv 5)) (fun _ _ _ _ _ => (pg_name (i := 0) ndB3 rfl (Or.inl rfl) (.inr rfl))) (fun _ _ _ _ _ => pts_nil) (fun _ _ _ _ _ => (pe_slice sl_tupH (pv 0) (po_some pe_int) po_none))) pa_nil)) (pe_slice sl_tupH (pv 4) (po_some pe_int) po_none) (nomark _))))) pss_never pss_nil))))
    (pss_one (ps_ret (pe_and (pe_cmpR (op_eqS (hu8 hr)) (pe_callH hTog hr rfl (pa_cons (pv 1) (pa_cons (pv 0) pa_nil))) (pv 2) (nomark _)) (pe_and (pe_cmpR (op_eqS (hu8 hr)) (pe_callH hTog hr rfl (pa_cons (pv 2) (pa_cons (pv 0) pa_nil))) (pv 2) (nomark _)) (pe_one (pe_cmpR (op_eqS (hu8 hr)) (pe_callH hTog hr rfl (pa_cons (pv 2) (pa_cons (pv 2) pa_nil))) (pv 2) (nomark _)))))))))), ?_⟩
  refine ⟨_, rfl, _, rfl, p, q', L, M, rfl, hL, hM, by omega, hne, fun pb Bo H1 s1 hB1 tB => ?_⟩
  obtain ⟨as, ha, has, eA⟩ := hL.same s1
  obtain ⟨bs, hb, hbs, eB⟩ := hM.same s1
  have lA : as.length = L.length := by rw [← eA, List.length_map]
  have lB : bs.length = M.length := by rw [← eB, List.length_map]
  refine ⟨_, rfl, _, rfl, p, q', _, _, rfl, rfl, ha, hb, big _ (by rw [List.length_map, List.length_map]; omega), fun cc H2 s2 hcc => ?_⟩
  have ecc : crefs as ++ crefs bs = crefs (as ++ bs) := by unfold crefs; rw [List.map_append]
  rw [ecc] at hcc
  have hcs : ClsIn H2 (as ++ bs) := fun x hx => by
    rcases List.mem_append.mp hx with hx | hx
    · exact (has x hx).ts s2.ts
    · exact (hbs x hx).ts s2.ts
  have eC : (as ++ bs).map (·.2.2) = L ++ M := by rw [List.map_append, eA, eB]
  have lC : (as ++ bs).length ≤ 20 := by rw [List.length_append]; omega
  generalize as ++ bs = cs at *
  have hB2 := hB1.same s2
  have hL2 := (hL.same s1).same s2
  have hM2 := (hM.same s1).same s2
  have s02 := s1.trans s2
  refine ⟨_, _, rfl, ?_⟩
  obtain ⟨bo, hbo, hbos, eBo⟩ := id hB2
  have lBo : bo.length = Bo.length := by rw [← eBo, List.length_map]
  have lBo2 : Bo.length ≤ 20 := by have := tog_len tB; rw [List.length_append] at this; omega
  -- the addresses of both
  refine ⟨_, rfl, pb, rfl, ⟨_, SqT.of hbo⟩, fun D hD => ?_⟩
  refine compF_cls (fr := []) (fun r => .ref r.2.1) (fun _ => true) D hD (tells_tup (SqT.of hbo)) (bigl _ (by omega)) (fun r H3 Rr hr' s3 hR3 => hR3 H3 (Same.refl _)) ?_ ?_
  · intro r H3 Rr hr' _ s3 hR3
    exact ⟨_, rfl, r.1, _, _, V.ref r.2.1, rfl, rfl, SqT.of (s3 _ _ (hbos r hr').1), rfl, hR3 H3 (Same.refl _)⟩
  intro H3 s3 hD3
  have ef : (bo.filter fun _ => true) = bo := List.filter_eq_self.mpr fun _ _ => rfl
  rw [ef] at hD3
  have hcc3 := s3 _ _ hcc
  have hcs3 := hcs.ts s3.ts
  refine ⟨_, rfl, cc, rfl, ⟨_, SqT.of hcc3⟩, fun D2 hD2 => ?_⟩
  refine compF_rel (xs := crefs cs) (fr := []) (fun x v H' => ∃ b0 a c, x = V.ref b0 ∧ ClH H' b0 a c ∧ ∃ b, v = V.ref b ∧ H' b = some (.tup [.ref a, .int 0])) (fun x v H H' s h => ?_) D2 hD2 (tells_tup (SqT.of hcc3)) (bigl _ (by rw [List.length_map]; omega)) ?_ ?_
  · obtain ⟨b0, a, c, e, h1, b, e2, h2⟩ := h
    exact ⟨b0, a, c, e, h1.ts s, b, e2, s _ _ h2⟩
  · intro x H4 Rr hx s4 hR4
    obtain ⟨r, hr', rfl⟩ := List.mem_map.mp hx
    have hrow := (hcs3 r hr').ts s4.ts
    refine ⟨_, rfl, r.1, _, _, V.ref r.2.1, rfl, rfl, SqT.of hrow.1, rfl, big _ (by simp), fun b' nb => ?_⟩
    have sb := Same.new nb (.tup [V.ref r.2.1, V.int 0])
    exact hR4 _ _ sb ⟨r.1, r.2.1, r.2.2, rfl, hrow.ts sb.ts, b', rfl, upd_same⟩
  intro H4 ys s4 hD4 hp4
  have hpt := made_pairs0 (K := K) (hcs3.ts s4.ts) hp4
  have hyl : ys.length = cs.length := by have := Paired.length hp4; rw [List.length_map] at this; exact this.symm
  refine ⟨D2, ys, _, rfl, hD4, hpt, by omega, fun d ndd => ?_⟩
  obtain ⟨us, hkeys, ndu, hmu, hul⟩ := mergeT_keys (gs := cs.map fun r => (r.2.2.ad, V.int 0)) (us := []) (kvs := []) rfl List.nodup_nil
  have s5 := Same.new ndd (.dT (mergeT [] ((cs.map fun r => (r.2.2.ad, V.int 0)).map fun g => (g.1.map Sum.inr, g.2))))
  have hd5 : (upd H4 d (.dT (mergeT [] ((cs.map fun r => (r.2.2.ad, V.int 0)).map fun g => (g.1.map Sum.inr, g.2)))) : Hp) d = _ := upd_same
  generalize (upd H4 d (.dT (mergeT [] ((cs.map fun r => (r.2.2.ad, V.int 0)).map fun g => (g.1.map Sum.inr, g.2)))) : Hp) = H5 at *
  rw [List.length_map] at hul
  have hmu' : ∀ u, u ∈ us ↔ ∃ c ∈ L ++ M, c.ad = u := fun u => by
    rw [hmu, List.map_map, ← eC]
    constructor
    · rintro (h | h)
      · cases h
      · obtain ⟨r, hr', e⟩ := List.mem_map.mp h
        exact ⟨r.2.2, List.mem_map.mpr ⟨r, hr', rfl⟩, e⟩
    · rintro ⟨c, hc, e⟩
      obtain ⟨r, hr', rfl⟩ := List.mem_map.mp hc
      exact .inr (List.mem_map.mpr ⟨r, hr', e⟩)
  refine ⟨d, us, rfl, ⟨_, .inl hd5, hkeys⟩, by simp at hul; omega, fun u hu' => ?_, fun l rs nl hp hH hs => ?_⟩
  · obtain ⟨c, hc, rfl⟩ := (hmu' u).mp hu'
    exact hne c hc
  have s6 := Same.new nl (.lst (rs.map fun r => V.ref r.1))
  have hl6 : (upd H5 l (.lst (rs.map fun r => V.ref r.1)) : Hp) l = some (.lst (rs.map fun r => V.ref r.1)) := upd_same
  have hH6 : ∀ r ∈ rs, (upd H5 l (.lst (rs.map fun r => V.ref r.1)) : Hp) r.1 = some (.tup (r.2.map V.str)) := fun r hr' => s6 _ _ (hH r hr')
  generalize (upd H5 l (.lst (rs.map fun r => V.ref r.1)) : Hp) = H6 at *
  have s36 := (s4.trans s5).trans s6
  have s26 := s3.trans s36
  have hD6 := s36 _ _ hD3
  have eT : rs.map (·.2) = Bo.map (·.ad) := tups_eq (rise_of_sort ndu hp hs) (by rw [List.pairwise_map]; exact tB.rise) fun u => by
    rw [hp.mem_iff, hmu']
    constructor
    · rintro ⟨c, hc, rfl⟩
      obtain ⟨m, hm, em⟩ := max_ex (L ++ M) c.ad ⟨c, hc, rfl⟩
      exact List.mem_map.mpr ⟨m, (tB.mem m).mpr hm, em⟩
    · intro h
      obtain ⟨c, hc, rfl⟩ := List.mem_map.mp h
      exact ⟨c, tB.sub hc, rfl⟩
  have d1 : AreDat K H6 ((Bo.map (·.ad)).map tupD) (bo.map fun r => V.ref r.2.1) := by
    rw [← eBo, List.map_map, List.map_map]
    exact are_map fun x hx => str_dat (s26 _ _ (hbos x hx).2)
  have d2 : AreDat K H6 ((Bo.map (·.ad)).map tupD) (rs.map fun r => V.ref r.1) := by rw [← eT]; exact dat_refs hH6
  refine ⟨D, l, _, _, _, rfl, rfl, SqL.of hD6, SqL.of hl6, d1, d2, deep_tups _, _, rfl, iteF ?_⟩
  -- row by row
  have hbo6 := s26 _ _ hbo
  have hbos6 := hbos.ts s26.ts
  have hcc6 := s26 _ _ hcc
  have hcs6 := hcs.ts s26.ts
  refine ⟨_, rfl, pb, rfl, ⟨_, SqT.of hbo6⟩, ?_⟩
  refine for_tup (xs := crefs bo) (fun j σ H' => ∃ (v4 v5 : Option V), σ = [some (.ref p), some (.ref q'), some (.ref pb), some (.ref cc), v4, v5] ∧ Same H6 H')
    ⟨_, _, rfl, Same.refl _⟩ (fun j σ H' _ h => by obtain ⟨_, _, _, s⟩ := h; exact SqT.of (s _ _ hbo6)) ?_ ?_
  · rintro j x σ H7 hx ⟨v4, v5, rfl, s7⟩
    rw [List.getElem?_map] at hx
    obtain ⟨r, hri, rfl⟩ : ∃ r, bo[j]? = some r ∧ V.ref r.1 = x := by
      cases hh : bo[j]? with
      | none => rw [hh] at hx; cases hx
      | some y => rw [hh] at hx; injection hx with hx; exact ⟨y, rfl, hx⟩
    have hrb := List.mem_of_getElem? hri
    have hrow : ClH H7 r.1 r.2.1 r.2.2 := (hbos6 r hrb).ts s7.ts
    have hmx : MaxIn (L ++ M) r.2.2 := (tB.mem _).mp (by rw [← eBo]; exact List.mem_map.mpr ⟨r, hrb, rfl⟩)
    have hcc7 := s7 _ _ hcc6
    have hcs7 := hcs6.ts s7.ts
    refine ⟨_, rfl, cc, rfl, ⟨_, SqT.of hcc7⟩, fun D3 hD3' => ?_⟩
    refine compF_cls (fr := [some (.ref r.1)]) (fun x => .ref x.1) (fun x => decide (x.2.2.ad = r.2.2.ad)) D3 hD3' (tells_tup (SqT.of hcc7)) (bigl _ (by omega)) ?_ ?_ ?_
    · intro x H8 Rr hx s8 hR8
      have hx8 := (hcs7 x hx).ts s8.ts
      have hr8 := hrow.ts s8.ts
      refine ⟨_, rfl, x.1, _, _, V.ref x.2.1, rfl, rfl, SqT.of hx8.1, rfl, _, rfl, r.1, _, _, V.ref r.2.1, rfl, rfl, SqT.of hr8.1, rfl, _, _, str_dat hx8.2, str_dat hr8.2, by rw [deeps0']; decide, _, rfl, ?_⟩
      rw [tup_beq]
      exact hR8 H8 (Same.refl _)
    · intro x H8 Rr hx _ s8 hR8
      exact ⟨_, rfl, hR8 H8 (Same.refl _)⟩
    intro H8 s8 hD8
    have hrow8 := hrow.ts s8.ts
    have hri8 : ClsIn H8 (cs.filter fun x => decide (x.2.2.ad = r.2.2.ad)) := fun x hx => (hcs7 x (List.mem_filter.mp hx).1).ts s8.ts
    have eri : (cs.filter fun x => decide (x.2.2.ad = r.2.2.ad)).map (·.2.2) = (L ++ M).filter fun c => decide (c.ad = r.2.2.ad) := by rw [filter_cls cs fun c => decide (c.ad = r.2.2.ad), eC]
    have lri : (cs.filter fun x => decide (x.2.2.ad = r.2.2.ad)).length ≤ cs.length := List.length_filter_le _ _
    generalize (cs.filter fun x => decide (x.2.2.ad = r.2.2.ad)) = ri at *
    have hmem : r.2.2 ∈ ri.map (·.2.2) := by rw [eri]; exact List.mem_filter.mpr ⟨hmx.1, decide_eq_true rfl⟩
    have hdat : AreDat K H8 ((ri.map (·.2.2)).map clD) (ri.map fun x => V.ref x.1) := by
      rw [List.map_map]
      exact are_map fun x hx => cl_dat (hri8 x hx)
    refine ⟨_, rfl, _, rfl, D3, _, _, _, cl_dat hrow8, rfl, .inl (SqL.of hD8), hdat, Nat.le_trans (cls_deep _) (by decide), _, rfl, ?_⟩
    have hany : ((ri.map (·.2.2)).map clD).any (fun d => Dat.beq d (clD r.2.2)) = true := List.any_eq_true.mpr ⟨_, List.mem_map.mpr ⟨_, hmem, rfl⟩, beq_refl _⟩
    rw [hany]
    refine iteF ?_
    -- the greatest one
    refine ⟨_, rfl, D3, rfl, ⟨_, SqL.of hD8⟩, fun D4 hD4' => ?_⟩
    refine compF_rel (xs := crefs ri) (fr := []) (fun x v H' => ∃ b0 a c, x = V.ref b0 ∧ ClH H' b0 a c ∧ ∃ b, v = V.ref b ∧ H' b = some (.tup [.int c.ck, .str c.hd, .int c.nm])) (fun x v H H' s h => ?_) D4 hD4' (tells_list (SqL.of hD8)) (bigl _ (by rw [List.length_map]; omega)) ?_ ?_
    · obtain ⟨b0, a, c, e, h1, b, e2, h2⟩ := h
      exact ⟨b0, a, c, e, h1.ts s, b, e2, s _ _ h2⟩
    · intro x H9 Rr hx s9 hR9
      obtain ⟨y, hy, rfl⟩ := List.mem_map.mp hx
      have hy9 := (hri8 y hy).ts s9.ts
      refine ⟨_, rfl, _, rfl, y.1, _, rfl, hy9.1, fun t1 H10 s10 ht1 => ?_⟩
      exact hR9 _ _ s10 ⟨y.1, y.2.1, y.2.2, rfl, hy9.ts s10.ts, t1, rfl, ht1⟩
    intro H9 ys2 s9 hD9 hp9
    have hdt : AreDat K H9 ((ri.map (·.2.2)).map tailD) ys2 := tails_dat (hri8.ts s9.ts) hp9
    have hmaxr : maxD ((ri.map (·.2.2)).map tailD) = tailD r.2.2 := by
      refine max_tail hmem (fun d hd => ?_) fun d hd => ?_
      · rw [eri] at hd
        have := List.mem_filter.mp hd
        exact hmx.2 d this.1 (of_decide_eq_true this.2)
      · rw [eri] at hd
        exact of_decide_eq_true (List.mem_filter.mp hd).2
    refine ⟨D4, _, _, rfl, SqL.of hD9, hdt, (fun e => ?_), Nat.le_trans (deeps_map (n := 1) fun c _ => by show max 0 (max 0 (max 0 0)) + 1 ≤ 1; decide) (by decide), ?_, fun v hv => ?_⟩
    · rw [List.map_eq_nil_iff] at e
      rw [e] at hmem
      cases hmem
    · intro d hd e he
      obtain ⟨c1, _, rfl⟩ := List.mem_map.mp hd
      obtain ⟨c2, _, rfl⟩ := List.mem_map.mp he
      rfl
    rw [hmaxr] at hv
    refine ⟨_, rfl, _, rfl, r.1, _, rfl, (hrow8.ts s9.ts).1, fun t1 H10 s10 ht1 => ?_⟩
    refine ⟨_, IsDat.same s10 hv, ⟨t1, _, rfl, SqT.of ht1, _, _, rfl, rfl, _, _, rfl, rfl, _, _, rfl, rfl, rfl⟩, (by show max 0 (max 0 (max 0 0)) ≤ 6; decide), _, rfl, iteF ?_⟩
    exact ⟨_, _, rfl, ((s7.trans s8).trans s9).trans s10⟩
  rintro σ H7 ⟨v4, v5, rfl, s7⟩
  have s27 := s26.trans s7
  have hB7 := hB2.same s27
  have hL7 := hL2.same s27
  have hM7 := hM2.same s27
  have hneB : ∀ c ∈ Bo, c.ad ≠ [] := fun c hc => hne c (tB.sub hc)
  have hneL : ∀ c ∈ L, c.ad ≠ [] := fun c hc => hne c (List.mem_append_left _ hc)
  have hneM : ∀ c ∈ M, c.ad ≠ [] := fun c hc => hne c (List.mem_append_right _ hc)
  have app : ∀ {U V : List Cl}, (∀ c ∈ U, c.ad ≠ []) → (∀ c ∈ V, c.ad ≠ []) → ∀ c ∈ U ++ V, c.ad ≠ [] := fun h1 h2 c hc => (List.mem_append.mp hc).elim (h1 c) (h2 c)
  have d6 : ∀ U : List Cl, Dat.deeps (U.map clD) ≤ 6 := fun U => Nat.le_trans (cls_deep U) (by decide)
  refine ⟨_, rfl, _, rfl, q', p, M, L, rfl, hM7, hL7, by omega, app hneM hneL, fun r1 C1 H8 s8 hC1 tC1 => ?_⟩
  have e1 := tog_uniq (tog_congr tC1 (M := L ++ M) fun c => by rw [List.mem_append, List.mem_append]; exact Or.comm) tB
  subst e1
  refine ⟨_, rfl, _, cls_dat hC1, cls_dat (hB7.same s8), d6 _, _, rfl, iteT ?_⟩
  refine ⟨_, rfl, _, rfl, pb, p, C1, L, rfl, hB7.same s8, hL7.same s8, by omega, app hneB hneL, fun r2 C2 H9 s9 hC2 tC2 => ?_⟩
  have e2 : C2 = C1 := tog_uniq (tog_congr (tog_app tB tC2) fun c => by
    rw [List.mem_append]
    exact ⟨fun h => h.elim id fun h => List.mem_append_left _ h, .inl⟩) tB
  subst e2
  have s89 := s8.trans s9
  refine ⟨_, rfl, _, cls_dat hC2, cls_dat (hB7.same s89), d6 _, _, rfl, iteT ?_⟩
  refine ⟨_, rfl, _, rfl, pb, pb, C2, C2, rfl, hB7.same s89, hB7.same s89, by omega, app hneB hneB, fun r3 C3 H10 s10 hC3 tC3 => ?_⟩
  have e3 : C3 = C2 := tog_uniq (tog_app tB (M := []) (by rw [List.append_nil]; exact tog_congr tC3 fun c => by rw [List.mem_append]; exact or_self_iff)) (by rw [List.append_nil]; exact tB)
  subst e3
  have s810 := s89.trans s10
  exact ⟨_, rfl, _, cls_dat hC3, cls_dat (hB7.same s810), d6 _, q _ (((s02.trans s27).trans s89).trans s10)⟩
end
end LW
namespace LW
open PySem L2 Mi Co
def spSinceH : Sp := fun vs H Q _ => ∃ (p : Addr) (A : List Cl), vs = [.ref p] ∧ ClsAt H p A ∧ A.length ≤ 20 ∧ (∀ c ∈ A, c.ad ≠ []) ∧ (A.Pairwise fun a b => HS.ltT a.ad b.ad = true) ∧ (∀ c ∈ A, 0 ≤ c.ck ∧ c.ck < 4) ∧ ∀ H', Same H H' → Q (.bl true) H'
theorem clD_inj {c d : Cl} (h : clD c = clD d) : c = d := by
  injection h with h
  injection h with h1 h
  injection h with h2 h
  injection h with h3 h
  injection h with h4 _
  injection h1 with h1
  injection h2 with h2
  injection h3 with h3
  injection h4 with h4
  have e := of_decide_eq_true ((tup_beq c.ad d.ad).symm.trans (beqs_iff.mpr h1))
  obtain ⟨a, k, x, n⟩ := c
  obtain ⟨a', k', x', n'⟩ := d
  simp only at e h2 h3 h4
  rw [e, h2, h3, h4]
theorem any_cl (L : List Cl) (c : Cl) : (L.map clD).any (fun d => Dat.beq d (clD c)) = decide (c ∈ L) := by
  rw [Bool.eq_iff_iff, List.any_eq_true, decide_eq_true_eq]
  constructor
  · rintro ⟨d, hd, e⟩
    obtain ⟨x, hx, rfl⟩ := List.mem_map.mp hd
    rw [← clD_inj (dat_eq_of e)]
    exact hx
  · intro h
    exact ⟨_, List.mem_map.mpr ⟨c, h, rfl⟩, beq_refl _⟩
section
variable {P : Program} {w : World} {K : PySem.W.Frag} {mg : Str → Option Value} {base : Heap} {f : Addr} {fd : FuncData}
theorem scSinceH : FnScope ["_law_rows_here", "_law_clock", "_law_late", "_law_early"] ["_law_rows_here"] (defScope sSinceH) := ⟨rfl, rfl, rfl, by decide +kernel, rfl, by decide +kernel, by decide +kernel⟩
theorem ndC0 : (["_law_row", "_law_clock"] : List Str).Nodup := by decide +kernel
theorem ndC1 : (["_law_row", "_law_late"] : List Str).Nodup := by decide +kernel
theorem ok_sinceH {k : Nat} (F : Fun K "_law_since_holds" "_law_since_holds" sSinceH f fd) (G : Blt mg) (hTog : Has P w K mg base "together" k ["one", "other"] spTog) (hSince : Has P w K mg base "since" k ["rows", "clock"] spSince) :
    FnOk P w K mg base CX0 (k + 1) f fd ["_law_rows_here"] spSinceH := by
  refine F.ok scSinceH (fun vs H Q E h => ?_) (fun cdv A outer s H vs Q E hr h => ?_)
  · obtain ⟨p, L, rfl, _⟩ := h
    rfl
  obtain ⟨p, L, rfl, hL, hz, hne, hri, hck, q⟩ := h
  have hu := hu_of hr
  refine ⟨_, (pss_cons (ps_if (PW.pt (pw_or (pt_cmpR (op_neS (hu8 hr)) (pe_callH hSince hr rfl (pa_cons (pv 0) (pa_cons (pe_un un_neg pe_int) pa_nil))) (pv 0) (nomark _)) (pw_or1 (pt_cmpR (op_neS (hu8 hr)) (pe_callH hSince hr rfl (pa_cons (pv 0) (pa_cons pe_int pa_nil))) (pe_tup pa_nil) (nomark _))))) pss_never pss_nil)
    (pss_cons (ps_for PassesOwn.never rfl (pi_range2 rfl G.range (pa_cons (pe_un un_neg pe_int) (pa_cons pe_int pa_nil))) (pg_name (i := 1) scSinceH.nd rfl (Or.inr rfl))
      (pss_cons (ps_set (i := 2) scSinceH.nd rfl (Or.inr rfl) (pe_callH hSince hr rfl (pa_cons (pv 0) (pa_cons (pv 1) pa_nil))))
      (pss_cons (ps_if (PW.pt (pw_or (pt_cmpR (op_neLS (hu8 hr)) (pe_callTy call_list_of rfl G.list boot_list (pa_cons (pv 2) pa_nil)) (pe_compF (tt := (tTest (tOp (rI0 fun i j => .bl (decide (j < i))) (tOp (rIxT K) (tVar 0) (tC (.int 1))) (tVar 1)))) (te := (tVar 0)) (xs := ["_law_row"]) (ys := ["_law_clock"]) (js := [1]) rfl (by decide +kernel) (by decide +kernel) rfl (by decide +kernel) ⟨rfl, .inl rfl, rfl, trivial⟩
      (pi_tup (pv 0)) (fun _ _ _ _ _ => (pg_name (i := 0) ndC0 rfl (Or.inl rfl) (.inr rfl))) (fun _ _ _ _ _ => pts_one (pt_cmpR op_gt (pe_ix ix_tup (pv 0) pe_int fun _ _ => rfl) (pv 1) (nomark _))) (fun _ _ _ _ _ => (pv 0))) (nomark _)) (pw_or1 (pt_cmpR (op_neS (hu8 hr)) (pe_callH hTog hr rfl (pa_cons (pv 0) (pa_cons (pv 2) pa_nil))) (pv 0) (nomark _))))) pss_never pss_nil)
      (pss_cons (ps_set (i := 3) scSinceH.nd rfl (Or.inl rfl) (pe_callTy call_tuple_of rfl G.tuple boot_tuple (pa_cons (pe_compF (tt := (tTest (tOp (rInD K true) (tVar 0) (tVar 1)))) (te := (tVar 0)) (xs := ["_law_row"]) (ys := ["_law_late"]) (js := [2]) rfl (by decide +kernel) (by decide +kernel) rfl (by decide +kernel) ⟨rfl, .inl rfl, rfl, trivial⟩
      (pi_tup (pv 0)) (fun _ _ _ _ _ => (pg_name (i := 0) ndC1 rfl (Or.inl rfl) (.inr rfl))) (fun _ _ _ _ _ => pts_one (pt_cmpR (op_notInD (hu8 hr)) (pv 0) (pv 1) (by with_unfolding_all rfl))) (fun _ _ _ _ _ => (pv 0))) pa_nil)))
      (pss_one (ps_if (PW.pt (pw_or (pt_cmpR (op_neS (hu8 hr)) (pe_callH hTog hr rfl (pa_cons (pv 3) (pa_cons (pv 2) pa_nil))) (pv 0) (nomark _)) (pw_or1 (pt_cmpR (op_neS (hu8 hr)) (pe_callH hSince hr rfl (pa_cons (pv 2) (pa_cons (pv 1) pa_nil))) (pv 2) (nomark _))))) pss_never pss_nil))))))
    (pss_one (ps_ret pe_bl)))), ?_⟩
  have d6 : ∀ U : List Cl, Dat.deeps (U.map clD) ≤ 6 := fun U => Nat.le_trans (cls_deep U) (by decide)
  refine ⟨_, rfl, _, rfl, p, -1, L, rfl, hL, by omega, fun r1 H1 s1 hC1 => ?_⟩
  have efil : (L.filter fun c => decide (-1 < c.ck)) = L := List.filter_eq_self.mpr fun c hc => decide_eq_true (by have := (hck c hc).1; omega)
  rw [efil] at hC1
  have hL1 := hL.same s1
  refine ⟨_, rfl, _, cls_dat hC1, cls_dat hL1, d6 _, _, rfl, iteF ?_⟩
  refine ⟨_, rfl, p, 9, L, rfl, hL1, by omega, fun r2 H2 s2 hC2 => ?_⟩
  have efil2 : (L.filter fun c => decide (9 < c.ck)) = [] := List.filter_eq_nil_iff.mpr fun c hc h => by
    have h1 := of_decide_eq_true h
    have h2 := (hck c hc).2
    omega
  rw [efil2] at hC2
  refine ⟨big _ (by simp), fun te nte => ?_⟩
  have s3 := Same.new nte (.tup ([] : List V))
  refine ⟨_, cls_dat (hC2.same s3), ⟨te, _, rfl, SqT.of upd_same, rfl⟩, d6 _, _, rfl, iteF ?_⟩
  have s03 := (s1.trans s2).trans s3
  generalize (upd H2 te (.tup ([] : List V)) : Hp) = H3 at *
  have hL3 := hL.same s03
  refine ⟨_, rfl, _, _, rfl, ⟨by decide, by decide, by decide, by decide⟩, ?_⟩
  refine for_range (n := (5 - -1 : Int).toNat) (fun j σ H' => ∃ (v1 v2 v3 : Option V), σ = [some (.ref p), v1, v2, v3] ∧ Same H3 H')
    ⟨_, _, _, rfl, Same.refl _⟩ ?_ (fun σ H' h => by obtain ⟨_, _, _, _, s4⟩ := h; exact q _ (s03.trans s4))
  rintro j σ H4 hj ⟨v1, v2, v3, rfl, s4⟩
  have hL4 := hL3.same s4
  generalize (-1 + (j : Int)) = ck at *
  refine ⟨_, rfl, _, rfl, p, ck, L, rfl, hL4, by omega, fun r5 H5 s5 hC5 => ?_⟩
  have hL5 := hL4.same s5
  have sub : ∀ c ∈ L.filter (fun c => decide (ck < c.ck)), c ∈ L := fun c hc => (List.mem_filter.mp hc).1
  have lla : (L.filter fun c => decide (ck < c.ck)).length ≤ L.length := List.length_filter_le _ _
  have rla : (L.filter fun c => decide (ck < c.ck)).Pairwise fun a b => HS.ltT a.ad b.ad = true := hri.sublist List.filter_sublist
  have ela : (L.filter fun c => decide (ck < c.ck)).filter (fun c => decide (ck < c.ck)) = L.filter fun c => decide (ck < c.ck) := List.filter_eq_self.mpr fun c hc => (List.mem_filter.mp hc).2
  have emem : ∀ c, c ∈ L.filter (fun c => decide (ck < c.ck)) ↔ c ∈ L ∧ decide (ck < c.ck) = true := fun c => List.mem_filter
  obtain ⟨lc, hlc, hlcs, elc⟩ := id hC5
  refine ⟨_, rfl, r5, _, rfl, .inr (SqT.of hlc), fun l6 nl6 => ?_⟩
  have s6 := Same.new nl6 (.lst (crefs lc))
  have hl6 : (upd H5 l6 (.lst (crefs lc)) : Hp) l6 = some (.lst (crefs lc)) := upd_same
  generalize (upd H5 l6 (.lst (crefs lc)) : Hp) = H6 at *
  obtain ⟨cs, hp, hcs, eL⟩ := hL5.same s6
  have lcs : cs.length = L.length := by rw [← eL, List.length_map]
  refine ⟨_, rfl, p, rfl, ⟨_, SqT.of hp⟩, fun D hD => ?_⟩
  refine compF_cls (fr := [some (.int ck)]) (fun r => .ref r.1) (fun r => decide (ck < r.2.2.ck)) D hD (tells_tup (SqT.of hp)) (bigl _ (by omega)) ?_ ?_ ?_
  · intro r H1 Rr hr' s1 hR1
    exact ⟨_, rfl, r.1, _, _, V.int r.2.2.ck, rfl, rfl, SqT.of (s1 _ _ (hcs r hr').1), rfl, _, rfl, _, _, rfl, rfl, _, rfl, hR1 H1 (Same.refl _)⟩
  · intro r H1 Rr hr' _ s1 hR1
    exact ⟨_, rfl, hR1 H1 (Same.refl _)⟩
  intro H7 s7 hD7
  have d1 : AreDat K H7 ((L.filter fun c => decide (ck < c.ck)).map clD) (crefs lc) := by
    rw [← elc, List.map_map]
    exact are_map fun x hx => cl_dat ((hlcs x hx).ts (s6.trans s7).ts)
  have d2 : AreDat K H7 ((L.filter fun c => decide (ck < c.ck)).map clD) ((cs.filter fun r => decide (ck < r.2.2.ck)).map fun r => V.ref r.1) := by
    rw [← eL, ← filter_cls cs fun c => decide (ck < c.ck), List.map_map]
    exact are_map fun x hx => cl_dat ((hcs x (List.mem_filter.mp hx).1).ts s7.ts)
  refine ⟨l6, D, _, _, _, rfl, rfl, SqL.of (s7 _ _ hl6), SqL.of hD7, d1, d2, cls_deep _, _, rfl, iteF ?_⟩
  have s57 := s6.trans s7
  have hL7 := hL5.same s57
  have hC7 := hC5.same s57
  have neF : ∀ c ∈ L.filter (fun c => decide (ck < c.ck)), c.ad ≠ [] := fun c hc => hne c (sub c hc)
  have app : ∀ {U V : List Cl}, (∀ c ∈ U, c.ad ≠ []) → (∀ c ∈ V, c.ad ≠ []) → ∀ c ∈ U ++ V, c.ad ≠ [] := fun h1 h2 c hc => (List.mem_append.mp hc).elim (h1 c) (h2 c)
  refine ⟨_, rfl, _, rfl, p, r5, L, _, rfl, hL7, hC7, by omega, app hne neF, fun r8 C8 H8 s8 hC8 tC8 => ?_⟩
  have e8 : C8 = L := tog_uniq (tog_congr tC8 fun c => by rw [List.mem_append]; exact ⟨fun h => h.elim id (sub c), .inl⟩) (tog_self hri)
  subst e8
  refine ⟨_, rfl, _, cls_dat hC8, cls_dat (hL7.same s8), d6 _, _, rfl, iteF ?_⟩
  -- the early ones
  have hL8 := hL7.same s8
  have hC8' := hC7.same s8
  obtain ⟨cs, hp, hcs, eL⟩ := id hL8
  have lcs : cs.length = C8.length := by rw [← eL, List.length_map]
  obtain ⟨lc, hlc, hlcs, elc⟩ := id hC8'
  refine ⟨_, rfl, p, rfl, ⟨_, SqT.of hp⟩, fun D2 hD2 => ?_⟩
  refine compF_cls (fr := [some (.ref r5)]) (fun r => .ref r.1) (fun r => !decide (r.2.2 ∈ C8.filter fun c => decide (ck < c.ck))) D2 hD2 (tells_tup (SqT.of hp)) (bigl _ (by omega)) ?_ ?_ ?_
  · intro r H1 Rr hr' s1 hR1
    have d1 : AreDat K H1 ((C8.filter fun c => decide (ck < c.ck)).map clD) (crefs lc) := by
      rw [← elc, List.map_map]
      exact are_map fun x hx => cl_dat ((hlcs x hx).ts s1.ts)
    refine ⟨_, rfl, _, rfl, r5, _, _, _, cl_dat ((hcs r hr').ts s1.ts), rfl, .inr (SqT.of (s1 _ _ hlc)), d1, d6 _, _, rfl, ?_⟩
    rw [any_cl]
    exact hR1 H1 (Same.refl _)
  · intro r H1 Rr hr' _ s1 hR1
    exact ⟨_, rfl, hR1 H1 (Same.refl _)⟩
  intro H9 s9 hD9
  refine ⟨D2, _, rfl, .inl ⟨SqL.of hD9, fun q2 nq2 => ?_⟩⟩
  have s10 := Same.new nq2 (.tup ((cs.filter fun r => !decide (r.2.2 ∈ C8.filter fun c => decide (ck < c.ck))).map fun r => V.ref r.1))
  have hq2 : ClsAt (upd H9 q2 (.tup ((cs.filter fun r => !decide (r.2.2 ∈ C8.filter fun c => decide (ck < c.ck))).map fun r => V.ref r.1))) q2 (C8.filter fun c => !decide (c ∈ C8.filter fun c => decide (ck < c.ck))) := by
    refine ⟨cs.filter fun r => !decide (r.2.2 ∈ C8.filter fun c => decide (ck < c.ck)), upd_same, fun x hx => (hcs x (List.mem_filter.mp hx).1).ts (s9.trans s10).ts, ?_⟩
    rw [filter_cls cs fun c => !decide (c ∈ C8.filter fun c => decide (ck < c.ck)), eL]
  generalize (upd H9 q2 (.tup ((cs.filter fun r => !decide (r.2.2 ∈ C8.filter fun c => decide (ck < c.ck))).map fun r => V.ref r.1)) : Hp) = H10 at *
  have s810 := s9.trans s10
  have hC10 := hC8'.same s810
  have hL10 := hL8.same s810
  have lea : (C8.filter fun c => !decide (c ∈ C8.filter fun c => decide (ck < c.ck))).length ≤ C8.length := List.length_filter_le _ _
  refine ⟨_, rfl, _, rfl, q2, r5, _, _, rfl, hq2, hC10, by omega, app (fun c hc => hne c (List.mem_filter.mp hc).1) neF, fun r11 C11 H11 s11 hC11 tC11 => ?_⟩
  have e11 : C11 = C8 := tog_uniq (tog_congr tC11 fun c => by
    rw [List.mem_append]
    refine ⟨fun h => h.elim (fun h => (List.mem_filter.mp h).1) (sub c), fun h => ?_⟩
    by_cases hc : c ∈ C8.filter fun c => decide (ck < c.ck)
    · exact .inr hc
    · exact .inl (List.mem_filter.mpr ⟨h, by rw [decide_eq_false hc]; rfl⟩)) (tog_self hri)
  subst e11
  refine ⟨_, rfl, _, cls_dat hC11, cls_dat (hL10.same s11), d6 _, _, rfl, iteF ?_⟩
  refine ⟨_, rfl, _, rfl, r5, ck, _, rfl, hC10.same s11, by omega, fun r12 H12 s12 hC12 => ?_⟩
  rw [ela] at hC12
  refine ⟨_, rfl, _, cls_dat hC12, cls_dat ((hC10.same s11).same s12), d6 _, _, rfl, iteF ?_⟩
  exact ⟨_, _, _, rfl, (((((s4.trans s5).trans s57).trans s8).trans s810).trans s11).trans s12⟩
end
end LW
namespace LW
open PySem L2 Mi Co
section
variable {P : Program} {w : World} {K : PySem.W.Frag} {mg : Str → Option Value} {base : Heap} {f : Addr} {fd : FuncData}
theorem scLaw : FnScope ["_law_script", "_law_town", "_law_k", "_law_one", "_law_other", "_law_third", "_law_every", "_law_here", "_law_row", "_law_found", "_law_number", "_law_some"] ["_law_script"] (defScope sLaw) := ⟨rfl, rfl, rfl, by decide +kernel, rfl, by decide +kernel, by decide +kernel⟩
theorem ndL0 : (["_law_row", "_law_number"] : List Str).Nodup := by decide +kernel
theorem ndL1 : (["_law_row"] : List Str).Nodup := by decide +kernel
theorem ok_law {k : Nat} (F : Fun K "law" "law" sLaw f fd) (G : Blt mg) (hRows : Has P w K mg base "_law_rows" k ["_law_script", "_law_town"] (spRows31 K)) (hPut : Has P w K mg base "put" k ["rows", "row"] spPutH) (hTog : Has P w K mg base "together" k ["one", "other"] spTog)
    (hPages : Has P w K mg base "pages_of" k ["rows", "number"] spPages) (hBoth : Has P w K mg base "_law_both_hold" k ["_law_one", "_law_other"] spBoth) (hSinceH : Has P w K mg base "_law_since_holds" k ["_law_rows_here"] spSinceH) :
    FnOk P w K mg base CX0 (k + 1) f fd ["_law_script"] (spLaw K) := by
  refine F.ok scLaw (fun vs H Q E h => ?_) (fun cdv A outer s H vs Q E hr h => ?_)
  · obtain ⟨a, ns, rfl, _⟩ := h
    rfl
  obtain ⟨a, ns, rfl, hS, h63, q⟩ := h
  refine ⟨_, (pss_cons (ps_set (i := 1) scLaw.nd rfl (Or.inl rfl) (pe_lst pa_nil))
    (pss_cons (ps_for PassesOwn.never rfl (pi_range1 rfl G.range (pa_cons pe_int pa_nil)) (pg_name (i := 2) scLaw.nd rfl (Or.inl rfl))
      (pss_cons (ps_par3 (i := 3) (j := 4) (k := 5) rfl scLaw.nd rfl rfl rfl (by decide) (by decide) (by decide) rfl rfl rfl (pa_cons (pe_callH hRows hr rfl (pa_cons (pv 0) (pa_cons (pv 1) pa_nil))) (pa_cons (pe_callH hRows hr rfl (pa_cons (pv 0) (pa_cons (pv 1) pa_nil))) (pa_cons (pe_callH hRows hr rfl (pa_cons (pv 0) (pa_cons (pv 1) pa_nil))) pa_nil))) rfl)
      (pss_cons (ps_if (PW.pt (pw_or (pt_not (pt_val (pe_callH hBoth hr rfl (pa_cons (pv 3) (pa_cons (pv 4) pa_nil))))) (pw_or1 (pt_not (pt_val (pe_callH hSinceH hr rfl (pa_cons (pe_callH hTog hr rfl (pa_cons (pv 3) (pa_cons (pv 4) pa_nil))) pa_nil))))))) pss_never pss_nil)
      (pss_cons (ps_set (i := 6) scLaw.nd rfl (Or.inl rfl) (pe_callH hTog hr rfl (pa_cons (pe_callH hTog hr rfl (pa_cons (pv 3) (pa_cons (pv 4) pa_nil))) (pa_cons (pv 5) pa_nil))))
      (pss_cons (ps_if (PW.pt (pw_or (pt_cmpR (op_neS (hu8 hr)) (pv 6) (pe_callH hTog hr rfl (pa_cons (pv 3) (pa_cons (pe_callH hTog hr rfl (pa_cons (pv 4) (pa_cons (pv 5) pa_nil))) pa_nil))) (nomark _)) (pw_or1 (pt_cmpR (op_neS (hu8 hr)) (pv 6) (pe_callH hTog hr rfl (pa_cons (pv 5) (pa_cons (pe_callH hTog hr rfl (pa_cons (pv 4) (pa_cons (pv 3) pa_nil))) pa_nil))) (nomark _))))) pss_never pss_nil)
      (pss_cons (ps_set (i := 7) scLaw.nd rfl (Or.inl rfl) (pv 3))
      (pss_cons (ps_for PassesOwn.never rfl (pi_tup (pv 4)) (pg_name (i := 8) scLaw.nd rfl (Or.inl rfl))
        (pss_cons (ps_if (pt_cmpR (op_neS (hu8 hr)) (pe_callH hPut hr rfl (pa_cons (pv 7) (pa_cons (pv 8) pa_nil))) (pe_callH hTog hr rfl (pa_cons (pv 7) (pa_cons (pe_tup (pa_cons (pv 8) pa_nil)) pa_nil))) (nomark _)) pss_never pss_nil)
        (pss_one (ps_set (i := 7) scLaw.nd rfl (Or.inl rfl) (pe_callH hPut hr rfl (pa_cons (pv 7) (pa_cons (pv 8) pa_nil)))))))
      (pss_cons (ps_if (PW.pt (pw_or (pt_cmpR (op_neS (hu8 hr)) (pv 7) (pe_callH hTog hr rfl (pa_cons (pv 3) (pa_cons (pv 4) pa_nil))) (nomark _)) (pw_or (pt_cmpR (op_neS (hu8 hr)) (pe_callH hTog hr rfl (pa_cons (pe_tup pa_nil) (pa_cons (pv 3) pa_nil))) (pv 3) (nomark _)) (pw_or1 (pt_cmpR (op_neS (hu8 hr)) (pe_callH hTog hr rfl (pa_cons (pv 3) (pa_cons (pe_tup pa_nil) pa_nil))) (pv 3) (nomark _)))))) pss_never pss_nil)
      (pss_cons (ps_set (i := 9) scLaw.nd rfl (Or.inl rfl) (pe_lst pa_nil))
      (pss_cons (ps_for PassesOwn.never rfl (pi_range1 rfl G.range (pa_cons pe_int pa_nil)) (pg_name (i := 10) scLaw.nd rfl (Or.inr rfl))
        (pss_cons (ps_set (i := 11) scLaw.nd rfl (Or.inl rfl) (pe_callH hPages hr rfl (pa_cons (pv 6) (pa_cons (pv 10) pa_nil))))
        (pss_cons (ps_if (PW.pt (pw_or (pt_cmpR (op_neLS (hu8 hr)) (pe_callTy call_list_of rfl G.list boot_list (pa_cons (pv 11) pa_nil)) (pe_callB call_sortT rfl G.sorted boot_sorted (pa_cons (pv 11) pa_nil)) (nomark _)) (pw_or1 (pt_cmpR (op_neS (hu8 hr)) (pv 11) (pe_callTy call_tuple_of rfl G.tuple boot_tuple (pa_cons (pe_compF (tt := (tTest (tOp rEq (tOp (rIxT K) (tVar 0) (tC (.int 3))) (tVar 1)))) (te := (tOp (rIxT K) (tVar 0) (tC (.int 0)))) (xs := ["_law_row"]) (ys := ["_law_number"]) (js := [10]) rfl (by decide +kernel) (by decide +kernel) rfl (by decide +kernel) ⟨rfl, .inl rfl, rfl, trivial⟩
      (pi_tup (pv 6)) (fun _ _ _ _ _ => (pg_name (i := 0) ndL0 rfl (Or.inl rfl) (.inr rfl))) (fun _ _ _ _ _ => pts_one (pt_cmpR op_eq (pe_ix ix_tup (pv 0) pe_int fun _ _ => rfl) (pv 1) (nomark _))) (fun _ _ _ _ _ => (pe_ix ix_tup (pv 0) pe_int fun _ _ => rfl))) pa_nil)) (nomark _))))) pss_never pss_nil)
        (pss_one (ps_expr (pe_bm PySem.F.plainAttrs_list PySem.F.slot_list_extend PySem.F.type_list_extend mt_extend (pv 9) (pa_cons (pe_callTy call_list_of rfl G.list boot_list (pa_cons (pv 11) pa_nil)) pa_nil)))))))
      (pss_one (ps_if (PW.pt (pw_or (pt_cmpR (op_neLS (hu8 hr)) (pe_callB call_sortT rfl G.sorted boot_sorted (pa_cons (pv 9) pa_nil)) (pe_compF (te := (tOp (rIxT K) (tVar 0) (tC (.int 0)))) (xs := ["_law_row"]) (ys := []) (js := []) rfl (by decide +kernel) (by decide +kernel) rfl (by decide +kernel) trivial
      (pi_tup (pv 6)) (fun _ _ _ _ _ => (pg_name (i := 0) ndL1 rfl (Or.inl rfl) (.inr rfl))) (fun _ _ _ _ _ => pts_nil) (fun _ _ _ _ _ => (pe_ix ix_tup (pv 0) pe_int fun _ _ => rfl))) (nomark _)) (pw_or1 (pt_cmpR (op_neS (hu8 hr)) (pe_callH hPages hr rfl (pa_cons (pv 6) (pa_cons pe_int pa_nil))) (pe_tup pa_nil) (nomark _))))) pss_never pss_nil))))))))))))
    (pss_one (ps_ret pe_bl)))), ?_⟩
  refine ⟨big _ (by simp), fun t nt => ?_⟩
  have s0 := Same.new nt (.lst ([] : List V))
  have ht : (upd H t (.lst ([] : List V)) : Hp) t = some (.lst []) := upd_same
  have d6 : ∀ U : List Cl, Dat.deeps (U.map clD) ≤ 6 := fun U => Nat.le_trans (cls_deep U) (by decide)
  refine ⟨8, rfl, by decide, by decide, ?_⟩
  refine for_range (n := 8) (fun i σ H' => ∃ v2 v3 v4 v5 v6 v7 v8 v9 v10 v11 : Option V, σ = [some (.ref a), some (.ref t), v2, v3, v4, v5, v6, v7, v8, v9, v10, v11] ∧ St1 K a t ns (100 * i) H')
    ⟨_, _, _, _, _, _, _, _, _, _, rfl, ⟨[], ht, by simp⟩, hS.same s0⟩ ?_ (fun σ H' _ => q H')
  rintro i σ H1 hi ⟨v2, v3, v4, v5, v6, v7, v8, v9, v10, v11, rfl, hW1⟩
  obtain ⟨zs1, hz1, hy1⟩ := hW1.1
  refine ⟨_, rfl, _, rfl, a, t, ns, zs1, rfl, hW1.2, h63, hz1, by omega, fun p1 A1 zs2 H2 hT2 hl2 st2 c12 g1 l1 => ?_⟩
  obtain ⟨hW2, ts2⟩ := hW1.drawn (m := 100 * i + 30) hz1 hT2 (by omega) st2
  refine ⟨_, rfl, _, rfl, a, t, ns, zs2, rfl, hW2.2, h63, hT2, by omega, fun p2 A2 zs3 H3 hT3 hl3 st3 c23 g2 l2 => ?_⟩
  obtain ⟨hW3, ts3⟩ := hW2.drawn (m := 100 * i + 60) hT2 hT3 (by omega) st3
  refine ⟨_, rfl, _, rfl, a, t, ns, zs3, rfl, hW3.2, h63, hT3, by omega, fun p3 A3 zs4 H4 hT4 hl4 st4 c3 g3 l3 => ?_⟩
  obtain ⟨hW4, ts4⟩ := hW3.drawn (m := 100 * i + 90) hT3 hT4 (by omega) st4
  have c1 := (c12.ts ts3).ts ts4
  have c2 := c23.ts ts4
  refine ⟨_, _, _, rfl, ?_⟩
  have all3 : ∀ {Pp : Cl → Prop}, (∀ c ∈ A1, Pp c) → (∀ c ∈ A2, Pp c) → (∀ c ∈ A3, Pp c) → ∀ c ∈ (A1 ++ A2) ++ A3, Pp c := fun h1 h2 h3 c hc => by
    rcases List.mem_append.mp hc with hc | hc
    · exact (List.mem_append.mp hc).elim (h1 c) (h2 c)
    · exact h3 c hc
  have hne := all3 (Pp := fun c => c.ad ≠ [] ∧ c.ad.length ≤ 3) g1.ne g2.ne g3.ne
  have hck := all3 (Pp := fun c => (0 ≤ c.ck ∧ c.ck < 4) ∧ 0 ≤ c.nm ∧ c.nm < 3) g1.ck g2.ck g3.ck
  have m1 : ∀ c ∈ A1, c ∈ (A1 ++ A2) ++ A3 := fun c h => List.mem_append_left _ (List.mem_append_left _ h)
  have m2 : ∀ c ∈ A2, c ∈ (A1 ++ A2) ++ A3 := fun c h => List.mem_append_left _ (List.mem_append_right _ h)
  have m3 : ∀ c ∈ A3, c ∈ (A1 ++ A2) ++ A3 := fun c h => List.mem_append_right _ h
  have both : ∀ {U V : List Cl}, (∀ c ∈ U, c ∈ (A1 ++ A2) ++ A3) → (∀ c ∈ V, c ∈ (A1 ++ A2) ++ A3) → ∀ c ∈ U ++ V, c.ad ≠ [] := fun hU hV c hc => by
    rcases List.mem_append.mp hc with hc | hc
    · exact (hne c (hU c hc)).1
    · exact (hne c (hV c hc)).1
  refine ⟨_, rfl, _, rfl, p1, p2, A1, A2, rfl, c1, c2, by omega, both m1 m2, fun H5 s5 => ⟨_, rfl, iteF ?_⟩⟩
  refine ⟨_, rfl, _, rfl, p1, p2, A1, A2, rfl, c1.same s5, c2.same s5, by omega, both m1 m2, fun r6 C6 H6 s6 hC6 tC6 => ?_⟩
  have l6 : C6.length ≤ 10 := by have := tog_len tC6; rw [List.length_append] at this; omega
  have sub6 : ∀ c ∈ C6, c ∈ (A1 ++ A2) ++ A3 := fun c hc => List.mem_append_left _ (tC6.sub hc)
  refine ⟨r6, C6, rfl, hC6, by omega, (fun c hc => (hne c (sub6 c hc)).1), tC6.rise, (fun c hc => (hck c (sub6 c hc)).1), fun H7 s7 => ⟨_, rfl, iteF ?_⟩⟩
  have s47 := (s5.trans s6).trans s7
  have c17 := c1.same s47
  have c27 := c2.same s47
  have c37 := c3.same s47
  have hW7 := hW4.same s47
  -- every one
  refine ⟨_, rfl, _, rfl, p1, p2, A1, A2, rfl, c17, c27, by omega, both m1 m2, fun r8 C8 H8 s8 hC8 tC8 => ?_⟩
  have e8 := tog_uniq tC8 tC6
  subst e8
  refine ⟨_, rfl, r8, p3, C8, A3, rfl, hC8, c37.same s8, by omega, both sub6 m3, fun pw Wh H9 s9 hWh tWh => ?_⟩
  have tW : Tog ((A1 ++ A2) ++ A3) Wh := tog_app tC6 tWh
  have subW : ∀ c ∈ Wh, c ∈ (A1 ++ A2) ++ A3 := fun c hc => tW.sub hc
  have lW : Wh.length ≤ 15 := by have := tog_len tW; rw [List.length_append, List.length_append] at this; omega
  have s79 := s8.trans s9
  have c19 := c17.same s79
  have c29 := c27.same s79
  have c39 := c37.same s79
  have hW9 := hW7.same s79
  refine ⟨_, rfl, _, rfl, _, rfl, _, rfl, p2, p3, A2, A3, rfl, c29, c39, by omega, both m2 m3, fun r10 C10 H10 s10 hC10 tC10 => ?_⟩
  have l10 : C10.length ≤ 10 := by have := tog_len tC10; rw [List.length_append] at this; omega
  have sub10 : ∀ c ∈ C10, c ∈ (A1 ++ A2) ++ A3 := fun c hc => (List.mem_append.mp (tC10.sub hc)).elim (m2 c) (m3 c)
  refine ⟨p1, r10, A1, C10, rfl, c19.same s10, hC10, by omega, both m1 sub10, fun r11 C11 H11 s11 hC11 tC11 => ?_⟩
  have e11 : C11 = Wh := by
    refine tog_uniq (tog_congr (tog_app tC10 (M := A1) (tog_congr tC11 fun c => by rw [List.mem_append, List.mem_append]; exact Or.comm)) fun c => ?_) tW
    rw [List.mem_append, List.mem_append, List.mem_append, List.mem_append]
    exact ⟨fun h => h.elim (fun h => h.elim (fun h => .inl (.inr h)) .inr) fun h => .inl (.inl h), fun h => h.elim (fun h => h.elim .inr fun h => .inl (.inl h)) fun h => .inl (.inr h)⟩
  subst e11
  have s911 := s10.trans s11
  refine ⟨_, cls_dat (hWh.same s911), cls_dat hC11, d6 _, _, rfl, iteF ?_⟩
  have c211 := c29.same s911
  have c111 := c19.same s911
  have c311 := c39.same s911
  refine ⟨_, rfl, _, rfl, _, rfl, _, rfl, p2, p1, A2, A1, rfl, c211, c111, by omega, both m2 m1, fun r12 C12 H12 s12 hC12 tC12 => ?_⟩
  have e12 := tog_uniq (tog_congr tC12 (M := A1 ++ A2) fun c => by rw [List.mem_append, List.mem_append]; exact Or.comm) tC6
  subst e12
  refine ⟨p3, r12, A3, C12, rfl, c311.same s12, hC12, by omega, both m3 sub6, fun r13 C13 H13 s13 hC13 tC13 => ?_⟩
  have e13 : C13 = C11 := tog_uniq (tog_app tC6 (M := A3) (tog_congr tC13 fun c => by rw [List.mem_append, List.mem_append]; exact Or.comm)) tW
  subst e13
  have s1113 := s12.trans s13
  have s913 := s911.trans s1113
  refine ⟨_, cls_dat (hWh.same s913), cls_dat hC13, d6 _, _, rfl, iteF ?_⟩
  have hWh13 := hWh.same s913
  have c113 := c19.same s913
  have c213 := c29.same s913
  have hW13 := hW9.same s913
  -- put one by one
  refine ⟨_, rfl, ?_⟩
  obtain ⟨cs2, hp2, hcs2, e2⟩ := id c213
  have lc2 : cs2.length = A2.length := by rw [← e2, List.length_map]
  refine ⟨_, rfl, p2, rfl, ⟨_, SqT.of hp2⟩, ?_⟩
  refine for_tup (xs := crefs cs2) (fun j σ H' => ∃ (v8 : Option V) (pd : Addr) (Dj : List Cl), σ = [some (.ref a), some (.ref t), some (.int (0 + (i : Int))), some (.ref p1), some (.ref p2), some (.ref p3), some (.ref pw), some (.ref pd), v8, v9, v10, v11] ∧ Same H13 H' ∧ ClsAt H' pd Dj ∧ Tog (A1 ++ A2.take j) Dj)
    ⟨_, p1, A1, rfl, Same.refl _, c113, by rw [List.take_zero, List.append_nil]; exact tog_self g1.rise⟩ (fun j σ H' _ h => by obtain ⟨_, _, _, _, s, _⟩ := h; exact SqT.of (s _ _ hp2)) ?_ ?_
  · rintro j x σ H14 hx ⟨v8', pd, Dj, rfl, s14, hDj, tDj⟩
    rw [List.getElem?_map] at hx
    obtain ⟨r, hri, rfl⟩ : ∃ r, cs2[j]? = some r ∧ V.ref r.1 = x := by
      cases hh : cs2[j]? with
      | none => rw [hh] at hx; cases hx
      | some y => rw [hh] at hx; injection hx with hx; exact ⟨y, rfl, hx⟩
    have hrow : ClH H14 r.1 r.2.1 r.2.2 := (hcs2 r (List.mem_of_getElem? hri)).ts s14.ts
    have hA2j : A2[j]? = some r.2.2 := by rw [← e2, List.getElem?_map, hri]; rfl
    have htk : A2.take (j + 1) = A2.take j ++ [r.2.2] := by rw [List.take_add_one, hA2j]; rfl
    have subD : ∀ c ∈ Dj, c ∈ (A1 ++ A2) ++ A3 := fun c hc => by
      rcases List.mem_append.mp (tDj.sub hc) with h | h
      · exact m1 c h
      · exact m2 c (List.mem_of_mem_take h)
    have hr2 : ∀ c ∈ [r.2.2], c ∈ (A1 ++ A2) ++ A3 := fun c hc => by rw [List.mem_singleton.mp hc]; exact m2 _ (List.mem_of_getElem? hA2j)
    have lD : Dj.length ≤ 12 := by have := tog_len tDj; rw [List.length_append, List.length_take] at this; omega
    refine ⟨_, rfl, _, rfl, pd, r.1, r.2.1, Dj, r.2.2, rfl, hDj, hrow, by omega, both subD hr2, fun r1 C1 H15 s15 hC1 tC1 => ?_⟩
    refine ⟨_, rfl, _, rfl, big _ (by simp), fun tt ntt => ?_⟩
    have s16 := Same.new ntt (.tup [V.ref r.1])
    have htt : (upd H15 tt (.tup [V.ref r.1]) : Hp) tt = some (.tup [V.ref r.1]) := upd_same
    generalize (upd H15 tt (.tup [V.ref r.1]) : Hp) = H16 at *
    have s1416 := s15.trans s16
    refine ⟨pd, tt, Dj, [r.2.2], rfl, hDj.same s1416, ⟨[r], htt, (fun x hx => by rw [List.mem_singleton.mp hx]; exact hrow.ts s1416.ts), rfl⟩, by simp; omega, both subD hr2, fun r2 C2 H17 s17 hC2 tC2 => ?_⟩
    have eC := tog_uniq tC2 tC1
    subst eC
    refine ⟨_, cls_dat (hC1.same (s16.trans s17)), cls_dat hC2, d6 _, _, rfl, iteF ?_⟩
    have s1417 := s1416.trans s17
    refine ⟨_, rfl, _, rfl, pd, r.1, r.2.1, Dj, r.2.2, rfl, hDj.same s1417, hrow.ts s1417.ts, by omega, both subD hr2, fun r3 C3 H18 s18 hC3 tC3 => ?_⟩
    refine ⟨_, r3, C3, rfl, (s14.trans s1417).trans s18, hC3, ?_⟩
    rw [htk, ← List.append_assoc]
    exact tog_app tDj tC3
  rintro σ H14 ⟨v8', pd, Dd, rfl, s14, hDd, tDd⟩
  rw [List.length_map, lc2, List.take_length] at tDd
  have eD := tog_uniq tDd tC6
  subst eD
  have c114 := c113.same s14
  have c214 := c213.same s14
  refine ⟨_, rfl, _, rfl, _, rfl, p1, p2, A1, A2, rfl, c114, c214, by omega, both m1 m2, fun r15 C15 H15 s15 hC15 tC15 => ?_⟩
  have e15 := tog_uniq tC15 tDd
  subst e15
  refine ⟨_, cls_dat (hDd.same s15), cls_dat hC15, d6 _, _, rfl, iteF ?_⟩
  refine ⟨big _ (by simp), fun te nte => ?_⟩
  have s16 := Same.new nte (.tup ([] : List V))
  have hte : (upd H15 te (.tup ([] : List V)) : Hp) te = some (.tup []) := upd_same
  generalize (upd H15 te (.tup ([] : List V)) : Hp) = H16 at *
  have s1416 := s15.trans s16
  refine ⟨_, rfl, te, p1, [], A1, rfl, ⟨[], hte, (fun x hx => by cases hx), rfl⟩, c114.same s1416, by simp; omega, both (fun c hc => by cases hc) m1, fun r17 C17 H17 s17 hC17 tC17 => ?_⟩
  have e17 : C17 = A1 := tog_uniq (by rw [List.nil_append] at tC17; exact tC17) (tog_self g1.rise)
  subst e17
  have s1417 := s1416.trans s17
  refine ⟨_, rfl, _, cls_dat hC17, cls_dat (c114.same s1417), d6 _, _, rfl, iteF ?_⟩
  refine ⟨_, rfl, big _ (by simp), fun te2 nte2 => ?_⟩
  have s18 := Same.new nte2 (.tup ([] : List V))
  have hte2 : (upd H17 te2 (.tup ([] : List V)) : Hp) te2 = some (.tup []) := upd_same
  generalize (upd H17 te2 (.tup ([] : List V)) : Hp) = H18 at *
  have s1418 := s1417.trans s18
  refine ⟨p1, te2, C17, [], rfl, c114.same s1418, ⟨[], hte2, (fun x hx => by cases hx), rfl⟩, by simp; omega, both m1 (fun c hc => by cases hc), fun r19 C19 H19 s19 hC19 tC19 => ?_⟩
  have e19 : C19 = C17 := tog_uniq (by rw [List.append_nil] at tC19; exact tC19) (tog_self g1.rise)
  subst e19
  have s1419 := s1418.trans s19
  refine ⟨_, rfl, _, cls_dat hC19, cls_dat (c114.same s1419), d6 _, _, rfl, iteF ?_⟩
  have s1319 := s14.trans s1419
  have hWh19 := hWh13.same s1319
  have hW19 := hW13.same s1319
  -- pages of numbers
  refine ⟨big _ (by simp), fun fo nfo => ?_⟩
  have s20 := Same.new nfo (.lst ([] : List V))
  have hfo20 : (upd H19 fo (.lst ([] : List V)) : Hp) fo = some (.lst []) := upd_same
  have hfot : fo ≠ t := fun e => by obtain ⟨zs, h, _⟩ := hW19.1; rw [← e, nfo] at h; cases h
  have hW20 := hW19.same s20
  have hWh20 := hWh19.same s20
  generalize (upd H19 fo (.lst ([] : List V)) : Hp) = H20 at *
  refine ⟨3, rfl, by decide, by decide, ?_⟩
  refine for_range (n := 3) (fun j σ H' => ∃ (v10 v11 : Option V) (rs : List (Addr × List Str)), σ = [some (.ref a), some (.ref t), some (.int (0 + (i : Int))), some (.ref p1), some (.ref p2), some (.ref p3), some (.ref pw), some (.ref pd), v8', some (.ref fo), v10, v11] ∧ St1 K a t ns (100 * i + 90) H' ∧ ClsAt H' pw C13 ∧ H' fo = some (.lst (rs.map fun r => V.ref r.1)) ∧ (∀ r ∈ rs, H' r.1 = some (.tup (r.2.map V.str))) ∧ (rs.map (·.2)).Nodup ∧ (∀ u, u ∈ rs.map (·.2) ↔ ∃ c ∈ C13, c.nm < j ∧ c.ad = u) ∧ rs.length ≤ 15 * j)
    ⟨_, _, [], rfl, hW20, hWh20, hfo20, (fun r hr' => by cases hr'), List.nodup_nil, (fun u => ⟨(fun h => by cases h), fun ⟨c, hc, h0, _⟩ => absurd h0 (by have := (hck c (subW c hc)).2.1; simp; omega)⟩), by simp⟩ ?_ ?_
  · rintro j σ H21 hj ⟨v10', v11', rs, rfl, hW21, hWh21, hfo21, hrs21, ndr, hmr, hrl⟩
    refine ⟨_, rfl, _, rfl, pw, _, C13, rfl, hWh21, by omega, (fun c hc => (hne c (subW c hc)).1), tW.rise, fun r9 H22 s22 hT9 => ?_⟩
    have hzj : (0 : Int) + (j : Int) = j := by omega
    rw [hzj] at hT9 ⊢
    have lfil : (C13.filter fun c => decide (c.nm = (j : Int))).length ≤ C13.length := List.length_filter_le _ _
    obtain ⟨qs, hqp, hqs, eq⟩ := id hT9
    have lq : qs.length ≤ 15 := by have := congrArg List.length eq; rw [List.length_map, List.length_map] at this; omega
    have hqne : ∀ r ∈ qs, r.2 ≠ [] := fun r hr' => by
      have : r.2 ∈ qs.map (·.2) := List.mem_map.mpr ⟨r, hr', rfl⟩
      rw [eq] at this
      obtain ⟨c, hc, e⟩ := List.mem_map.mp this
      rw [← e]
      exact (hne c (subW c (List.mem_filter.mp hc).1)).1
    have hqri : (qs.map (·.2)).Pairwise fun a b => HS.ltT a b = true := by
      rw [eq, List.pairwise_map]
      exact tW.rise.sublist List.filter_sublist
    refine ⟨_, rfl, r9, _, rfl, .inr (SqT.of hqp), fun l23 nl23 => ?_⟩
    have s23 := Same.new nl23 (.lst (qs.map fun r => V.ref r.1))
    have hl23 : (upd H22 l23 (.lst (qs.map fun r => V.ref r.1)) : Hp) l23 = some (.lst (qs.map fun r => V.ref r.1)) := upd_same
    generalize (upd H22 l23 (.lst (qs.map fun r => V.ref r.1)) : Hp) = H23 at *
    refine ⟨_, rfl, r9, qs, rfl, .inr (SqT.of (s23 _ _ hqp)), by omega, (fun r hr' => ⟨SqT.of (s23 _ _ (hqs r hr')), hqne r hr'⟩), fun l24 rs' nl24 hp24 hs24 => ?_⟩
    have s24 := Same.new nl24 (.lst (rs'.map fun r => V.ref r.1))
    have hl24 : (upd H23 l24 (.lst (rs'.map fun r => V.ref r.1)) : Hp) l24 = some (.lst (rs'.map fun r => V.ref r.1)) := upd_same
    generalize (upd H23 l24 (.lst (rs'.map fun r => V.ref r.1)) : Hp) = H24 at *
    have ndq : (qs.map (·.2)).Nodup := hqri.imp fun {a b} z e => by
      rw [e] at z
      have := HS.ltT_tot _ _ z
      rw [z] at this
      cases this
    have e24 : rs'.map (·.2) = qs.map (·.2) := tups_eq (rise_of_sort ndq (hp24.map _) hs24) hqri fun u => (hp24.map _).mem_iff
    have s2224 := s23.trans s24
    have dq : AreDat K H24 ((qs.map (·.2)).map tupD) (qs.map fun r => V.ref r.1) := dat_refs fun r hr' => s2224 _ _ (hqs r hr')
    have dr : AreDat K H24 ((qs.map (·.2)).map tupD) (rs'.map fun r => V.ref r.1) := by rw [← e24]; exact dat_refs fun r hr' => s2224 _ _ (hqs r (hp24.mem_iff.mp hr'))
    refine ⟨l23, l24, _, _, _, rfl, rfl, SqL.of (s24 _ _ hl23), SqL.of hl24, dq, dr, deep_tups _, _, rfl, iteF ?_⟩
    -- by hand
    obtain ⟨cs, hp, hcs, eL⟩ := (hWh21.same s22).same s2224
    have lcs : cs.length = C13.length := by rw [← eL, List.length_map]
    refine ⟨_, rfl, _, rfl, pw, rfl, ⟨_, SqT.of hp⟩, fun D3 hD3 => ?_⟩
    refine compF_cls (fr := [some (.int (j : Int))]) (fun r => .ref r.2.1) (fun r => decide (r.2.2.nm = (j : Int))) D3 hD3 (tells_tup (SqT.of hp)) (bigl _ (by omega)) ?_ ?_ ?_
    · intro r H1 Rr hr' s1 hR1
      refine ⟨_, rfl, r.1, _, _, V.int r.2.2.nm, rfl, rfl, SqT.of (s1 _ _ (hcs r hr').1), rfl, _, rfl, rfl, _, rfl, ?_⟩
      have e : decide (V.int r.2.2.nm = V.int (j : Int)) = decide (r.2.2.nm = (j : Int)) := by
        by_cases h : r.2.2.nm = (j : Int)
        · rw [h, decide_eq_true rfl, decide_eq_true rfl]
        · rw [decide_eq_false h, decide_eq_false fun z => h (by injection z)]
      rw [e]
      exact hR1 H1 (Same.refl _)
    · intro r H1 Rr hr' _ s1 hR1
      exact ⟨_, rfl, r.1, _, _, V.ref r.2.1, rfl, rfl, SqT.of (s1 _ _ (hcs r hr').1), rfl, hR1 H1 (Same.refl _)⟩
    intro H26 s26 hD26
    refine ⟨D3, _, rfl, .inl ⟨SqL.of hD26, fun q3 nq3 => ?_⟩⟩
    have s27 := Same.new nq3 (.tup ((cs.filter fun r => decide (r.2.2.nm = (j : Int))).map fun r => V.ref r.2.1))
    have hq3 : TupsH (upd H26 q3 (.tup ((cs.filter fun r => decide (r.2.2.nm = (j : Int))).map fun r => V.ref r.2.1))) q3 ((C13.filter fun c => decide (c.nm = (j : Int))).map (·.ad)) := by
      refine ⟨(cs.filter fun r => decide (r.2.2.nm = (j : Int))).map fun r => (r.2.1, r.2.2.ad), by rw [upd_same, List.map_map]; rfl, fun r hr' => ?_, ?_⟩
      · obtain ⟨x, hx, rfl⟩ := List.mem_map.mp hr'
        exact (s26.trans s27) _ _ (hcs x (List.mem_filter.mp hx).1).2
      · rw [← eL, ← filter_cls cs fun c => decide (c.nm = (j : Int)), List.map_map, List.map_map]
        rfl
    generalize (upd H26 q3 (.tup ((cs.filter fun r => decide (r.2.2.nm = (j : Int))).map fun r => V.ref r.2.1)) : Hp) = H27 at *
    have s2227 := (s2224.trans s26).trans s27
    refine ⟨_, tups_dat (hT9.same s2227), tups_dat hq3, Nat.le_trans (deep_tups _) (by decide), _, rfl, iteF ?_⟩
    have s2127 := s22.trans s2227
    have hfo27 := s2127 _ _ hfo21
    refine ⟨_, rfl, .inl ⟨rfl, _, SqL.of hfo27⟩, _, rfl, r9, _, rfl, .inr (SqT.of (s2227 _ _ hqp)), fun l28 nl28 => ?_⟩
    have s28 := Same.new nl28 (.lst (qs.map fun r => V.ref r.1))
    have hl28 : (upd H27 l28 (.lst (qs.map fun r => V.ref r.1)) : Hp) l28 = some (.lst (qs.map fun r => V.ref r.1)) := upd_same
    generalize (upd H27 l28 (.lst (qs.map fun r => V.ref r.1)) : Hp) = H28 at *
    have hfo28 := s28 _ _ hfo27
    refine ⟨fo, l28, _, _, rfl, rfl, hfo28, hl28, Nat.le_of_lt (bigl _ (by rw [List.length_map, List.length_map]; omega)), ?_⟩
    have s2128 := s2127.trans s28
    have ts29 : TS' H28 (upd H28 fo (.lst ((rs.map fun r => V.ref r.1) ++ (qs.map fun r => V.ref r.1)))) := TS'.lst hfo28
    refine ⟨_, _, rs ++ qs, rfl, (hW21.same s2128).updL _ hfo28 hfot, (hWh21.same s2128).ts ts29, by rw [upd_same, List.map_append], fun r hr' => ?_, ?_, fun u => ?_, by rw [List.length_append]; omega⟩
    · rcases List.mem_append.mp hr' with hr' | hr'
      · exact ts29 _ _ (s2128 _ _ (hrs21 r hr'))
      · exact ts29 _ _ ((s2227.trans s28) _ _ (hqs r hr'))
    · rw [List.map_append, List.nodup_append]
      refine ⟨ndr, ndq, fun x hx y hy e => ?_⟩
      subst e
      obtain ⟨c, hc, h1, e1⟩ := (hmr x).mp hx
      rw [eq] at hy
      obtain ⟨c', hc', e2'⟩ := List.mem_map.mp hy
      have hc2 := List.mem_filter.mp hc'
      have h2 := of_decide_eq_true hc2.2
      have : c = c' := MaxIn.uniq ((tW.mem c).mp hc) ((tW.mem c').mp hc2.1) (e1.trans e2'.symm)
      subst this
      omega
    · rw [List.map_append, List.mem_append, hmr, eq]
      constructor
      · rintro (⟨c, hc, h1, e⟩ | h)
        · exact ⟨c, hc, by omega, e⟩
        · obtain ⟨c, hc, e⟩ := List.mem_map.mp h
          have hc2 := List.mem_filter.mp hc
          have h2 := of_decide_eq_true hc2.2
          exact ⟨c, hc2.1, by omega, e⟩
      · rintro ⟨c, hc, h1, e⟩
        by_cases h : c.nm = (j : Int)
        · exact .inr (List.mem_map.mpr ⟨c, List.mem_filter.mpr ⟨hc, decide_eq_true h⟩, e⟩)
        · exact .inl ⟨c, hc, by omega, e⟩
  rintro σ H21 ⟨v10', v11', rs, rfl, hW21, hWh21, hfo21, hrs21, ndr, hmr, hrl⟩
  have hmr' : ∀ u, u ∈ rs.map (·.2) ↔ u ∈ C13.map (·.ad) := fun u => by
    rw [hmr]
    constructor
    · rintro ⟨c, hc, _, e⟩; exact List.mem_map.mpr ⟨c, hc, e⟩
    · intro h
      obtain ⟨c, hc, e⟩ := List.mem_map.mp h
      exact ⟨c, hc, by have := (hck c (subW c hc)).2.2; simpa using this, e⟩
  have hrne : ∀ r ∈ rs, r.2 ≠ [] := fun r hr' => by
    obtain ⟨c, hc, e⟩ := List.mem_map.mp ((hmr' r.2).mp (List.mem_map.mpr ⟨r, hr', rfl⟩))
    rw [← e]
    exact (hne c (subW c hc)).1
  refine ⟨_, rfl, fo, rs, rfl, .inl (SqL.of hfo21), by omega, (fun r hr' => ⟨SqT.of (hrs21 r hr'), hrne r hr'⟩), fun l24 rs' nl24 hp24 hs24 => ?_⟩
  have s24 := Same.new nl24 (.lst (rs'.map fun r => V.ref r.1))
  have hl24 : (upd H21 l24 (.lst (rs'.map fun r => V.ref r.1)) : Hp) l24 = some (.lst (rs'.map fun r => V.ref r.1)) := upd_same
  generalize (upd H21 l24 (.lst (rs'.map fun r => V.ref r.1)) : Hp) = H24 at *
  have e24 : rs'.map (·.2) = C13.map (·.ad) := tups_eq (rise_of_sort ndr (hp24.map _) hs24) (by rw [List.pairwise_map]; exact tW.rise) fun u => by rw [(hp24.map _).mem_iff, hmr']
  obtain ⟨cs, hp, hcs, eL⟩ := hWh21.same s24
  have lcs : cs.length = C13.length := by rw [← eL, List.length_map]
  refine ⟨_, rfl, pw, rfl, ⟨_, SqT.of hp⟩, fun D3 hD3 => ?_⟩
  refine compF_cls (fr := []) (fun r => .ref r.2.1) (fun _ => true) D3 hD3 (tells_tup (SqT.of hp)) (bigl _ (by omega)) (fun r H3 Rr hr' s3 hR3 => hR3 H3 (Same.refl _)) ?_ ?_
  · intro r H1 Rr hr' _ s1 hR1
    exact ⟨_, rfl, r.1, _, _, V.ref r.2.1, rfl, rfl, SqT.of (s1 _ _ (hcs r hr').1), rfl, hR1 H1 (Same.refl _)⟩
  intro H26 s26 hD26
  have ef : (cs.filter fun _ => true) = cs := List.filter_eq_self.mpr fun _ _ => rfl
  rw [ef] at hD26
  have s2126 := s24.trans s26
  have d1 : AreDat K H26 ((C13.map (·.ad)).map tupD) (rs'.map fun r => V.ref r.1) := by rw [← e24]; exact dat_refs fun r hr' => s2126 _ _ (hrs21 r (hp24.mem_iff.mp hr'))
  have d2 : AreDat K H26 ((C13.map (·.ad)).map tupD) (cs.map fun r => V.ref r.2.1) := by
    rw [← eL, List.map_map, List.map_map]
    exact are_map fun x hx => str_dat (s26 _ _ (hcs x hx).2)
  refine ⟨l24, D3, _, _, _, rfl, rfl, SqL.of (s26 _ _ hl24), SqL.of hD26, d1, d2, deep_tups _, _, rfl, iteF ?_⟩
  refine ⟨_, rfl, pw, 7, C13, rfl, hWh21.same s2126, by omega, (fun c hc => (hne c (subW c hc)).1), tW.rise, fun r9 H27 s27 hT9 => ?_⟩
  have e7 : (C13.filter fun c => decide (c.nm = 7)) = [] := List.filter_eq_nil_iff.mpr fun c hc h => by
    have h1 := of_decide_eq_true h
    have h2 := (hck c (subW c hc)).2.2
    omega
  rw [e7] at hT9
  refine ⟨big _ (by simp), fun te3 nte3 => ?_⟩
  have s28 := Same.new nte3 (.tup ([] : List V))
  refine ⟨_, tups_dat (hT9.same s28), ⟨te3, _, rfl, SqT.of upd_same, rfl⟩, Nat.le_trans (deep_tups _) (by decide), _, rfl, iteF ?_⟩
  exact ⟨_, _, _, _, _, _, _, _, _, _, rfl, (hW21.same ((s2126.trans s27).trans s28)).up (by omega)⟩
end
end LW
namespace LW
open PySem L2 Mi Co
theorem all_mk {l : PySem.W.OpenLaw} {w : World} {K : PySem.W.Frag} {h : Heap} {mg : Str → Option Value} {fa f1 f2 f3 f4 f5 f6 f7 f8 f9 f10 : Addr} (X : K.In h) (G0 : h.Ns mainGlobals mg) (hfa : mg "law" = some (.ref fa))
    {od1 an1 od2 an2 od3 an3 od4 an4 od5 an5 od6 an6 od7 an7 od8 an8 od9 an9 od10 an10 : Option Addr} {sl1 sl2 sl3 sl4 sl5 sl6 sl7 sl8 sl9 sl10 : Array (Option Value)} {oc1 kV1 dc1 pm1 cd1 ct1 oc2 kV2 dc2 pm2 cd2 ct2 oc3 kV3 dc3 pm3 cd3 ct3 oc4 kV4 dc4 pm4 cd4 ct4 oc5 kV5 dc5 pm5 cd5 ct5 oc6 kV6 dc6 pm6 cd6 ct6 oc7 kV7 dc7 pm7 cd7 ct7 oc8 kV8 dc8 pm8 cd8 ct8 oc9 kV9 dc9 pm9 cd9 ct9 oc10 kV10 dc10 pm10 cd10 ct10 : Value} {t1 t2 t3 : Tok}
    (a1 : PySem.W.nsIn K mainGlobals "together" = some (some (.ref f1))) (l1 : K.lookup f1 = some ⟨oc1, od1, .func (PySem.W.fnOf "together" "together" (defArgs sTog) (defBody sTog) (defScope sTog) .none kV1 dc1 pm1 an1 cd1 ct1), sl1⟩) (c1 : PySem.W.codeIn K cd1 "together" = true) (k1 : PySem.W.keepIn K (.ref f1) = true)
    (a2 : PySem.W.nsIn K mainGlobals "put" = some (some (.ref f2))) (l2 : K.lookup f2 = some ⟨oc2, od2, .func (PySem.W.fnOf "put" "put" (defArgs sPut) (defBody sPut) (defScope sPut) .none kV2 dc2 pm2 an2 cd2 ct2), sl2⟩) (c2 : PySem.W.codeIn K cd2 "put" = true) (k2 : PySem.W.keepIn K (.ref f2) = true)
    (a3 : PySem.W.nsIn K mainGlobals "since" = some (some (.ref f3))) (l3 : K.lookup f3 = some ⟨oc3, od3, .func (PySem.W.fnOf "since" "since" (defArgs sSince) (defBody sSince) (defScope sSince) .none kV3 dc3 pm3 an3 cd3 ct3), sl3⟩) (c3 : PySem.W.codeIn K cd3 "since" = true) (k3 : PySem.W.keepIn K (.ref f3) = true)
    (a4 : PySem.W.nsIn K mainGlobals "pages_of" = some (some (.ref f4))) (l4 : K.lookup f4 = some ⟨oc4, od4, .func (PySem.W.fnOf "pages_of" "pages_of" (defArgs sPages) (defBody sPages) (defScope sPages) .none kV4 dc4 pm4 an4 cd4 ct4), sl4⟩) (c4 : PySem.W.codeIn K cd4 "pages_of" = true) (k4 : PySem.W.keepIn K (.ref f4) = true)
    (a5 : PySem.W.nsIn K mainGlobals "_law_draw" = some (some (.ref f5))) (l5 : K.lookup f5 = some ⟨oc5, od5, .func (PySem.W.fnOf "_law_draw" "_law_draw" (defArgs sDraw) (defBody sDraw) (defScope sDraw) .none kV5 dc5 pm5 an5 cd5 ct5), sl5⟩) (c5 : PySem.W.codeIn K cd5 "_law_draw" = true) (k5 : PySem.W.keepIn K (.ref f5) = true)
    (a6 : PySem.W.nsIn K mainGlobals "_law_pick" = some (some (.ref f6))) (l6 : K.lookup f6 = some ⟨oc6, od6, .func (PySem.W.fnOf "_law_pick" "_law_pick" (defArgs sPick) (defBody sPick) (defScope sPick) .none kV6 dc6 pm6 an6 cd6 ct6), sl6⟩) (c6 : PySem.W.codeIn K cd6 "_law_pick" = true) (k6 : PySem.W.keepIn K (.ref f6) = true)
    (a7 : PySem.W.nsIn K mainGlobals "_law_rows" = some (some (.ref f7))) (l7 : K.lookup f7 = some ⟨oc7, od7, .func (PySem.W.fnOf "_law_rows" "_law_rows" (defArgs sRows) (defBody sRows) (defScope sRows) .none kV7 dc7 pm7 an7 cd7 ct7), sl7⟩) (c7 : PySem.W.codeIn K cd7 "_law_rows" = true) (k7 : PySem.W.keepIn K (.ref f7) = true)
    (a8 : PySem.W.nsIn K mainGlobals "_law_both_hold" = some (some (.ref f8))) (l8 : K.lookup f8 = some ⟨oc8, od8, .func (PySem.W.fnOf "_law_both_hold" "_law_both_hold" (defArgs sBoth) (defBody sBoth) (defScope sBoth) .none kV8 dc8 pm8 an8 cd8 ct8), sl8⟩) (c8 : PySem.W.codeIn K cd8 "_law_both_hold" = true) (k8 : PySem.W.keepIn K (.ref f8) = true)
    (a9 : PySem.W.nsIn K mainGlobals "_law_since_holds" = some (some (.ref f9))) (l9 : K.lookup f9 = some ⟨oc9, od9, .func (PySem.W.fnOf "_law_since_holds" "_law_since_holds" (defArgs sSinceH) (defBody sSinceH) (defScope sSinceH) .none kV9 dc9 pm9 an9 cd9 ct9), sl9⟩) (c9 : PySem.W.codeIn K cd9 "_law_since_holds" = true) (k9 : PySem.W.keepIn K (.ref f9) = true)
    (a10 : PySem.W.nsIn K mainGlobals "law" = some (some (.ref f10))) (l10 : K.lookup f10 = some ⟨oc10, od10, .func (PySem.W.fnOf "law" "law" (defArgs sLaw) (defBody sLaw) (defScope sLaw) .none kV10 dc10 pm10 an10 cd10 ct10), sl10⟩) (c10 : PySem.W.codeIn K cd10 "law" = true) (k10 : PySem.W.keepIn K (.ref f10) = true)
    (w1 : PySem.W.nsIn K mainGlobals "ADDRESS" = some (some (.int 0 t1)))
    (w2 : PySem.W.nsIn K mainGlobals "CLOCK" = some (some (.int 1 t2)))
    (w3 : PySem.W.nsIn K mainGlobals "NUMBER" = some (some (.int 3 t3)))
    (z1 : PySem.W.nsIn K mainGlobals "len" = some none)
    (z2 : PySem.W.nsIn K mainGlobals "all" = some none)
    (z3 : PySem.W.nsIn K mainGlobals "isinstance" = some none)
    (z4 : PySem.W.nsIn K mainGlobals "str" = some none)
    (z5 : PySem.W.nsIn K mainGlobals "int" = some none)
    (z6 : PySem.W.nsIn K mainGlobals "bool" = some none)
    (z7 : PySem.W.nsIn K mainGlobals "tuple" = some none)
    (z8 : PySem.W.nsIn K mainGlobals "list" = some none)
    (z9 : PySem.W.nsIn K mainGlobals "range" = some none)
    (z10 : PySem.W.nsIn K mainGlobals "zip" = some none)
    (z11 : PySem.W.nsIn K mainGlobals "any" = some none)
    (z12 : PySem.W.nsIn K mainGlobals "sorted" = some none)
    (z13 : PySem.W.nsIn K mainGlobals "dict" = some none)
    (z14 : PySem.W.nsIn K mainGlobals "enumerate" = some none)
    (z15 : PySem.W.nsIn K mainGlobals "max" = some none)
    : ∃ fd : FuncData, (∀ (s : Shared) (v : Value), BindsTo s fd ⟨[v], []⟩ [("_law_script", v)]) ∧ ∀ base : Heap, K.In base → base.Ns mainGlobals mg → FnOk l.prog w K mg base CX0 4 fa fd ["_law_script"] (spLaw K) := by
  have e := hfa.symm.trans (PySem.W.mg_of X G0 a10)
  cases e
  have F1 := fun_mk (st := sTog) l1 c1 k1
  have F2 := fun_mk (st := sPut) l2 c2 k2
  have F3 := fun_mk (st := sSince) l3 c3 k3
  have F4 := fun_mk (st := sPages) l4 c4 k4
  have F5 := fun_mk (st := sDraw) l5 c5 k5
  have F6 := fun_mk (st := sPick) l6 c6 k6
  have F7 := fun_mk (st := sRows) l7 c7 k7
  have F8 := fun_mk (st := sBoth) l8 c8 k8
  have F9 := fun_mk (st := sSinceH) l9 c9 k9
  have F10 := fun_mk (st := sLaw) l10 c10 k10
  have b1 := F1.binds (ps := ["one", "other"]) fun _ _ _ _ _ _ us hl => match us, hl with | [_, _], _ => rfl
  have b2 := F2.binds (ps := ["rows", "row"]) fun _ _ _ _ _ _ us hl => match us, hl with | [_, _], _ => rfl
  have b3 := F3.binds (ps := ["rows", "clock"]) fun _ _ _ _ _ _ us hl => match us, hl with | [_, _], _ => rfl
  have b4 := F4.binds (ps := ["rows", "number"]) fun _ _ _ _ _ _ us hl => match us, hl with | [_, _], _ => rfl
  have b5 := F5.binds (ps := ["_law_script", "_law_town", "_law_many"]) fun _ _ _ _ _ _ us hl => match us, hl with | [_, _, _], _ => rfl
  have b6 := F6.binds (ps := ["_law_script", "_law_town", "_law_some"]) fun _ _ _ _ _ _ us hl => match us, hl with | [_, _, _], _ => rfl
  have b7 := F7.binds (ps := ["_law_script", "_law_town"]) fun _ _ _ _ _ _ us hl => match us, hl with | [_, _], _ => rfl
  have b8 := F8.binds (ps := ["_law_one", "_law_other"]) fun _ _ _ _ _ _ us hl => match us, hl with | [_, _], _ => rfl
  have b9 := F9.binds (ps := ["_law_rows_here"]) fun _ _ _ _ _ _ us hl => match us, hl with | [_], _ => rfl
  have G : Blt mg := ⟨PySem.W.mg_none_of X G0 z1, PySem.W.mg_none_of X G0 z2, PySem.W.mg_none_of X G0 z3, PySem.W.mg_none_of X G0 z4, PySem.W.mg_none_of X G0 z5, PySem.W.mg_none_of X G0 z6, PySem.W.mg_none_of X G0 z7, PySem.W.mg_none_of X G0 z8, PySem.W.mg_none_of X G0 z9, PySem.W.mg_none_of X G0 z10, PySem.W.mg_none_of X G0 z11, PySem.W.mg_none_of X G0 z12, PySem.W.mg_none_of X G0 z13, PySem.W.mg_none_of X G0 z14⟩
  have Z_max : mg "max" = none := PySem.W.mg_none_of X G0 z15
  have W_ADDRESS : ∃ t, mg "ADDRESS" = some (.int 0 t) := ⟨_, PySem.W.mg_of X G0 w1⟩
  have W_CLOCK : ∃ t, mg "CLOCK" = some (.int 1 t) := ⟨_, PySem.W.mg_of X G0 w2⟩
  have W_NUMBER : ∃ t, mg "NUMBER" = some (.int 3 t) := ⟨_, PySem.W.mg_of X G0 w3⟩
  refine ⟨PySem.W.fnOf "law" "law" (defArgs sLaw) (defBody sLaw) (defScope sLaw) .none kV10 dc10 pm10 an10 cd10 ct10, fun s v => .of_eq rfl, fun base kb nb => ?_⟩
  have H_together : Has l.prog w K mg base "together" 1 ["one", "other"] spTog := ⟨f1, _, ok_tog (k := 0) F1 G W_ADDRESS, b1, k1, (PySem.W.mg_of X G0 a1)⟩
  have H_put : Has l.prog w K mg base "put" 2 ["rows", "row"] spPutH := ⟨f2, _, ok_put F2 H_together, b2, k2, (PySem.W.mg_of X G0 a2)⟩
  have H_since : Has l.prog w K mg base "since" 1 ["rows", "clock"] spSince := ⟨f3, _, ok_since (k := 0) F3 G W_CLOCK, b3, k3, (PySem.W.mg_of X G0 a3)⟩
  have H_pages_of : Has l.prog w K mg base "pages_of" 1 ["rows", "number"] spPages := ⟨f4, _, ok_pages (k := 0) F4 G W_ADDRESS W_NUMBER, b4, k4, (PySem.W.mg_of X G0 a4)⟩
  have H__law_draw : Has l.prog w K mg base "_law_draw" 1 ["_law_script", "_law_town", "_law_many"] (spDraw K) := ⟨f5, _, ok_draw (k := 0) F5 G, b5, k5, (PySem.W.mg_of X G0 a5)⟩
  have H__law_pick : Has l.prog w K mg base "_law_pick" 2 ["_law_script", "_law_town", "_law_some"] (spPick K) := ⟨f6, _, ok_pick F6 G H__law_draw, b6, k6, (PySem.W.mg_of X G0 a6)⟩
  have H__law_rows : Has l.prog w K mg base "_law_rows" 3 ["_law_script", "_law_town"] (spRows31 K) := ⟨f7, _, ok_rows F7 G (H__law_draw.mono (by decide)) H__law_pick, b7, k7, (PySem.W.mg_of X G0 a7)⟩
  have H__law_both_hold : Has l.prog w K mg base "_law_both_hold" 2 ["_law_one", "_law_other"] spBoth := ⟨f8, _, ok_both F8 G Z_max H_together, b8, k8, (PySem.W.mg_of X G0 a8)⟩
  have H__law_since_holds : Has l.prog w K mg base "_law_since_holds" 2 ["_law_rows_here"] spSinceH := ⟨f9, _, ok_sinceH F9 G H_together H_since, b9, k9, (PySem.W.mg_of X G0 a9)⟩
  exact ok_law (k := 3) F10 G (H__law_rows.mono (by decide)) (H_put.mono (by decide)) (H_together.mono (by decide)) (H_pages_of.mono (by decide)) (H__law_both_hold.mono (by decide)) (H__law_since_holds.mono (by decide))
theorem walk {l : PySem.W.OpenLaw} {q : Program} {loose : List Str} {XP : (Str → Option Value) → Heap → Prop} {YP : World → Heap → Prop} {d : DefRec} {K : Params → PySem.W.Frag} (hn : l.most = some 63) (hdf : d.params.defaults = [])
    (hY : ∀ (w : World) (h : Heap), YP w h → (K w.params).In h)
    (F : ∀ (w : World) (mg : Str → Option Value) (fa : Addr) (h : Heap), (K w.params).In h → h.Ns mainGlobals mg → mg d.name = some (.ref fa) →
      ∃ fd : FuncData, (∀ (s : Shared) (u : Value), BindsTo s fd ⟨[u], []⟩ [("_law_script", u)]) ∧ ∀ base : Heap, (K w.params).In base → base.Ns mainGlobals mg → FnOk l.prog w (K w.params) mg base CX0 4 fa fd ["_law_script"] (spLaw (K w.params))) :
    PySem.W.WalkO q loose XP YP l.row.toRowW d [] (fun f vs => PySem.call f vs) :=
  L2.walk_of (n := 63) (k := 4) (x := "_law_script") (CX := fun _ => CX0) (sp := fun w => spLaw (K w.params)) hn (by decide) hdf ⟨rfl, by decide, by decide⟩ hY F (fun _ _ a ns hl hO hS => ⟨a, ns, rfl, scr_of hO hS, hl, fun _ => rfl⟩) fun _ _ _ _ _ z => z
end LW
open PySem PySem.W PyProof.Rows
set_option maxRecDepth 100000 in
set_option maxHeartbeats 0 in
theorem PySem.Challenge.cw_pagenames_k31_whole_hands_put_together_holds : PySem.Challenge.rw_pagenames_k31_whole_hands_put_together.Holds := by
  w_on; o_law; k_head; (case hw => w_witness2)
  k_fill
  refine LW.walk (l := PySem.Challenge.rw_pagenames_k31_whole_hands_put_together) rfl rfl (fun w h Y => PySem.W.kIn_of Y) ?F
  case F =>
    intro w mg fa h KX G hmg
    refine' LW.all_mk KX G hmg ?a1 ?l1 ?c1 ?k1 ?a2 ?l2 ?c2 ?k2 ?a3 ?l3 ?c3 ?k3 ?a4 ?l4 ?c4 ?k4 ?a5 ?l5 ?c5 ?k5 ?a6 ?l6 ?c6 ?k6 ?a7 ?l7 ?c7 ?k7 ?a8 ?l8 ?c8 ?k8 ?a9 ?l9 ?c9 ?k9 ?a10 ?l10 ?c10 ?k10 ?w1 ?w2 ?w3 ?z1 ?z2 ?z3 ?z4 ?z5 ?z6 ?z7 ?z8 ?z9 ?z10 ?z11 ?z12 ?z13 ?z14 ?z15
    (case a1 => k_is)
    (case l1 => k_is)
    (case c1 => k_is)
    (case k1 => k_is)
    (case a2 => k_is)
    (case l2 => k_is)
    (case c2 => k_is)
    (case k2 => k_is)
    (case a3 => k_is)
    (case l3 => k_is)
    (case c3 => k_is)
    (case k3 => k_is)
    (case a4 => k_is)
    (case l4 => k_is)
    (case c4 => k_is)
    (case k4 => k_is)
    (case a5 => k_is)
    (case l5 => k_is)
    (case c5 => k_is)
    (case k5 => k_is)
    (case a6 => k_is)
    (case l6 => k_is)
    (case c6 => k_is)
    (case k6 => k_is)
    (case a7 => k_is)
    (case l7 => k_is)
    (case c7 => k_is)
    (case k7 => k_is)
    (case a8 => k_is)
    (case l8 => k_is)
    (case c8 => k_is)
    (case k8 => k_is)
    (case a9 => k_is)
    (case l9 => k_is)
    (case c9 => k_is)
    (case k9 => k_is)
    (case a10 => k_is)
    (case l10 => k_is)
    (case c10 => k_is)
    (case k10 => k_is)
    (case w1 => k_is)
    (case w2 => k_is)
    (case w3 => k_is)
    (case z1 => k_is)
    (case z2 => k_is)
    (case z3 => k_is)
    (case z4 => k_is)
    (case z5 => k_is)
    (case z6 => k_is)
    (case z7 => k_is)
    (case z8 => k_is)
    (case z9 => k_is)
    (case z10 => k_is)
    (case z11 => k_is)
    (case z12 => k_is)
    (case z13 => k_is)
    (case z14 => k_is)
    (case z15 => k_is)
