import PyProof.Rows.All
import Wide.All
import OpenK.AllK
import Wide.FinOn
import Lean
import PyProof.EqAt
import PyProof.EqKinds
import PyProof.TupleCall
import PySem.Challenge.RW_pagenames_k28_whole_rows_step_by_step
set_option Elab.async false
set_option linter.all false
set_option maxRecDepth 100000
namespace L2
open PySem PySem.Spec PyProof.Rows
abbrev Key := Sum Int Str
def keyIs : Key → Value → Bool
  | .inl k, v => Value.isInt k v
  | .inr x, v => Value.isStrOf x v
def keyH (w : World) : Key → Int
  | .inl k => hashInt k
  | .inr x => hashStr w x
theorem keyIs_shape : ∀ {k : Key} {v : Value}, keyIs k v = true → (∃ i t, k = Sum.inl i ∧ v = Value.int i t) ∨ (∃ x t, k = Sum.inr x ∧ v = Value.str x t)
  | .inl i, v, h => by
    obtain ⟨t, e⟩ := Value.isInt_shape (k := i) (v := v) h
    exact .inl ⟨i, t, rfl, e⟩
  | .inr x, v, h => by
    obtain ⟨t, e⟩ := Value.isStrOf_shape (x := x) (v := v) h
    exact .inr ⟨x, t, rfl, e⟩
theorem keyIs_int (i : Int) (t : Tok) : keyIs (.inl i) (.int i t) = true := by simp [keyIs, Value.isInt]
theorem keyIs_str (x : Str) (t : Tok) : keyIs (.inr x) (.str x t) = true := by simp [keyIs, Value.isStrOf]
theorem key_ll (a b : Int) : decide ((Sum.inl a : Key) = Sum.inl b) = (a == b) := by
  by_cases e : a = b
  · subst e; simp
  · have h : ¬ (Sum.inl a : Key) = Sum.inl b := fun q => e (Sum.inl.inj q)
    rw [decide_eq_false h]
    exact (beq_eq_false_iff_ne.mpr e).symm
theorem key_rr (a b : Str) : decide ((Sum.inr a : Key) = Sum.inr b) = decide (a = b) := by
  by_cases e : a = b
  · subst e; simp
  · have h : ¬ (Sum.inr a : Key) = Sum.inr b := fun q => e (Sum.inr.inj q)
    rw [decide_eq_false h, decide_eq_false e]
theorem key_lr (a : Int) (b : Str) : decide ((Sum.inl a : Key) = Sum.inr b) = false := decide_eq_false (fun q => nomatch q)
theorem key_rl (a : Str) (b : Int) : decide ((Sum.inr a : Key) = Sum.inl b) = false := decide_eq_false (fun q => nomatch q)
def mixKind (prog : Program) (w : World) : PySem.KeyKind prog w Key where
  is := keyIs
  hash := keyH w
  inj := fun v a b ha hb => by
    rcases keyIs_shape ha with ⟨i, t, rfl, rfl⟩ | ⟨x, t, rfl, rfl⟩
    · rcases keyIs_shape hb with ⟨j, u, rfl, e⟩ | ⟨y, u, rfl, e⟩
      · injection e with e1 _; rw [e1]
      · exact nomatch e
    · rcases keyIs_shape hb with ⟨j, u, rfl, e⟩ | ⟨y, u, rfl, e⟩
      · exact nomatch e
      · injection e with e1 _; rw [e1]
  byValue := fun k v h => by
    rcases keyIs_shape h with ⟨i, t, rfl, rfl⟩ | ⟨x, t, rfl, rfl⟩ <;> rfl
  pyHash := fun hv h => by
    rcases keyIs_shape hv with ⟨i, t, rfl, rfl⟩ | ⟨x, t, rfl, rfl⟩
    · exact wpAny_pyHash_int h
    · exact wpAny_pyHash_str h
  eqBool := fun hu hv h => by
    rcases keyIs_shape hu with ⟨i, t, rfl, rfl⟩ | ⟨x, t, rfl, rfl⟩
    · rcases keyIs_shape hv with ⟨j, u, rfl, rfl⟩ | ⟨y, u, rfl, rfl⟩
      · rw [key_ll] at h; exact wpAny_eqBool_int h
      · rw [key_lr] at h; exact SeqAt.EqAt.int_str i t y u _ _ _ _ h
    · rcases keyIs_shape hv with ⟨j, u, rfl, rfl⟩ | ⟨y, u, rfl, rfl⟩
      · rw [key_rl] at h; exact SeqAt.EqAt.str_int x t j u _ _ _ _ h
      · rw [key_rr] at h; exact wpAny_eqBool_str h
  «strs» := fun k x t v h => by
    rcases keyIs_shape h with ⟨i, u, rfl, e⟩ | ⟨y, u, rfl, e⟩
    · exact nomatch e
    · injection e with e1 _
      subst e1
      cases v <;> rfl
theorem mixKind_int (prog : Program) (w : World) (i : Int) (t : Tok) : (mixKind prog w).is (.inl i) (.int i t) = true := keyIs_int i t
theorem mixKind_str (prog : Program) (w : World) (x : Str) (t : Tok) : (mixKind prog w).is (.inr x) (.str x t) = true := keyIs_str x t
end L2
namespace L2
open PySem PySem.Spec PyProof.Rows
inductive V where
  | non | bl (b : Bool) | int (i : Int) | str (x : Str) | byt (b : Array UInt8) | flt (b : UInt64) | ref (a : Addr) | ty (n : String)
  deriving DecidableEq
def RelV : V → Value → Prop
  | .non, u => u = Value.none
  | .bl b, u => u = Value.bool b
  | .int i, u => ∃ t, u = Value.int i t
  | .str x, u => ∃ t, u = Value.str x t
  | .byt b, u => ∃ t, u = Value.bytes b t
  | .flt b, u => ∃ t, u = Value.float b t
  | .ref a, u => u = Value.ref a
  | .ty n, u => u = Value.type n
abbrev Vals : List V → List Value → Prop := Paired RelV
theorem Vals.length {xs : List V} {us : List Value} (r : Vals xs us) : xs.length = us.length := Paired.length r
theorem Vals.get : ∀ {xs : List V} {us : List Value} {i : Nat} {x : V}, Vals xs us → xs[i]? = some x → ∃ u, us[i]? = some u ∧ RelV x u
  | _, _, _, _, .nil, e => by simp at e
  | _, _, 0, _, .cons r _, e => by simp at e; subst e; exact ⟨_, rfl, r⟩
  | _, _, i + 1, x, .cons _ t, e => by
    obtain ⟨u, h1, h2⟩ := Vals.get (i := i) (x := x) t (by simpa using e)
    exact ⟨u, by simpa using h1, h2⟩
theorem Vals.set {x : V} {u : Value} (r : RelV x u) : ∀ {xs : List V} {us : List Value} (i : Nat), Vals xs us → Vals (xs.set i x) (us.set i u)
  | _, _, _, .nil => .nil
  | _, _, 0, .cons _ t => .cons r t
  | _, _, i + 1, .cons q t => .cons q (Vals.set r i t)
theorem Vals.append : ∀ {xs ys : List V} {us ws : List Value}, Vals xs us → Vals ys ws → Vals (xs ++ ys) (us ++ ws)
  | _, _, _, _, .nil, s => s
  | _, _, _, _, .cons r t, s => .cons r (Vals.append t s)
theorem Vals.take : ∀ {xs : List V} {us : List Value} (n : Nat), Vals xs us → Vals (xs.take n) (us.take n)
  | _, _, 0, _ => .nil
  | _, _, _ + 1, .nil => .nil
  | _, _, n + 1, .cons r t => .cons r (Vals.take n t)
theorem Vals.drop : ∀ {xs : List V} {us : List Value} (n : Nat), Vals xs us → Vals (xs.drop n) (us.drop n)
  | _, _, 0, r => r
  | _, _, _ + 1, .nil => .nil
  | _, _, n + 1, .cons _ t => Vals.drop n t
def RelO : Option V → Option Value → Prop
  | some v, some u => RelV v u
  | none, none => True
  | _, _ => False
def KV {κ : Type} : List (κ × V) → List (κ × Value) → Prop := Paired fun (p : κ × V) (q : κ × Value) => p.1 = q.1 ∧ RelV p.2 q.2
def kV : Key → V
  | .inl i => .int i
  | .inr x => .str x
inductive HO where
  /-- a list -/
  | lst (xs : List V)
  /-- a tuple (never changes) -/
  | tup (xs : List V)
  /-- a dict whose keys are ints and texts; one whose keys are tuples of ints and texts (the empty one is both) -/
  | dK (kvs : List (Key × V)) | dT (kvs : List (List Key × V))
  /-- a set of ints: its members, its size -/
  | set (S : Int → Bool) (n : Nat)
  /-- an instance of the class at C, its dict at dx, its attributes -/
  | ins (C dx : Addr) (fs : List (Str × V))
  /-- the dict of the instance at x -/
  | own (x : Addr)
  /-- the dict of an exception -/
  | xd (fs : List (Str × V))
  /-- a bound method, f of x -/
  | met (f x : Addr)
  /-- a range object lo, lo + 1, .. below hi -/
  | rng (lo hi : Int)
  /-- a thing that is known to the object (the script; a dict while a loop walks it): read, never written while it is so -/
  | frz (o : Obj) (u : HO)
  /-- a code object's table -/
  | tbl (ps : Array Value)
  /-- any other thing, by what is true of its one object (a def of one's own: SetO a S n := HO.ext fun h => ..) -/
  | ext (φ : Heap → Prop)
def IsTupN (h : Heap) (a : Addr) (items : Array Value) : Prop := IsTup h a items ∧ ∃ o, h.get? a = some o ∧ o.dict = none
theorem IsTupN.new (h : Heap) (xs : Array Value) : IsTupN (h.push { cls := .type "tuple", data := .seq xs }) h.objs.size xs := ⟨IsTup.new h xs, _, Heap.get?_push_size _ rfl, rfl⟩
abbrev Hp := Addr → Option HO
def upd (H : Hp) (a : Addr) (o : HO) : Hp := fun b => if b = a then some o else H b
theorem upd_same {H : Hp} {a : Addr} {o : HO} : upd H a o a = some o := by unfold upd; rw [if_pos rfl]
theorem upd_ne {H : Hp} {a b : Addr} {o : HO} (h : b ≠ a) : upd H a o b = H b := by unfold upd; rw [if_neg h]
theorem ne_of {H : Hp} {a b : Addr} {o u : HO} (h : H a = some o) (h' : H b = some u) (d : o ≠ u) : a ≠ b := by
  intro e; subst e; rw [h] at h'; exact d (Option.some.inj h')
theorem ne_of_none {H : Hp} {a b : Addr} {o : HO} (h : H a = some o) (h' : H b = none) : a ≠ b := by
  intro e; subst e; rw [h] at h'; cases h'
section
variable (P : Program) (w : World)
def ObjOk (H : Hp) (h : Heap) (a : Addr) : HO → Prop
  | .lst xs => xs.length ≤ sizeLine ∧ ∃ (its : List Value) (n : Nat), Vals xs its ∧ h.get? a = some { cls := .type "list", data := .seq its.toArray n }
  | .tup xs => xs.length ≤ sizeLine ∧ ∃ its : List Value, Vals xs its ∧ IsTupN h a its.toArray
  | .dK kvs => kvs.length ≤ sizeLine ∧ (a == sysModules) = false ∧ ∃ vs, KV kvs vs ∧ h.DictOf (mixKind P w) a vs
  | .dT kvs => kvs.length ≤ sizeLine ∧ (a == sysModules) = false ∧ ∃ xs : List (List Key × Addr × Value),
      Paired (fun (p : List Key × V) (q : List Key × Addr × Value) => p.1 = q.1 ∧ H q.2.1 = some (.tup (p.1.map kV)) ∧ RelV p.2 q.2.2) kvs xs ∧
      ∃ o es ep, h.get? a = some o ∧ o.ExactDict ∧ o.data = .dict es ep ∧ es.toList = xs.map (entryOfKey (tupleKind (mixKind P w))) ∧ (xs.map (·.1)).Nodup
  | .set S n => h.SetOf (intKind P w) a S n
  | .ins C dx fs => H dx = some (.own a) ∧ fs.length ≤ 1000 ∧ dx ≠ a ∧ h.get? a = some (PySem.W.instObj C dx) ∧
      ∃ mA, h.Ns1 dx mA ∧ (∀ f, RelO (fs.lookup f) (mA f)) ∧ PySem.Within mA (fs.map (·.1))
  | .own _ => ∃ o, h.get? a = some o
  | .xd fs => ∃ mA, h.Ns1 a mA ∧ ∀ f, RelO (fs.lookup f) (mA f)
  | .rng lo hi => ∃ t u v, h.get? a = some { cls := .type "range", data := .fields #[.int lo t, .int hi u, .int 1 v] }
  | .frz o u => h.get? a = some o ∧ ObjOk H h a u
  | .tbl ps => h.get? a = some { cls := .none, data := .fields ps }
  | .met f x => h.get? a = some (PySem.W.methodObj (.ref f) (.ref x))
  | .ext φ => φ h ∧ (∃ o, h.get? a = some o) ∧ ∀ h1 h2 : Heap, φ h1 → (∀ o, h1.get? a = some o → h2.get? a = some o) → φ h2
def HOk (H : Hp) (h : Heap) : Prop := ∀ a o, H a = some o → ObjOk P w H h a o
end
section
variable {P : Program} {w : World} {H H' : Hp} {h h' : Heap} {a : Addr} {o : HO}
theorem ObjOk.lt (x : ObjOk P w H h a o) : a < h.objs.size := by
  cases o with
  | lst xs => obtain ⟨_, _, _, _, e⟩ := x; exact Heap.lt_size e
  | tup xs => obtain ⟨_, _, _, p, _⟩ := x; exact p.lt
  | dK kvs => obtain ⟨_, _, _, _, o, _, _, e, _⟩ := x; exact Heap.lt_size e
  | dT kvs => obtain ⟨_, _, _, _, o, _, _, e, _⟩ := x; exact Heap.lt_size e
  | set S n => obtain ⟨o, _, _, _, e, _⟩ := x; exact Heap.lt_size e
  | ins C dx fs => obtain ⟨_, _, _, e, _⟩ := x; exact Heap.lt_size e
  | own y => obtain ⟨_, e⟩ := x; exact Heap.lt_size e
  | xd fs => obtain ⟨_, ⟨_, _, _, e, _⟩, _⟩ := x; exact Heap.lt_size e
  | rng lo hi => obtain ⟨_, _, _, e⟩ := x; exact Heap.lt_size e
  | frz ob u => obtain ⟨e, _⟩ := x; exact Heap.lt_size e
  | tbl ps => exact Heap.lt_size (show h.get? a = some _ from x)
  | met f y => exact Heap.lt_size (show h.get? a = some _ from x)
  | ext φ => obtain ⟨_, ⟨_, e⟩, _⟩ := x; exact Heap.lt_size e
theorem Paired.mapP {α β : Type} {F G : α → β → Prop} : ∀ {l₁ : List α} {l₂ : List β}, Paired F l₁ l₂ → (∀ a b, F a b → G a b) → Paired G l₁ l₂
  | _, _, .nil, _ => .nil
  | _, _, .cons r t, f => .cons (f _ _ r) (Paired.mapP t f)
theorem ObjOk.stay (x : ObjOk P w H h a o) (k : ∀ b u, (b = a ∨ H b = some (.own a)) → h.get? b = some u → h'.get? b = some u)
    (ho : ∀ b, H b = some (.own a) → H' b = some (.own a)) (ht : ∀ b xs, H b = some (.tup xs) → H' b = some (.tup xs)) : ObjOk P w H' h' a o := by
  induction o with
  | lst xs => obtain ⟨z, its, n, r, e⟩ := x; exact ⟨z, its, n, r, k _ _ (.inl rfl) e⟩
  | tup xs => obtain ⟨z, its, r, ⟨ob, e, c⟩, od, e', c'⟩ := x; exact ⟨z, its, r, ⟨ob, k _ _ (.inl rfl) e, c⟩, od, k _ _ (.inl rfl) e', c'⟩
  | dK kvs => obtain ⟨z, y, vs, r, ob, es, ep, e, c⟩ := x; exact ⟨z, y, vs, r, ob, es, ep, k _ _ (.inl rfl) e, c⟩
  | dT kvs =>
    obtain ⟨z, y, xs, r, ob, es, ep, e, c⟩ := x
    exact ⟨z, y, xs, Paired.mapP r fun p q z => ⟨z.1, ht _ _ z.2.1, z.2.2⟩, ob, es, ep, k _ _ (.inl rfl) e, c⟩
  | set S n => obtain ⟨ob, es, ep, t, e, c⟩ := x; exact ⟨ob, es, ep, t, k _ _ (.inl rfl) e, c⟩
  | ins C dx fs =>
    obtain ⟨d, z, ne, e, mA, ⟨od, es, ep, e2, c⟩, r⟩ := x
    exact ⟨ho _ d, z, ne, k _ _ (.inl rfl) e, mA, ⟨od, es, ep, k _ _ (.inr d) e2, c⟩, r⟩
  | own y => obtain ⟨ob, e⟩ := x; exact ⟨ob, k _ _ (.inl rfl) e⟩
  | xd fs => obtain ⟨mA, ⟨od, es, ep, e, c⟩, r⟩ := x; exact ⟨mA, ⟨od, es, ep, k _ _ (.inl rfl) e, c⟩, r⟩
  | rng lo hi => obtain ⟨t, u, v, e⟩ := x; exact ⟨t, u, v, k _ _ (.inl rfl) e⟩
  | frz ob u ih => obtain ⟨e, q⟩ := x; exact ⟨k _ _ (.inl rfl) e, ih q⟩
  | tbl ps =>
    have e : h.get? a = some { cls := .none, data := .fields ps } := x
    show h'.get? a = some { cls := .none, data := .fields ps }
    exact k a _ (.inl rfl) e
  | met f y =>
    have e : h.get? a = some (PySem.W.methodObj (.ref f) (.ref y)) := x
    show h'.get? a = some (PySem.W.methodObj (.ref f) (.ref y))
    exact k a _ (.inl rfl) e
  | ext φ => obtain ⟨p, ⟨o, e⟩, st⟩ := x; exact ⟨st _ _ p fun o q => k _ _ (.inl rfl) q, ⟨o, k _ _ (.inl rfl) e⟩, st⟩
theorem HOk.lt (x : HOk P w H h) (e : H a = some o) : a < h.objs.size := (x a o e).lt
theorem HOk.fresh (x : HOk P w H h) (e : h.objs.size ≤ a) : H a = none := by
  cases q : H a with
  | none => rfl
  | some u => exact absurd (Nat.lt_of_lt_of_le (x.lt q) e) (Nat.lt_irrefl _)
theorem HOk.kept (x : HOk P w H h) (k : ∀ b u, h.get? b = some u → h'.get? b = some u) : HOk P w H h' := fun a o e =>
  (x a o e).stay (fun b u _ q => k b u q) (fun _ q => q) fun _ _ q => q
theorem HOk.laid (x : HOk P w H h) (k : ∀ b u, h.get? b = some u → h'.get? b = some u) (hp : h.objs.size ≤ a) (new : ObjOk P w (upd H a o) h' a o) : HOk P w (upd H a o) h' := fun b u e => by
  have hn := x.fresh hp
  by_cases hb : b = a
  · subst hb; rw [upd_same] at e; cases e; exact new
  · rw [upd_ne hb] at e
    exact (x b u e).stay (fun c v _ q => k c v q) (fun c q => by rw [upd_ne (ne_of_none q hn)]; exact q) fun c xs q => by rw [upd_ne (ne_of_none q hn)]; exact q
end
def Rd (H : Hp) (a : Addr) (u : HO) : Prop := H a = some u ∨ ∃ o, H a = some (.frz o u)
theorem Rd.of {H : Hp} {a : Addr} {u : HO} (h : H a = some u) : Rd H a u := .inl h
theorem Rd.ok {P : Program} {w : World} {H : Hp} {h : Heap} {a : Addr} {u : HO} (r : Rd H a u) (x : HOk P w H h) : ObjOk P w H h a u := by
  rcases r with r | ⟨o, r⟩
  · exact x a u r
  · obtain ⟨_, q⟩ := x a _ r
    exact q
def Mut : Option HO → Prop
  | some (.lst _) => True
  | some (.dK _) => True
  | some (.dT _) => True
  | some (.set _ _) => True
  | some (.ins _ _ _) => True
  | some (.ext _) => True
  | _ => False
section
variable {P : Program} {w : World} {H : Hp} {h h' : Heap} {x e : Addr} {o' : HO}
theorem HOk.write (ok : HOk P w H h) (mu : Mut (H x)) (he : e = x ∨ H e = some (.own x)) (k : ∀ b u, b ≠ e → h.get? b = some u → h'.get? b = some u) (heo : ∃ u, h'.get? e = some u)
    (new : ObjOk P w (upd H x o') h' x o') : HOk P w (upd H x o') h' := fun b u q => by
  have nown : ∀ c y, H c = some (.own y) → c ≠ x := fun c y r z => by subst z; rw [r] at mu; exact mu
  have ntup : ∀ c xs, H c = some (.tup xs) → c ≠ x := fun c xs r z => by subst z; rw [r] at mu; exact mu
  by_cases hb : b = x
  · subst hb; rw [upd_same] at q; cases q; exact new
  · rw [upd_ne hb] at q
    by_cases hbe : b = e
    · have q' : H b = some (.own x) := by
        rcases he with z | z
        · exact absurd (hbe.trans z) hb
        · rw [hbe]; exact z
      rw [q] at q'; cases q'
      obtain ⟨v, hv⟩ := heo
      exact ⟨v, by rw [hbe]; exact hv⟩
    · refine (ok b u q).stay (fun c v hc r => k c v ?_ r) (fun c r => by rw [upd_ne (nown c b r)]; exact r) fun c xs r => by rw [upd_ne (ntup c xs r)]; exact r
      rcases hc with rfl | hc
      · exact hbe
      · rintro rfl
        rcases he with z | z
        · exact nown c b hc z
        · rw [hc] at z; cases z; exact hb rfl
end
structure Un (fs ex : List Addr) (H H' : Hp) (h h' : Heap) : Prop where
  keep : ∀ b o, h.get? b = some o → H b = none → b ∉ fs → b ∉ ex → h'.get? b = some o
  slot : ∀ b o, h.get? b = some o → H b = none → b ∈ fs → b ∉ ex → ∃ sl, h'.get? b = some { o with slots := sl }
  free : ∀ b o, h.get? b = some o → H b = none → b ∉ ex → H' b = none
  there : ∀ b o, h.get? b = some o → b ∉ ex → ∃ o', h'.get? b = some o'
  tups : ∀ b xs, H b = some (.tup xs) → H' b = some (.tup xs)
  frzs : ∀ b o u, H b = some (.frz o u) → H' b = some (.frz o u)
  tbls : ∀ b ps, H b = some (.tbl ps) → ∃ more, H' b = some (.tbl (ps ++ more))
section
variable {fs fs' ex ex' : List Addr} {H H1 H2 : Hp} {h h1 h2 h' : Heap} {a x e : Addr} {o : HO}
theorem Un.any (u : Un fs ex H H1 h h1) {b : Addr} {ob : Obj} (q : h.get? b = some ob) (n : H b = none) (hx : b ∉ ex) : ∃ sl, h1.get? b = some { ob with slots := sl } := by
  by_cases hb : b ∈ fs
  · exact u.slot b ob q n hb hx
  · exact ⟨ob.slots, u.keep b ob q n hb hx⟩
theorem Un.trans (a : Un fs ex H H1 h h1) (b : Un fs ex H1 H2 h1 h2) : Un fs ex H H2 h h2 where
  keep := fun c ob q n hc hx => b.keep c ob (a.keep c ob q n hc hx) (a.free c ob q n hx) hc hx
  slot := fun c ob q n hc hx => by
    obtain ⟨sl, e1⟩ := a.slot c ob q n hc hx
    obtain ⟨sl', e2⟩ := b.slot c _ e1 (a.free c ob q n hx) hc hx
    exact ⟨sl', e2⟩
  free := fun c ob q n hx => by
    obtain ⟨o', e1⟩ := a.there c ob q hx
    exact b.free c o' e1 (a.free c ob q n hx) hx
  there := fun c ob q hx => by
    obtain ⟨o', e1⟩ := a.there c ob q hx
    exact b.there c o' e1 hx
  tups := fun c xs q => b.tups c xs (a.tups c xs q)
  frzs := fun c ob xs q => b.frzs c ob xs (a.frzs c ob xs q)
  tbls := fun c ps q => by
    obtain ⟨m1, e1⟩ := a.tbls c ps q
    obtain ⟨m2, e2⟩ := b.tbls c _ e1
    exact ⟨m1 ++ m2, by rw [e2, Array.append_assoc]⟩
theorem Un.kept (k : ∀ b u, h.get? b = some u → h'.get? b = some u) : Un fs ex H H h h' :=
  ⟨fun b ob q _ _ _ => k b ob q, fun b ob q _ _ _ => ⟨ob.slots, k b ob q⟩, fun _ _ _ n _ => n, fun b ob q _ => ⟨ob, k b ob q⟩, fun _ _ q => q, fun _ _ _ q => q, fun _ ps q => ⟨#[], by rw [q]; simp⟩⟩
theorem Un.refl : Un fs ex H H h h := Un.kept fun _ _ q => q
theorem Un.laid (k : ∀ b u, h.get? b = some u → h'.get? b = some u) (hp : h.objs.size ≤ a) (hn : H a = none) : Un fs ex H (upd H a o) h h' where
  keep := fun b u q _ _ _ => k b u q
  slot := fun b u q _ _ _ => ⟨u.slots, k b u q⟩
  free := fun b u q n _ => by rw [upd_ne (Nat.ne_of_lt (Nat.lt_of_lt_of_le (Heap.lt_size q) hp))]; exact n
  there := fun b u q _ => ⟨u, k b u q⟩
  tups := fun b xs q => by rw [upd_ne (ne_of_none q hn)]; exact q
  frzs := fun b u xs q => by rw [upd_ne (ne_of_none q hn)]; exact q
  tbls := fun b ps q => ⟨#[], by rw [upd_ne (ne_of_none q hn), q]; simp⟩
theorem Un.write (mu : Mut (H x)) (he : e = x ∨ H e = some (.own x)) (k : ∀ b u, b ≠ e → h.get? b = some u → h'.get? b = some u) (heo : ∃ u, h'.get? e = some u) : Un fs ex H (upd H x o) h h' := by
  have hx : ∀ b, H b = none → b ≠ x := fun b n z => by subst z; rw [n] at mu; exact mu
  have hb : ∀ b, H b = none → b ≠ e := fun b n z => by
    subst z
    rcases he with r | r
    · exact hx b n r
    · rw [n] at r; cases r
  have hm : ∀ b u, H b = some u → ¬ Mut (some u) → b ≠ x := fun b u q nm z => by subst z; rw [q] at mu; exact nm mu
  refine ⟨fun b u q n _ _ => k b u (hb b n) q, fun b u q n _ _ => ⟨u.slots, k b u (hb b n) q⟩, fun b u q n _ => by rw [upd_ne (hx b n)]; exact n, fun b u q _ => ?_,
    fun b xs q => by rw [upd_ne (hm b _ q fun z => z)]; exact q, fun b u xs q => by rw [upd_ne (hm b _ q fun z => z)]; exact q, fun b ps q => ⟨#[], by rw [upd_ne (hm b _ q fun z => z), q]; simp⟩⟩
  by_cases hbe : b = e
  · subst hbe; exact heo
  · exact ⟨u, k b u hbe q⟩
theorem Un.mono (u : Un fs ex H H1 h h1) (hs : ∀ b ∈ fs, b ∈ fs') (hx : ∀ b ∈ ex, b ∈ ex') : Un fs' ex' H H1 h h1 :=
  ⟨fun b ob q n hb he => u.keep b ob q n (fun z => hb (hs b z)) fun z => he (hx b z), fun _ _ q n _ he => u.any q n fun z => he (hx _ z), fun b ob q n he => u.free b ob q n fun z => he (hx b z), fun b ob q he => u.there b ob q fun z => he (hx b z), u.tups, u.frzs, u.tbls⟩
end
def trk (h : Heap) (H : Hp) : List Addr := (List.range h.objs.size).filter fun a => (H a).isSome
def hidT (h : Heap) (H : Hp) : Heap := PySem.W.hideAll h (trk h H)
theorem hidT_size (h : Heap) (H : Hp) : (hidT h H).objs.size = h.objs.size := PySem.W.hideAll_size _ _
theorem hidT_get {h : Heap} {H : Hp} {b : Addr} {o : Obj} (e : h.get? b = some o) (n : H b = none) : (hidT h H).get? b = some o :=
  PySem.W.hideAll_get _ e fun hm => by
    have q : (H b).isSome = true := (List.mem_filter.mp hm).2
    rw [n] at q; simp at q
theorem of_hidT {h : Heap} {H : Hp} {b : Addr} {o : Obj} (e : (hidT h H).get? b = some o) : h.get? b = some o ∧ H b = none := by
  have e' : h.get? b = some o := PySem.W.of_hideAll (trk h H) e
  refine ⟨e', ?_⟩
  cases q : H b with
  | none => rfl
  | some x =>
    have hm : b ∈ trk h H := List.mem_filter.mpr ⟨List.mem_range.mpr (Heap.lt_size e'), by simp [q]⟩
    have z : (hidT h H).get? b = none := PySem.W.hideAll_none (trk h H) hm
    rw [z] at e; cases e
def allNews (g h : Heap) (L : Addr) : List (Addr × Obj) := (List.range h.objs.size).filterMap fun a => if a = L ∨ (g.get? a).isSome = true then none else (h.get? a).map fun o => (a, o)
def rest (g h : Heap) (L d : Addr) : List (Addr × Obj) := (allNews g h L).filter fun p => decide (p.1 ≠ d)
end L2
namespace L2
open PySem PySem.Spec PyProof.Rows
structure Mod (K : PySem.W.Frag) (mg : Str → Option Value) (base : Heap) : Prop where
  kin : K.In base
  glob : base.Ns mainGlobals mg
  blt : ∃ mb, base.Ns builtinsNs mb ∧ ∀ x : Str, x ≠ "__name__" → mb x = bootBuiltins x
  nolimit : base.NoLimit
structure Cx where
  prog : Program
  w : World
  K : PySem.W.Frag
  mg : Str → Option Value
  base : Heap
  A : Around
  N : List Str
  s₀ : Shared
  H₀ : Hp
  env : Env
  outer : List Env
  stack : List Env
  ex : List Addr
  fn : Str → Bool
  calm : Bool
  pn : List (Addr × Obj)
  xe : Value → Shared → Prop
def frs (l : List Env) : List Addr := l.filterMap (·.frame)
abbrev Cx.fs (X : Cx) : List Addr := frs X.outer
def Vis (sc : Scope) (x : Str) : Prop := sc.names.lookup x = some .local ∨ sc.names.lookup x = some .cell ∨ sc.names.lookup x = some .free
def Loc (sc : Scope) (x : Str) : Prop := sc.names.lookup x = some .local ∨ sc.names.lookup x = some .cell
def Look (env : Env) (h : Heap) (m : Str → Option Value) (x : Str) (u : Value) : Prop :=
  (env.kindOf x = some .local ∧ m x = some u) ∨ ((env.kindOf x = some .cell ∨ env.kindOf x = some .free) ∧ ∃ c, env.cells.lookup x = some c ∧ h.IsCell c (some u))
structure Cx.Ok (X : Cx) : Prop where
  mod : Mod X.K X.mg X.base
  kind : X.env.scope.kind = .function
  glob : X.env.globals = mainGlobals
  blt : X.env.builtins = builtinsNs
  above : X.s₀.heap.objs.size ≤ X.env.locals
  inj : ∀ x y c, X.env.cells.lookup x = some c → X.env.cells.lookup y = some c → x = y
  has : ∀ x, (X.env.kindOf x = some .cell ∨ X.env.kindOf x = some .free) → ∃ c, X.env.cells.lookup x = some c
  cab : ∀ x c, X.fn x = true → X.env.cells.lookup x = some c → X.s₀.heap.objs.size ≤ c
  hd : X.calm = true → X.A.handled = none
  frames : X.A.frames = some X.stack
  stk : X.stack = X.outer ∨ (X.stack = X.env :: X.outer ∧ X.env.frame = some X.env.locals)
  exf : ∀ b ∈ X.ex, b ≠ X.env.locals ∧ ∀ x c, X.env.cells.lookup x = some c → c ≠ b
  bs : ∀ b o, X.base.get? b = some o → X.s₀.heap.get? b = some o ∧ X.H₀ b = none
  bsz : X.base.objs.size ≤ X.s₀.heap.objs.size
  noex : ∀ b o, X.base.get? b = some o → b ∉ X.ex
  exfs : ∀ b ∈ X.ex, b ∉ X.fs
  funs : X.s₀.heap.FunFrames X.base X.outer
  frf : ∀ b ∈ X.fs, X.H₀ b = none
structure Inv (X : Cx) (pins : List (Addr × Obj)) (σ : List (Option V)) (H : Hp) (s : Shared) : Prop where
  ok : X.Ok
  os : s.os = X.s₀.os
  bare : AllBare s.gens
  base : Un X.fs X.ex X.H₀ H X.s₀.heap s.heap
  loc : ∃ m, s.heap.Ns X.env.locals m ∧ ∀ (i : Nat) (x : Str) (v : V), X.N[i]? = some x → σ[i]? = some (some v) → Vis X.env.scope x → ∃ u, RelV v u ∧ Look X.env s.heap m x u
  cell : ∀ x c, X.env.cells.lookup x = some c → ∃ v, s.heap.IsCell c v
  free : H X.env.locals = none
  freeC : ∀ x c, X.env.cells.lookup x = some c → H c = none
  pin : ∀ p ∈ X.pn ++ pins, s.heap.get? p.1 = some p.2 ∧ H p.1 = none ∧ p.1 ≠ X.env.locals ∧ p.1 ∉ X.fs ∧ ∀ v, p.2.data ≠ .cell v
  hok : HOk X.prog X.w H s.heap
  len : σ.length = X.N.length
section
variable {X : Cx} {pins : List (Addr × Obj)} {σ : List (Option V)} {H H' : Hp} {s : Shared} {h' : Heap}
theorem Cx.Ok.nofr (ok : X.Ok) {b : Addr} {o : Obj} (e : X.base.get? b = some o) : b ∉ X.fs := fun hb => by
  have := (ok.funs.mem hb).1
  rw [e] at this; cases this
theorem Inv.bs (I : Inv X pins σ H s) : ∀ b o, X.base.get? b = some o → s.heap.get? b = some o ∧ H b = none := fun b o e =>
  ⟨I.base.keep b o (I.ok.bs b o e).1 (I.ok.bs b o e).2 (I.ok.nofr e) (I.ok.noex b o e), I.base.free b o (I.ok.bs b o e).1 (I.ok.bs b o e).2 (I.ok.noex b o e)⟩
theorem Inv.bk (I : Inv X pins σ H s) : ∀ b o, X.base.get? b = some o → s.heap.get? b = some o := fun b o e => (I.bs b o e).1
theorem Inv.mod (I : Inv X pins σ H s) : Mod X.K X.mg X.base := I.ok.mod
theorem Inv.kIn (I : Inv X pins σ H s) : X.K.In s.heap := I.ok.mod.kin.keeps I.bk
theorem Inv.nolimit (I : Inv X pins σ H s) : s.heap.NoLimit := I.ok.mod.nolimit.keeps I.bk
theorem Inv.fr (I : Inv X pins σ H s) : ∃ m, Fr X.base X.env.locals s.heap m :=
  let ⟨m, hn, _⟩ := I.loc
  ⟨m, hn, I.bk, Nat.le_trans I.ok.bsz I.ok.above⟩
theorem Inv.lt (I : Inv X pins σ H s) : X.env.locals < s.heap.objs.size := let ⟨_, hn, _⟩ := I.loc; hn.lt
theorem Inv.sz (I : Inv X pins σ H s) : X.s₀.heap.objs.size ≤ s.heap.objs.size := Nat.le_trans I.ok.above (Nat.le_of_lt I.lt)
theorem Inv.nofs (I : Inv X pins σ H s) {a : Addr} (h : s.heap.objs.size ≤ a) : a ∉ X.fs := fun hb => by
  obtain ⟨_, o, ho, _⟩ := I.ok.funs.mem hb
  exact absurd (Nat.lt_of_lt_of_le (Heap.lt_size ho) (Nat.le_trans I.sz h)) (Nat.lt_irrefl _)
theorem Inv.cne (I : Inv X pins σ H s) : ∀ x c, X.env.cells.lookup x = some c → c ≠ X.env.locals := fun x c e z => by
  obtain ⟨v, o, ho, hd⟩ := I.cell x c e
  obtain ⟨m, ⟨o', es, ep, ho', hd', _⟩, _⟩ := I.loc
  rw [z, ho'] at ho; cases ho; rw [hd'] at hd; cases hd
theorem Inv.funs (I : Inv X pins σ H s) : s.heap.FunFrames X.base X.outer := by
  have all : ∀ (l : List Env), (∀ b ∈ frs l, b ∈ X.fs) → X.s₀.heap.FunFrames X.base l → s.heap.FunFrames X.base l := by
    intro l
    induction l with
    | nil => intro _ _; trivial
    | cons env r ih =>
      intro hs hl
      obtain ⟨hk, ⟨L, o, hf, hn, ho, hd⟩, hr⟩ := hl
      have hL : L ∈ X.fs := hs L (by unfold frs; rw [List.filterMap_cons, hf]; exact List.mem_cons_self)
      obtain ⟨sl, e⟩ := I.base.slot L o ho (I.ok.frf L hL) hL fun z => I.ok.exfs L z hL
      exact ⟨hk, ⟨L, _, hf, hn, e, hd⟩, ih (fun b hb => hs b (by unfold frs; rw [List.filterMap_cons, hf]; exact List.mem_cons_of_mem _ hb)) hr⟩
  exact all X.outer (fun _ hb => hb) I.ok.funs
theorem Inv.stack (I : Inv X pins σ H s) : s.heap.FunFrames X.base X.stack := by
  rcases I.ok.stk with e | ⟨e, hf⟩
  · rw [e]; exact I.funs
  · rw [e]
    obtain ⟨m, hn, _⟩ := I.loc
    refine .cons (by rw [I.ok.kind]; decide) hf hn ?_ I.funs
    exact Heap.get?_none_of_le (Nat.le_trans I.ok.bsz I.ok.above)
theorem Inv.stkSub (I : Inv X pins σ H s) : ∀ b ∈ frs X.stack, b ∈ X.env.locals :: X.fs := fun b hb => by
  rcases I.ok.stk with e | ⟨e, hf⟩
  · rw [e] at hb; exact List.mem_cons_of_mem _ hb
  · rw [e] at hb
    unfold frs at hb
    rw [List.filterMap_cons, hf] at hb
    exact hb
theorem Inv.stkFree (I : Inv X pins σ H s) : ∀ b ∈ frs X.stack, H b = none := fun b hb => by
  rcases List.mem_cons.mp (I.stkSub b hb) with e | hb
  · rw [e]; exact I.free
  · obtain ⟨_, o, ho, _⟩ := I.ok.funs.mem hb
    exact I.base.free b o ho (I.ok.frf b hb) fun z => I.ok.exfs b z hb
theorem Inv.step {g' : Array GenState} {t' : Nat} {d' : Drawn} {ch : List Addr} (I : Inv X pins σ H s)
    (hch : ∀ b ∈ ch, (b ∈ X.ex ∨ X.s₀.heap.objs.size ≤ b) ∧ b ≠ X.env.locals ∧ (∀ x c, X.env.cells.lookup x = some c → c ≠ b) ∧ ∀ p ∈ X.pn ++ pins, p.1 ≠ b)
    (keep : ∀ b o, b ≠ X.env.locals → b ∉ X.fs → b ∉ ch → s.heap.get? b = some o → H b = none → h'.get? b = some o)
    (slot : ∀ b o, b ≠ X.env.locals → b ∈ X.fs → b ∉ ch → s.heap.get? b = some o → H b = none → ∃ sl, h'.get? b = some { o with slots := sl }) (free : ∀ b o, b ∉ ch → s.heap.get? b = some o → H b = none → H' b = none)
    (there : ∀ b o, b ∉ ch → s.heap.get? b = some o → ∃ o', h'.get? b = some o')
    (tups : ∀ b xs, H b = some (.tup xs) → H' b = some (.tup xs)) (frzs : ∀ b o u, H b = some (.frz o u) → H' b = some (.frz o u)) (tbls : ∀ b ps, H b = some (.tbl ps) → ∃ more, H' b = some (.tbl (ps ++ more)))
    (ns : ∀ m, s.heap.Ns X.env.locals m → h'.Ns X.env.locals m) (hok : HOk X.prog X.w H' h') (hg : AllBare g') :
    Inv X pins σ H' { s with heap := h', gens := g', drawn := d', toks := t' } := by
  have neL : ∀ b o, X.s₀.heap.get? b = some o → b ≠ X.env.locals := fun b o e => Nat.ne_of_lt (Nat.lt_of_lt_of_le (Heap.lt_size e) I.ok.above)
  have neC : ∀ b o, X.s₀.heap.get? b = some o → b ∉ X.ex → b ∉ ch := fun b o e hx hb => by
    rcases (hch b hb).1 with z | z
    · exact hx z
    · exact absurd (Nat.lt_of_lt_of_le (Heap.lt_size e) z) (Nat.lt_irrefl _)
  have cellK : ∀ x c, X.env.cells.lookup x = some c → ∀ v, s.heap.IsCell c v → h'.IsCell c v := fun x c e v ⟨o, ho, hd⟩ => by
    have nch : c ∉ ch := fun z => (hch c z).2.2.1 x c e rfl
    by_cases hc : c ∈ X.fs
    · obtain ⟨sl, q⟩ := slot c o (I.cne x c e) hc nch ho (I.freeC x c e)
      exact ⟨_, q, hd⟩
    · exact ⟨o, keep c o (I.cne x c e) hc nch ho (I.freeC x c e), hd⟩
  refine ⟨I.ok, I.os, hg, ⟨fun b o e n hb hx => ?_, fun b o e n hb hx => ?_, fun b o e n hx => ?_, fun b o e hx => ?_, fun b xs e => tups b xs (I.base.tups b xs e), fun b o xs e => frzs b o xs (I.base.frzs b o xs e), fun b ps e => ?_⟩, ?_, fun x c e => ?_, ?_, fun x c e => ?_, fun p hp => ?_, hok, I.len⟩
  · exact keep b o (neL b o e) hb (neC b o e hx) (I.base.keep b o e n hb hx) (I.base.free b o e n hx)
  · obtain ⟨sl, e1⟩ := I.base.slot b o e n hb hx
    obtain ⟨sl', e2⟩ := slot b _ (neL b o e) hb (neC b o e hx) e1 (I.base.free b o e n hx)
    exact ⟨sl', e2⟩
  · obtain ⟨o', e1⟩ := I.base.there b o e hx
    exact free b o' (neC b o e hx) e1 (I.base.free b o e n hx)
  · obtain ⟨o', e1⟩ := I.base.there b o e hx
    exact there b o' (neC b o e hx) e1
  · obtain ⟨m1, e1⟩ := I.base.tbls b ps e
    obtain ⟨m2, e2⟩ := tbls b _ e1
    exact ⟨m1 ++ m2, by rw [e2, Array.append_assoc]⟩
  · obtain ⟨m, hn, hl⟩ := I.loc
    refine ⟨m, ns m hn, fun i x v e1 e2 e3 => ?_⟩
    obtain ⟨u, r, l⟩ := hl i x v e1 e2 e3
    refine ⟨u, r, ?_⟩
    rcases l with l | ⟨k, c, e, z⟩
    · exact .inl l
    · exact .inr ⟨k, c, e, cellK x c e _ z⟩
  · obtain ⟨v, z⟩ := I.cell x c e
    exact ⟨v, cellK x c e v z⟩
  · obtain ⟨m, ⟨o, _, _, ho, _⟩, _⟩ := I.loc
    exact free _ o (fun z => (hch _ z).2.1 rfl) ho I.free
  · obtain ⟨v, o, ho, hd⟩ := I.cell x c e
    exact free c o (fun z => (hch c z).2.2.1 x c e rfl) ho (I.freeC x c e)
  · obtain ⟨e, n, ne, nf, d⟩ := I.pin p hp
    have nch : p.1 ∉ ch := fun z => (hch p.1 z).2.2.2 p hp rfl
    exact ⟨keep p.1 p.2 ne nf nch e n, free p.1 p.2 nch e n, ne, nf, d⟩
theorem Inv.un {t' : Nat} (I : Inv X pins σ H s) (u : Un X.fs [] H H' s.heap h') (hok : HOk X.prog X.w H' h') : Inv X pins σ H' { s with heap := h', toks := t' } := by
  obtain ⟨m, ⟨o, es, ep, ho, r⟩, _⟩ := id I.loc
  obtain ⟨sl, hL⟩ := u.any ho I.free (by simp)
  exact I.step (g' := s.gens) (d' := s.drawn) (ch := []) (fun _ z => nomatch z) (fun b o _ hb _ e n => u.keep b o e n hb (by simp)) (fun b o _ hb _ e n => u.slot b o e n hb (by simp)) (fun b o _ e n => u.free b o e n (by simp)) (fun b o _ e => u.there b o e (by simp)) u.tups u.frzs u.tbls (fun m' hm => by
    obtain ⟨o', es', ep', ho', r'⟩ := hm
    rw [ho] at ho'; cases ho'
    exact ⟨_, es', ep', hL, r'⟩) hok I.bare
theorem Inv.call {g' : Array GenState} {t' : Nat} {d' : Drawn} {ch : List Addr} (I : Inv X pins σ H s) (u : Un (frs X.stack) ch H H' s.heap h') (hok : HOk X.prog X.w H' h') (hg : AllBare g')
    (hch : ∀ b ∈ ch, (b ∈ X.ex ∨ X.s₀.heap.objs.size ≤ b) ∧ b ≠ X.env.locals ∧ (∀ x c, X.env.cells.lookup x = some c → c ≠ b) ∧ ∀ p ∈ X.pn ++ pins, p.1 ≠ b) :
    Inv X pins σ H' { s with heap := h', gens := g', drawn := d', toks := t' } := by
  obtain ⟨m, ⟨o, es, ep, ho, r⟩, _⟩ := id I.loc
  obtain ⟨sl, hL⟩ := u.any ho I.free fun z => (hch _ z).2.1 rfl
  exact I.step (ch := ch) hch (fun b o hL hb hc e n => u.keep b o e n (fun z => (List.mem_cons.mp (I.stkSub b z)).elim hL hb) hc) (fun b o _ _ hc e n => u.any e n hc) (fun b o hc e n => u.free b o e n hc) (fun b o hc e => u.there b o e hc) u.tups u.frzs u.tbls (fun m' hm => by
    obtain ⟨o', es', ep', ho', r'⟩ := hm
    rw [ho] at ho'; cases ho'
    exact ⟨_, es', ep', hL, r'⟩) hok hg
theorem Inv.turned {t' : Nat} {it : Addr} (I : Inv X pins σ H s) (k : ∀ b o, b ≠ it → s.heap.get? b = some o → h'.get? b = some o) (hn : H it = none) (hL : it ≠ X.env.locals)
    (h1 : it ∈ X.ex ∨ X.s₀.heap.objs.size ≤ it) (h2 : ∀ x c, X.env.cells.lookup x = some c → c ≠ it) (h3 : ∀ p ∈ X.pn ++ pins, p.1 ≠ it) : Inv X pins σ H { s with heap := h', toks := t' } := by
  have nit : ∀ b u, H b = some u → b ≠ it := fun b u e z => by rw [z, hn] at e; cases e
  refine I.step (g' := s.gens) (d' := s.drawn) (ch := [it]) (fun b hb => ?_) (fun b o _ _ hc e _ => k b o (fun z => hc (by simp [z])) e) (fun b o _ _ hc e _ => ⟨o.slots, k b o (fun z => hc (by simp [z])) e⟩) (fun _ _ _ _ n => n)
    (fun b o hc e => ⟨o, k b o (fun z => hc (by simp [z])) e⟩) (fun _ _ e => e) (fun _ _ _ e => e) (fun b ps e => ⟨#[], by rw [e]; simp⟩) (fun m hm => ?_) (fun b u e => ?_) I.bare
  · have e : b = it := by simpa using hb
    subst e
    exact ⟨h1, hL, h2, h3⟩
  · obtain ⟨o, es, ep, ho, r⟩ := hm
    exact ⟨o, es, ep, k _ o (Ne.symm hL) ho, r⟩
  · refine (I.hok b u e).stay (fun c v hc q => k c v ?_ q) (fun _ q => q) fun _ _ q => q
    rcases hc with z | z
    · rw [z]; exact nit b u e
    · exact nit c _ z
theorem Inv.tok (I : Inv X pins σ H s) (t : Nat) : Inv X pins σ H { s with toks := t } := I.un (h' := s.heap) (t' := t) Un.refl I.hok
theorem Inv.kept {t' : Nat} (I : Inv X pins σ H s) (k : ∀ b u, s.heap.get? b = some u → h'.get? b = some u) : Inv X pins σ H { s with heap := h', toks := t' } := I.un (Un.kept k) (I.hok.kept k)
theorem Inv.laid {a : Addr} {o : HO} {t' : Nat} (I : Inv X pins σ H s) (k : ∀ b u, s.heap.get? b = some u → h'.get? b = some u) (hp : s.heap.objs.size ≤ a) (new : ObjOk X.prog X.w (upd H a o) h' a o) :
    Inv X pins σ (upd H a o) { s with heap := h', toks := t' } := I.un (Un.laid k hp (I.hok.fresh hp)) (I.hok.laid k hp new)
theorem Inv.write {x e : Addr} {o : HO} {t' : Nat} (I : Inv X pins σ H s) (mu : Mut (H x)) (he : e = x ∨ H e = some (.own x)) (k : ∀ b u, b ≠ e → s.heap.get? b = some u → h'.get? b = some u) (heo : ∃ u, h'.get? e = some u)
    (new : ObjOk X.prog X.w (upd H x o) h' x o) : Inv X pins σ (upd H x o) { s with heap := h', toks := t' } := I.un (Un.write mu he k heo) (I.hok.write mu he k heo new)
theorem Inv.pins_of {pins' : List (Addr × Obj)} (I : Inv X pins σ H s) (h : ∀ p ∈ pins', s.heap.get? p.1 = some p.2 ∧ H p.1 = none ∧ p.1 ≠ X.env.locals ∧ p.1 ∉ X.fs ∧ ∀ v, p.2.data ≠ .cell v) : Inv X pins' σ H s :=
  ⟨I.ok, I.os, I.bare, I.base, I.loc, I.cell, I.free, I.freeC, fun p hp => (List.mem_append.mp hp).elim (fun z => I.pin p (List.mem_append_left _ z)) (h p), I.hok, I.len⟩
theorem nodup_ix {N : List Str} (hN : N.Nodup) {i j : Nat} {x : Str} (a : N[i]? = some x) (b : N[j]? = some x) : i = j := by
  obtain ⟨h1, e1⟩ := List.getElem?_eq_some_iff.mp a
  obtain ⟨h2, e2⟩ := List.getElem?_eq_some_iff.mp b
  exact (List.getElem_inj hN).mp (e1.trans e2.symm)
theorem store_ok2 {M : Model} {A : Around} {E : Value → Shared → Prop} {i : Nat} {x : Str} {v : V} {u : Value} {Q : Unit → Shared → Prop} (I : Inv X pins σ H s) (hN : X.N.Nodup) (hi : X.N[i]? = some x) (hx : Loc X.env.scope x) (r : RelV v u)
    (h : ∀ s', Inv X pins (σ.set i (some v)) H s' → (∃ a, Heap.SameBut a s.heap s'.heap ∧ (a = X.env.locals ∨ X.env.cells.lookup x = some a)) → Q () s') (hf : X.fn x = true ∨ X.env.scope.names.lookup x = some .local := by first | exact .inl rfl | exact .inr rfl | assumption) : wpAny M A (storeName X.env x u) Q E s := by
  obtain ⟨m, hn, hl⟩ := id I.loc
  have hcls : (X.env.scope.kind == .class || (X.env.scope.kind == .module && X.env.locals != X.env.globals)) = false := by rw [I.ok.kind]; rfl
  have hiσ : i < σ.length := by rw [I.len]; exact (List.getElem?_eq_some_iff.mp hi).1
  have cne := I.cne
  have tracked : ∀ {a : Addr} {h' : Heap}, (∃ o, s.heap.get? a = some o ∧ H a = none) → Heap.SameBut a s.heap h' → HOk X.prog X.w H h' := fun {a h'} ha hs b ob e => by
    obtain ⟨_, _, hfree⟩ := ha
    refine (I.hok b ob e).stay (fun c w' hc q => (hs.2 c ?_).trans q) (fun _ q => q) fun _ _ q => q
    rintro rfl
    rcases hc with rfl | hc
    · rw [hfree] at e; cases e
    · rw [hfree] at hc; cases hc
  rcases hx with hk | hk
  · refine wpAny_storeName_local hk hn (fun h' hn' hs => ?_) hcls
    obtain ⟨oL, _, _, hoL, _⟩ := id hn
    refine h _ ⟨I.ok, I.os, I.bare, ⟨fun b o e n hb hx => ?_, fun b o e n hb hx => ?_, I.base.free, fun b o e hx => ?_, I.base.tups, I.base.frzs, I.base.tbls⟩, ⟨_, hn', fun j y v' e1 e2 e3 => ?_⟩, fun y c e => ?_, I.free, I.freeC, fun p hp => ?_, tracked ⟨oL, hoL, I.free⟩ hs, by simpa using I.len⟩ ⟨_, hs, .inl rfl⟩
    · exact (hs.2 b (Nat.ne_of_lt (Nat.lt_of_lt_of_le (Heap.lt_size e) I.ok.above))).trans (I.base.keep b o e n hb hx)
    · obtain ⟨sl, e1⟩ := I.base.slot b o e n hb hx
      exact ⟨sl, (hs.2 b (Nat.ne_of_lt (Nat.lt_of_lt_of_le (Heap.lt_size e) I.ok.above))).trans e1⟩
    · obtain ⟨o', e1⟩ := I.base.there b o e hx
      exact ⟨o', (hs.2 b (Nat.ne_of_lt (Nat.lt_of_lt_of_le (Heap.lt_size e) I.ok.above))).trans e1⟩
    · by_cases hj : j = i
      · subst hj
        rw [hi] at e1; cases e1
        rw [List.getElem?_set_self hiσ] at e2
        cases e2
        exact ⟨u, r, .inl ⟨hk, by simp⟩⟩
      · rw [List.getElem?_set_ne (Ne.symm hj)] at e2
        obtain ⟨u', r', q⟩ := hl j y v' e1 e2 e3
        refine ⟨u', r', ?_⟩
        rcases q with ⟨k, e⟩ | ⟨k, c, e, z⟩
        · refine .inl ⟨k, ?_⟩
          have : y ≠ x := fun e => hj (nodup_ix hN e1 (e ▸ hi))
          simp [this, e]
        · exact .inr ⟨k, c, e, z.sameBut hs (cne y c e)⟩
    · obtain ⟨w', z⟩ := I.cell y c e
      exact ⟨w', z.sameBut hs (cne y c e)⟩
    · obtain ⟨e, n, ne, nf, d⟩ := I.pin p hp
      exact ⟨(hs.2 p.1 ne).trans e, n, ne, nf, d⟩
  · have hfn : X.fn x = true := by
      rcases hf with z | z
      · exact z
      · rw [z] at hk; cases hk
    obtain ⟨c, hc⟩ := I.ok.has x (.inl hk)
    obtain ⟨w', z⟩ := I.cell x c hc
    refine wpAny_storeName_cell I.ok.kind hk hc z (fun h' hc' hs => ?_)
    obtain ⟨oc, hoc, hocd⟩ := id z
    refine h { s with heap := h' } ⟨I.ok, I.os, I.bare, ⟨fun b o e n hb hx => ?_, fun b o e n hb hx => ?_, I.base.free, fun b o e hx => ?_, I.base.tups, I.base.frzs, I.base.tbls⟩, ⟨m, hn.sameBut hs (Ne.symm (cne x c hc)), fun j y v' e1 e2 e3 => ?_⟩, fun y c' e => ?_, I.free, I.freeC, fun p hp => ?_, tracked ⟨oc, hoc, I.freeC x c hc⟩ hs, by simpa using I.len⟩ ⟨c, hs, .inr hc⟩
    · exact (hs.2 b (Nat.ne_of_lt (Nat.lt_of_lt_of_le (Heap.lt_size e) (I.ok.cab x c hfn hc)))).trans (I.base.keep b o e n hb hx)
    · obtain ⟨sl, e1⟩ := I.base.slot b o e n hb hx
      exact ⟨sl, (hs.2 b (Nat.ne_of_lt (Nat.lt_of_lt_of_le (Heap.lt_size e) (I.ok.cab x c hfn hc)))).trans e1⟩
    · obtain ⟨o', e1⟩ := I.base.there b o e hx
      exact ⟨o', (hs.2 b (Nat.ne_of_lt (Nat.lt_of_lt_of_le (Heap.lt_size e) (I.ok.cab x c hfn hc)))).trans e1⟩
    · by_cases hj : j = i
      · subst hj
        rw [hi] at e1; cases e1
        rw [List.getElem?_set_self hiσ] at e2
        cases e2
        exact ⟨u, r, .inr ⟨.inl hk, c, hc, hc'⟩⟩
      · rw [List.getElem?_set_ne (Ne.symm hj)] at e2
        obtain ⟨u', r', q⟩ := hl j y v' e1 e2 e3
        refine ⟨u', r', ?_⟩
        rcases q with q | ⟨k, c', e, z'⟩
        · exact .inl q
        · refine .inr ⟨k, c', e, z'.sameBut hs ?_⟩
          rintro rfl
          exact hj (nodup_ix hN e1 (I.ok.inj _ _ _ e hc ▸ hi))
    · by_cases hcc : c' = c
      · subst hcc; exact ⟨_, hc'⟩
      · obtain ⟨w2, z2⟩ := I.cell y c' e
        exact ⟨w2, z2.sameBut hs hcc⟩
    · obtain ⟨e, n, ne, nf, d⟩ := I.pin p hp
      refine ⟨(hs.2 p.1 ?_).trans e, n, ne, nf, d⟩
      intro q
      rw [q, hoc] at e
      have q' : oc = p.2 := Option.some.inj e
      exact d w' (by rw [← q']; exact hocd)
theorem store_ok {M : Model} {A : Around} {E : Value → Shared → Prop} {i : Nat} {x : Str} {v : V} {u : Value} {Q : Unit → Shared → Prop} (I : Inv X pins σ H s) (hN : X.N.Nodup) (hi : X.N[i]? = some x) (hx : Loc X.env.scope x) (r : RelV v u)
    (h : ∀ s', Inv X pins (σ.set i (some v)) H s' → Q () s') (hf : X.fn x = true ∨ X.env.scope.names.lookup x = some .local := by first | exact .inl rfl | exact .inr rfl | assumption) : wpAny M A (storeName X.env x u) Q E s :=
  store_ok2 I hN hi hx r (fun s' I' _ => h s' I') hf
theorem Inv.call' {s' : Shared} {ch : List Addr} (I : Inv X pins σ H s) (ho : s'.os = s.os) (u : Un (frs X.stack) ch H H' s.heap s'.heap) (hok : HOk X.prog X.w H' s'.heap) (hg : AllBare s'.gens)
    (hch : ∀ b ∈ ch, (b ∈ X.ex ∨ X.s₀.heap.objs.size ≤ b) ∧ b ≠ X.env.locals ∧ (∀ x c, X.env.cells.lookup x = some c → c ≠ b) ∧ ∀ p ∈ X.pn ++ pins, p.1 ≠ b) : Inv X pins σ H' s' := by
  obtain ⟨h', g', d', t', o'⟩ := s'
  have e : o' = s.os := ho
  subst e
  exact I.call (g' := g') (t' := t') (d' := d') u hok hg hch
end
abbrev XK := Value → Option Addr → Hp → Prop
abbrev St := List (Option V)
abbrev VK := V → Hp → Prop
abbrev TE := St → Hp → VK → Prop
abbrev TT := St → Hp → (Bool → Hp → Prop) → Prop
abbrev TA := St → Hp → (List V → Hp → Prop) → Prop
structure Ends where
  nx : St → Hp → Prop
  rt : VK
  bk : St → Hp → Prop := fun _ _ => False
  ct : St → Hp → Prop := fun _ _ => False
abbrev TS := Ends → St → Hp → Prop
def EP (X : Cx) (pins : List (Addr × Obj)) (σ : St) (Q : VK) (u : Value) (s' : Shared) : Prop := ∃ v H', Inv X pins σ H' s' ∧ RelV v u ∧ Q v H'
def TP (X : Cx) (pins : List (Addr × Obj)) (σ : St) (Q : Bool → Hp → Prop) (b : Bool) (s' : Shared) : Prop := ∃ H', Inv X pins σ H' s' ∧ Q b H'
def AP (X : Cx) (pins : List (Addr × Obj)) (σ : St) (Q : List V → Hp → Prop) (us : List Value) (s' : Shared) : Prop := ∃ vs H', Inv X pins σ H' s' ∧ Vals vs us ∧ Q vs H'
def SP (X : Cx) (pins : List (Addr × Obj)) (D : Ends) (f : Flow) (s' : Shared) : Prop :=
  match f with
  | .next => ∃ σ' H', Inv X pins σ' H' s' ∧ D.nx σ' H'
  | .brk => ∃ σ' H', Inv X pins σ' H' s' ∧ D.bk σ' H'
  | .cont => ∃ σ' H', Inv X pins σ' H' s' ∧ D.ct σ' H'
  | .ret u => ∃ v σ' H', Inv X pins σ' H' s' ∧ RelV v u ∧ D.rt v H'
def PE (X : Cx) (e : Expr) (t : TE) : Prop :=
  ∀ (pins : List (Addr × Obj)) (s : Shared) (σ : St) (H : Hp) (Q : VK), Inv X pins σ H s → t σ H Q → wpAny (model X.prog X.w) X.A (eval e X.env) (EP X pins σ Q) X.xe s
def PT (X : Cx) (e : Expr) (t : TT) : Prop :=
  ∀ (pins : List (Addr × Obj)) (s : Shared) (σ : St) (H : Hp) (Q : Bool → Hp → Prop), Inv X pins σ H s → t σ H Q → wpAny (model X.prog X.w) X.A (isTrue e X.env (eval e X.env)) (TP X pins σ Q) X.xe s
def PW (X : Cx) (e : Expr) (t : TT) : Prop :=
  ∀ (whole : Sem Value) (pins : List (Addr × Obj)) (s : Shared) (σ : St) (H : Hp) (Q : Bool → Hp → Prop), Inv X pins σ H s → t σ H Q → wpAny (model X.prog X.w) X.A (isTrue e X.env whole) (TP X pins σ Q) X.xe s
theorem PW.pt {X : Cx} {e : Expr} {t : TT} (h : PW X e t) : PT X e t := h _
def PA (X : Cx) (es : List Expr) (t : TA) : Prop :=
  ∀ (pos : Pos) (pins : List (Addr × Obj)) (s : Shared) (σ : St) (H : Hp) (Q : List V → Hp → Prop), Inv X pins σ H s → t σ H Q → wpAny (model X.prog X.w) X.A (spliced (backTo pos (starEach es X.env))) (AP X pins σ Q) X.xe s
def PS (X : Cx) (st : Stmt) (t : TS) : Prop :=
  ∀ (pins : List (Addr × Obj)) (s : Shared) (σ : St) (H : Hp) (D : Ends), Inv X pins σ H s → t D σ H → wpAny (model X.prog X.w) X.A (exec st X.env) (SP X pins D) X.xe s
def PSs (X : Cx) (st : List Stmt) (t : TS) : Prop :=
  ∀ (pins : List (Addr × Obj)) (s : Shared) (σ : St) (H : Hp) (D : Ends), Inv X pins σ H s → t D σ H → wpAny (model X.prog X.w) X.A (execs st X.env) (SP X pins D) X.xe s
theorem thn {α : Type} {t : Sem α} {Q Q' : α → Shared → Prop} {M : Model} {A : Around} {E : Value → Shared → Prop} {s : Shared} (h : wpAny M A t Q E s) (hQ : ∀ a s, Q a s → Q' a s) : wpAny M A t Q' E s := wpAny_mono h hQ fun _ _ x => x
end L2
namespace L2
open PySem PySem.Spec PyProof.Rows
section
variable {X : Cx}
theorem bin {a b : Expr} {ta tb : TE} (ha : PE X a ta) (hb : PE X b tb) {pins : List (Addr × Obj)} {s : Shared} {σ : St} {H : Hp} {R : V → V → Hp → Prop} (I : Inv X pins σ H s) (h : ta σ H fun x H1 => tb σ H1 fun y H2 => R x y H2)
    {α : Type} {Q : α → Shared → Prop} {f : Value → Value → Sem α}
    (hf : ∀ v u s2 x y H2, Inv X pins σ H2 s2 → RelV x v → RelV y u → R x y H2 → wpAny (model X.prog X.w) X.A (f v u) Q X.xe s2) :
    wpAny (model X.prog X.w) X.A (eval a X.env) (fun v s₁ => wpAny (model X.prog X.w) X.A (eval b X.env) (fun u s₂ => wpAny (model X.prog X.w) X.A (f v u) Q X.xe s₂) X.xe s₁) X.xe s := by
  refine thn (ha pins s σ H _ I h) fun v s1 ⟨x, H1, I1, r1, q1⟩ => ?_
  refine thn (hb pins s1 σ H1 _ I1 q1) fun u s2 ⟨y, H2, I2, r2, q2⟩ => ?_
  exact hf v u s2 x y H2 I2 r1 r2 q2
def tVar (i : Nat) : TE := fun σ H Q => ∃ v, σ[i]? = some (some v) ∧ Q v H
def tC (v : V) : TE := fun _ H Q => Q v H
theorem pe_var {i : Nat} {x : Str} {pos : Pos} (hN : X.N[i]? = some x) (hv : Vis X.env.scope x) (hd : (x == ("__debug__" : Str)) = false := by decide) (hcd : (x == ("__classdict__" : Str)) = false := by decide) : PE X (.Name x pos) (tVar i) := by
  intro pins s σ H Q I h
  obtain ⟨v, e, h⟩ := h
  obtain ⟨m, hn, hl⟩ := I.loc
  obtain ⟨u, r, l⟩ := hl i x v hN e hv
  have fin : EP X pins σ Q u s := ⟨v, H, I, r, h⟩
  rcases l with ⟨hk, hm⟩ | ⟨hk, c, hc, hcell⟩
  · exact wpAny_Name (wpAny_loadName_local I.ok.kind hk hn hm fin) hd
  · rcases hk with hk | hk
    · exact wpAny_Name (wpAny_loadName_cell I.ok.kind hk hc hcell fin) hd
    · exact wpAny_Name (wpAny_loadName_free I.ok.kind hk hc hcell fin hcd) hd
theorem pe_int {i j pos} : PE X (.Constant (.int i) j pos) (tC (.int i)) := fun _ _ _ H _ I h => wpAny_Constant_int ⟨.int i, H, I.tok _, ⟨_, rfl⟩, h⟩
theorem pe_bl {b j pos} : PE X (.Constant (.bool b) j pos) (tC (.bl b)) := fun _ _ _ H _ I h => Constant_bool ⟨.bl b, H, I, rfl, h⟩
theorem pe_non {j pos} : PE X (.Constant .none j pos) (tC .non) := fun _ _ _ H _ I h => Constant_none ⟨.non, H, I, rfl, h⟩
theorem pe_str {x j pos} : PE X (.Constant (.str x) j pos) (tC (.str x)) := fun _ _ _ H _ I h => Calls.Constant_str ⟨.str x, H, I.tok _, ⟨_, rfl⟩, h⟩
def Gl (X : Cx) (x : Str) : Prop := X.env.kindOf x = some .globalImplicit
theorem ld_glob {E : Value → Shared → Prop} {pins : List (Addr × Obj)} {s : Shared} {σ : St} {H : Hp} {x : Str} {u : Value} {pos : Pos} {Q : Value → Shared → Prop} (I : Inv X pins σ H s) (hg : Gl X x) (hm : X.mg x = some u) (h : Q u s)
    (hd : (x == ("__debug__" : Str)) = false := by decide) : wpAny (model X.prog X.w) X.A (eval (.Name x pos) X.env) Q E s :=
  Calls.Name_function_global I.ok.kind hg (Calls.loadGlobal_global (by rw [I.ok.glob]; exact I.mod.glob.keeps I.bk) hm h) hd
theorem ld_blt {E : Value → Shared → Prop} {pins : List (Addr × Obj)} {s : Shared} {σ : St} {H : Hp} {x : Str} {u : Value} {pos : Pos} {Q : Value → Shared → Prop} (I : Inv X pins σ H s) (hg : Gl X x) (hm : X.mg x = none) (hv : bootBuiltins x = some u) (h : Q u s)
    (hn : x ≠ "__name__" := by decide) (hd : (x == ("__debug__" : Str)) = false := by decide) : wpAny (model X.prog X.w) X.A (eval (.Name x pos) X.env) Q E s := by
  obtain ⟨mb, h1, h2⟩ := I.mod.blt
  exact Calls.Name_function_global I.ok.kind hg (Calls.loadGlobal_builtin (by rw [I.ok.glob]; exact I.mod.glob.keeps I.bk) hm (by rw [I.ok.blt]; exact h1.keeps I.bk) ((h2 x hn).trans hv) h) hd
theorem pe_glob {x : Str} {v : V} {u : Value} {pos : Pos} (hg : Gl X x) (hm : X.mg x = some u) (r : RelV v u) (hd : (x == ("__debug__" : Str)) = false := by decide) : PE X (.Name x pos) (tC v) :=
  fun _ _ _ H _ I h => ld_glob I hg hm ⟨v, H, I, r, h⟩ hd
variable {a b : Expr} {ta tb : TE} {pos : Pos}
def PC (X : Cx) (op : CmpOp) (a b : Expr) (t : TE) : Prop :=
  ∀ (pins : List (Addr × Obj)) (s : Shared) (σ : St) (H : Hp) (Q : VK), Inv X pins σ H s → t σ H Q →
    wpAny (model X.prog X.w) X.A (eval a X.env) (fun v s₁ => wpAny (model X.prog X.w) X.A (eval b X.env) (fun u s₂ => wpAny (model X.prog X.w) X.A (compareOp op v u) (EP X pins σ Q) X.xe s₂) X.xe s₁) X.xe s
theorem nobehind (b : Expr) {op : CmpOp} (h : op ≠ .In) (h2 : op ≠ .NotIn) : behindInMarks op b = false := by
  have e1 : (op == CmpOp.In) = false := by cases op <;> first | rfl | exact absurd rfl h
  have e2 : (op == CmpOp.NotIn) = false := by cases op <;> first | rfl | exact absurd rfl h2
  cases b <;> simp [behindInMarks, e1, e2]
def tIsN (ta : TE) : TE := fun σ H Q => ta σ H fun x H1 => Q (.bl (decide (x = .non))) H1
theorem RelV.none_iff {x : V} {v : Value} (r : RelV x v) : (v == Value.none) = decide (x = .non) := by
  cases x with
  | non => cases r; rfl
  | bl _ => cases r; rfl
  | int _ => obtain ⟨t, rfl⟩ := r; rfl
  | str _ => obtain ⟨t, rfl⟩ := r; rfl
  | byt _ => obtain ⟨t, rfl⟩ := r; rfl
  | flt _ => obtain ⟨t, rfl⟩ := r; rfl
  | ref _ => cases r; rfl
  | ty _ => cases r; rfl
theorem pc_isN {j pos'} (ha : PE X a ta) : PC X .Is a (.Constant .none j pos') (tIsN ta) := by
  intro pins s σ H Q I h
  refine thn (ha pins s σ H _ I h) fun v s1 ⟨x, H1, I1, r1, q1⟩ => ?_
  exact Constant_none (is_none_gen ⟨.bl _, H1, I1, by rw [r1.none_iff]; rfl, q1⟩)
def tB (t : TE) : TT := fun σ H Q => t σ H fun x H1 => ∃ c, x = .bl c ∧ Q c H1
theorem pe_cmp {op : CmpOp} {t : TE} (h : PC X op a b t) (h1 : behindInMarks op b = false := by first | exact nobehind _ (by decide) (by decide) | rfl) : PE X (.Compare a [op] [b] pos) t := fun pins s σ H Q I hw => wpAny_Compare1 (h pins s σ H Q I hw) h1
theorem pt_cmp {op : CmpOp} {t : TE} (h : PC X op a b t) (h1 : behindInMarks op b = false := by first | exact nobehind _ (by decide) (by decide) | rfl) : PT X (.Compare a [op] [b] pos) (tB t) := by
  intro pins s σ H Q I hw
  refine wpAny_isTrue_Compare1 (thn (h pins s σ H _ I hw) fun v s1 h1 => thn h1 fun u s2 h2 => thn h2 fun c s3 ⟨x, H1, I1, r1, q1⟩ => ?_) h1
  obtain ⟨d, rfl, q⟩ := q1
  cases r1
  exact wpAny_truthy_bool ⟨H1, I1, q⟩
theorem pt_val {e : Expr} {t : TE} (h : PE X e t) (he : ∀ whole, isTrue e X.env whole = (do let v ← whole; standAt e.pos; holding [v] (truthy v)) := by intro _; rfl) : PT X e (tB t) := by
  intro pins s σ H Q I hw
  refine isTrue_plain (thn (h pins s σ H _ I hw) fun v s1 ⟨x, H1, I1, r1, q1⟩ => ?_) (he _)
  obtain ⟨d, rfl, q⟩ := q1
  cases r1
  exact wpAny_truthy_bool ⟨H1, I1, q⟩
variable {tA tB' : TT} {rest : List Expr}
def tAnd (t u : TT) : TT := fun σ H Q => t σ H fun c H1 => if c = true then u σ H1 Q else Q false H1
def tOr (t u : TT) : TT := fun σ H Q => t σ H fun c H1 => if c = true then Q true H1 else u σ H1 Q
def tNot (t : TT) : TT := fun σ H Q => t σ H fun c H1 => Q (!c) H1
theorem pw_and1 (ha : PT X a tA) : PW X (.BoolOp .And [a] pos) tA := by
  intro wh pins s σ H Q I h
  refine isTrue_and (thn (ha pins s σ H Q I h) fun c s1 e => ?_)
  cases c with
  | true => exact isTrue_and_nil e
  | false => exact e
theorem pw_or1 (ha : PT X a tA) : PW X (.BoolOp .Or [a] pos) tA := by
  intro wh pins s σ H Q I h
  refine isTrue_or (thn (ha pins s σ H Q I h) fun c s1 e => ?_)
  cases c with
  | false => exact isTrue_or_nil e
  | true => exact e
theorem pw_and (ha : PT X a tA) (hb : PW X (.BoolOp .And (b :: rest) pos) tB') : PW X (.BoolOp .And (a :: b :: rest) pos) (tAnd tA tB') := by
  intro wh pins s σ H Q I h
  refine isTrue_and (thn (ha pins s σ H _ I h) fun c s1 ⟨H1, I1, q1⟩ => ?_)
  cases c with
  | true => exact hb wh pins s1 σ H1 Q I1 q1
  | false => exact ⟨H1, I1, q1⟩
theorem pw_or (ha : PT X a tA) (hb : PW X (.BoolOp .Or (b :: rest) pos) tB') : PW X (.BoolOp .Or (a :: b :: rest) pos) (tOr tA tB') := by
  intro wh pins s σ H Q I h
  refine isTrue_or (thn (ha pins s σ H _ I h) fun c s1 ⟨H1, I1, q1⟩ => ?_)
  cases c with
  | true => exact ⟨H1, I1, q1⟩
  | false => exact hb wh pins s1 σ H1 Q I1 q1
theorem pt_not (ha : PT X a tA) : PT X (.UnaryOp .Not a pos) (tNot tA) := by
  intro pins s σ H Q I h
  exact isTrue_not (ha pins s σ H (fun c H1 => Q (!c) H1) I h)
def tIf (t : TT) (ta tb : TE) : TE := fun σ H Q => t σ H fun c H1 => if c = true then ta σ H1 Q else tb σ H1 Q
theorem pe_ifExp {c : Expr} (hc : PT X c tA) (ha : PE X a ta) (hb : PE X b tb) : PE X (.IfExp c a b pos) (tIf tA ta tb) := by
  intro pins s σ H Q I h
  refine wpAny_IfExp (thn (hc pins s σ H _ I h) fun d s1 ⟨H1, I1, q1⟩ => ?_)
  cases d with
  | true => exact ha pins s1 σ H1 Q I1 q1
  | false => exact hb pins s1 σ H1 Q I1 q1
end
end L2
namespace L2
open PySem PySem.Spec PyProof.Rows
def SqL (K : PySem.W.Frag) (H : Hp) (a : Addr) (xs : List V) : Prop :=
  Rd H a (.lst xs) ∨
    ∃ (o : Obj) (its : Array Value) (n : Nat), K.lookup a = some o ∧ o.cls = .type "list" ∧ o.dict = none ∧ o.data = .seq its n ∧ its.size ≤ sizeLine ∧ Vals xs its.toList
def SqT (K : PySem.W.Frag) (H : Hp) (a : Addr) (xs : List V) : Prop :=
  Rd H a (.tup xs) ∨
    ∃ (o : Obj) (its : Array Value) (n : Nat), K.lookup a = some o ∧ o.cls = .type "tuple" ∧ o.data = .seq its n ∧ its.size ≤ sizeLine ∧ Vals xs its.toList
def absV : Value → Option V
  | .none => some .non
  | .bool b => some (.bl b)
  | .int i _ => some (.int i)
  | .str x _ => some (.str x)
  | .bytes b _ => some (.byt b)
  | .float b _ => some (.flt b)
  | .ref a => some (.ref a)
  | .type n => some (.ty n)
  | _ => none
theorem RelV.abs {x : V} {u : Value} (r : RelV x u) : absV u = some x := by
  cases x with
  | non => cases r; rfl
  | bl _ => cases r; rfl
  | int _ => obtain ⟨t, rfl⟩ := r; rfl
  | str _ => obtain ⟨t, rfl⟩ := r; rfl
  | byt _ => obtain ⟨t, rfl⟩ := r; rfl
  | flt _ => obtain ⟨t, rfl⟩ := r; rfl
  | ref _ => cases r; rfl
  | ty _ => cases r; rfl
theorem RelV.inj {x y : V} {u : Value} (r : RelV x u) (q : RelV y u) : x = y := Option.some.inj (r.abs.symm.trans q.abs)
theorem Vals.inj : ∀ {xs ys : List V} {us : List Value}, Vals xs us → Vals ys us → xs = ys
  | _, _, _, .nil, .nil => rfl
  | _, _, _, .cons r t, .cons r' t' => by rw [r.inj r', Vals.inj t t']
section
variable {X : Cx} {pins : List (Addr × Obj)} {σ : St} {H : Hp} {s : Shared} {a : Addr} {xs ys : List V}
theorem SqL.of {K : PySem.W.Frag} (h : H a = some (.lst xs)) : SqL K H a xs := .inl (.inl h)
theorem SqT.of {K : PySem.W.Frag} (h : H a = some (.tup xs)) : SqT K H a xs := .inl (.inl h)
theorem Inv.list (I : Inv X pins σ H s) (h : SqL X.K H a xs) : ∃ its : List Value, Vals xs its ∧ PlainL s.heap a its.toArray ∧ xs.length ≤ sizeLine := by
  rcases h with h | ⟨o, its, n, hk, hc, hd, hs, hz, r⟩
  · obtain ⟨z, its, n, r, e⟩ := h.ok I.hok
    exact ⟨its, r, ⟨_, n, e, rfl, rfl, rfl⟩, z⟩
  · refine ⟨its.toList, r, ⟨o, n, I.kIn a o hk, hc, hd, by simpa using hs⟩, ?_⟩
    have e := r.length
    simp only [Array.length_toList] at e
    omega
theorem Inv.tuple (I : Inv X pins σ H s) (h : SqT X.K H a xs) : ∃ its : List Value, Vals xs its ∧ IsTup s.heap a its.toArray ∧ xs.length ≤ sizeLine := by
  rcases h with h | ⟨o, its, n, hk, hc, hs, hz, r⟩
  · obtain ⟨z, its, r, p, _⟩ := h.ok I.hok
    exact ⟨its, r, p, z⟩
  · refine ⟨its.toList, r, ⟨o, I.kIn a o hk, hc, n, by simpa using hs⟩, ?_⟩
    have e := r.length
    simp only [Array.length_toList] at e
    omega
theorem Inv.list_inj (I : Inv X pins σ H s) (h : SqL X.K H a xs) (h' : SqL X.K H a ys) : xs = ys := by
  obtain ⟨its, r, ⟨o, n, e, _, _, d⟩, _⟩ := I.list h
  obtain ⟨its', r', ⟨o', n', e', _, _, d'⟩, _⟩ := I.list h'
  rw [e] at e'; cases e'
  rw [d] at d'
  injection d' with d1 _
  have : its = its' := by simpa using congrArg Array.toList d1
  subst this
  exact r.inj r'
theorem Inv.tuple_inj (I : Inv X pins σ H s) (h : SqT X.K H a xs) (h' : SqT X.K H a ys) : xs = ys := by
  obtain ⟨its, r, ⟨o, e, _, n, d⟩, _⟩ := I.tuple h
  obtain ⟨its', r', ⟨o', e', _, n', d'⟩, _⟩ := I.tuple h'
  rw [e] at e'; cases e'
  rw [d] at d'
  injection d' with d1 _
  have : its = its' := by simpa using congrArg Array.toList d1
  subst this
  exact r.inj r'
end
abbrev Cx.wish (X : Cx) (E : Value → Shared → Prop) : Cx := { X with xe := E }
abbrev Cx.nox (X : Cx) : Cx := X.wish fun _ _ => False
theorem Cx.Ok.wish {X : Cx} (ok : X.Ok) (E : Value → Shared → Prop) : (X.wish E).Ok :=
  ⟨ok.mod, ok.kind, ok.glob, ok.blt, ok.above, ok.inj, ok.has, ok.cab, ok.hd, ok.frames, ok.stk, ok.exf, ok.bs, ok.bsz, ok.noex, ok.exfs, ok.funs, ok.frf⟩
theorem Cx.Ok.unwish {X : Cx} {E : Value → Shared → Prop} (ok : (X.wish E).Ok) : X.Ok :=
  ⟨ok.mod, ok.kind, ok.glob, ok.blt, ok.above, ok.inj, ok.has, ok.cab, ok.hd, ok.frames, ok.stk, ok.exf, ok.bs, ok.bsz, ok.noex, ok.exfs, ok.funs, ok.frf⟩
section
variable {X : Cx} {pins : List (Addr × Obj)} {σ : St} {H : Hp} {s : Shared} {E : Value → Shared → Prop}
theorem Inv.wish (I : Inv X pins σ H s) (E : Value → Shared → Prop) : Inv (X.wish E) pins σ H s := ⟨I.ok.wish E, I.os, I.bare, I.base, I.loc, I.cell, I.free, I.freeC, I.pin, I.hok, I.len⟩
theorem Inv.unwish (I : Inv (X.wish E) pins σ H s) : Inv X pins σ H s := ⟨I.ok.unwish, I.os, I.bare, I.base, I.loc, I.cell, I.free, I.freeC, I.pin, I.hok, I.len⟩
theorem SP.unwish {D : Ends} {f : Flow} {s' : Shared} (h : SP (X.wish E) pins D f s') : SP X pins D f s' := by
  cases f with
  | next => obtain ⟨σ', H', I, q⟩ := h; exact ⟨σ', H', I.unwish, q⟩
  | brk => obtain ⟨σ', H', I, q⟩ := h; exact ⟨σ', H', I.unwish, q⟩
  | cont => obtain ⟨σ', H', I, q⟩ := h; exact ⟨σ', H', I.unwish, q⟩
  | ret u => obtain ⟨v, σ', H', I, r, q⟩ := h; exact ⟨v, σ', H', I.unwish, r, q⟩
theorem PE.nox {e : Expr} {t : TE} (h : PE X.nox e t) : PE X e t := fun pins s σ H Q I hw =>
  wpAny_mono (h pins s σ H Q (I.wish _) hw) (fun _ _ ⟨v, H', I', r, q⟩ => ⟨v, H', I'.unwish, r, q⟩) fun _ _ z => False.elim z
theorem PT.nox {e : Expr} {t : TT} (h : PT X.nox e t) : PT X e t := fun pins s σ H Q I hw =>
  wpAny_mono (h pins s σ H Q (I.wish _) hw) (fun _ _ ⟨H', I', q⟩ => ⟨H', I'.unwish, q⟩) fun _ _ z => False.elim z
theorem PSs.nox {st : List Stmt} {t : TS} (h : PSs X.nox st t) : PSs X st t := fun pins s σ H D I hw =>
  wpAny_mono (h pins s σ H D (I.wish _) hw) (fun _ _ q => q.unwish) fun _ _ z => False.elim z
end
section
variable {X : Cx} {st : Stmt} {rest : List Stmt} {t u : TS} {e : Expr} {te : TE} {pos : Pos}
def tNext : TS := fun D σ H => D.nx σ H
def tSeq (t u : TS) : TS := fun D σ H => t { D with nx := u D } σ H
theorem pss_nil : PSs X [] tNext := fun _ _ σ H _ I h => wpAny_execs_nil ⟨σ, H, I, h⟩
theorem pss_cons (h1 : PS X st t) (h2 : PSs X rest u) : PSs X (st :: rest) (tSeq t u) := by
  intro pins s σ H D I h
  refine wpAny_execs_cons (thn (h1 pins s σ H { D with nx := u D } I h) fun f s1 q => ?_)
  cases f with
  | next =>
    obtain ⟨σ', H', I', q⟩ := q
    exact h2 pins s1 σ' H' D I' q
  | ret v => exact q
  | brk => exact q
  | cont => exact q
theorem pss_one (h1 : PS X st t) : PSs X [st] t := by
  intro pins s σ H D I h
  refine wpAny_execs_cons (thn (h1 pins s σ H D I h) fun f s1 q => ?_)
  cases f with
  | next => exact wpAny_execs_nil q
  | ret v => exact q
  | brk => exact q
  | cont => exact q
theorem Inv.quiet {pins : List (Addr × Obj)} {σ : St} {H : Hp} {s : Shared} (I : Inv X pins σ H s) : interactive X.env = false := by simp [interactive, I.ok.kind]
def tDrop (te : TE) : TS := fun D σ H => te σ H fun _ H1 => D.nx σ H1
theorem ps_expr (he : PE X e te) (hs : swapsWith e none pos.line X.env = pure false := by rfl) : PS X (.Expr e pos) (tDrop te) := by
  intro pins s σ H D I h
  exact wpAny_Expr_any (thn (he pins s σ H _ I h) fun v s1 ⟨x, H1, I1, r1, q1⟩ => ⟨σ, H1, I1, q1⟩) I.quiet hs
def tRet (te : TE) : TS := fun D σ H => te σ H D.rt
theorem ps_ret (he : PE X e te) : PS X (.Return (some e) pos) (tRet te) := by
  intro pins s σ H D I h
  exact wpAny_Return_some (thn (he pins s σ H _ I h) fun v s1 ⟨x, H1, I1, r1, q1⟩ => ⟨x, σ, H1, I1, r1, q1⟩)
def tIfS (c : TT) (t u : TS) : TS := fun D σ H => c σ H fun b H1 => if b = true then t D σ H1 else u D σ H1
theorem ps_if {c : Expr} {a b : List Stmt} {tc : TT} (hc : PT X c tc) (ha : PSs X a t) (hb : PSs X b u) : PS X (.If c a b pos) (tIfS tc t u) := by
  intro pins s σ H D I h
  refine wpAny_If (thn (hc pins s σ H _ I h) fun d s1 ⟨H1, I1, q1⟩ => ?_)
  cases d with
  | true => exact ha pins s1 σ H1 D I1 q1
  | false => exact hb pins s1 σ H1 D I1 q1
def tNever : TS := fun _ _ _ => False
theorem pss_never {sts : List Stmt} : PSs X sts tNever := fun _ _ _ _ _ _ h => h.elim
end
abbrev TG := V → St → Hp → (St → Hp → Prop) → Prop
abbrev TGs := List V → St → Hp → (St → Hp → Prop) → Prop
def PG (X : Cx) (target : Expr) (t : TG) : Prop :=
  ∀ (pins : List (Addr × Obj)) (s : Shared) (σ : St) (H : Hp) (v : V) (u : Value) (Q : St → Hp → Prop), Inv X pins σ H s → RelV v u → t v σ H Q →
    wpAny (model X.prog X.w) X.A (assign target X.env u) (fun _ s' => ∃ σ' H', Inv X pins σ' H' s' ∧ Q σ' H') X.xe s
def PGs (X : Cx) (ts : List Expr) (t : TGs) : Prop :=
  ∀ (pins : List (Addr × Obj)) (s : Shared) (σ : St) (H : Hp) (vs : List V) (us : List Value) (Q : St → Hp → Prop), Inv X pins σ H s → Vals vs us → t vs σ H Q →
    wpAny (model X.prog X.w) X.A (assignInOrder ((assignEach ts X.env).map (·.2)) us) (fun _ s' => ∃ σ' H', Inv X pins σ' H' s' ∧ Q σ' H') X.xe s
section
variable {X : Cx} {pos : Pos}
def gName (i : Nat) : TG := fun v σ H Q => Q (σ.set i (some v)) H
theorem pg_name {i : Nat} {x : Str} (hN : X.N.Nodup) (hi : X.N[i]? = some x) (hx : Loc X.env.scope x) (hf : X.fn x = true ∨ X.env.scope.names.lookup x = some .local := by first | exact .inl rfl | exact .inr rfl | assumption) : PG X (.Name x pos) (gName i) := by
  intro pins s σ H v u Q I r h
  exact wpAny_assign_Name (store_ok I hN hi hx r (fun s' I' => ⟨_, H, I', h⟩) hf)
def gNil : TGs := fun vs σ H Q => vs = [] ∧ Q σ H
def gCons (t : TG) (u : TGs) : TGs := fun vs σ H Q => ∃ v r, vs = v :: r ∧ t v σ H fun σ' H' => u r σ' H' Q
theorem pgs_nil : PGs X [] gNil := by
  intro pins s σ H vs us Q I r h
  obtain ⟨e, h⟩ := h
  subst e
  cases r
  exact assignInOrder_nil ⟨σ, H, I, h⟩
theorem pgs_cons {e : Expr} {es : List Expr} {t : TG} {u : TGs} (h1 : PG X e t) (h2 : PGs X es u)
    (hs : (assignEach (e :: es) X.env).map (·.2) = assign e X.env :: (assignEach es X.env).map (·.2) := by rfl) : PGs X (e :: es) (gCons t u) := by
  intro pins s σ H vs us Q I r h
  obtain ⟨v, vr, e1, h⟩ := h
  subst e1
  cases r with
  | cons r rr =>
    rw [hs]
    refine assignInOrder_cons (thn (h1 pins s σ H _ _ _ I r h) fun _ s1 ⟨σ1, H1, I1, q1⟩ => ?_)
    exact h2 pins s1 σ1 H1 _ _ Q I1 rr q1
def gTup (K : PySem.W.Frag) (n : Nat) (t : TGs) : TG := fun v σ H Q => ∃ a xs, v = .ref a ∧ SqT K H a xs ∧ xs.length = n ∧ t xs σ H Q
theorem pg_tup {es : List Expr} {k : Nat} {t : TGs} {n : Nat} (hc : X.calm = true) (h : PGs X es t)
    (hn : (assignEach es X.env).length = n := by rfl) (hst : (assignEach es X.env).findIdx? (·.1) = none := by rfl) : PG X (.Tuple es k pos) (gTup X.K n t) := by
  intro pins s σ H v u Q I r hw
  obtain ⟨a, xs, e1, hq, hl, hw⟩ := hw
  subst e1
  cases r
  obtain ⟨its, rv, ht, hz⟩ := I.tuple hq
  refine assign_Tuple_tuple (I.ok.hd hc) ht (by simp [hn, ← hl, rv.length]) hst fun h' hx => ?_
  have I1 : Inv X pins σ H { s with heap := h' } := I.kept (t' := s.toks) fun b o e => hx b o (Nat.ne_of_lt (Heap.lt_size e)) e
  exact h pins _ σ H xs _ Q I1 (by simpa using rv) hw
def tAsg (te : TE) (g : TG) : TS := fun D σ H => te σ H fun x H1 => g x σ H1 D.nx
theorem ps_set {i : Nat} {x : Str} {e : Expr} {te : TE} {pos' : Pos} (hN : X.N.Nodup) (hi : X.N[i]? = some x) (hx : Loc X.env.scope x) (he : PE X e te) (hs : swapsWith e (some (.Name x pos')) pos.line X.env = pure false := by rfl) (hf : X.fn x = true ∨ X.env.scope.names.lookup x = some .local := by first | exact .inl rfl | exact .inr rfl | assumption) :
    PS X (.Assign [.Name x pos'] e pos) (tAsg te (gName i)) := by
  intro pins s σ H D I h
  refine wpAny_Assign_Name (thn (he pins s σ H _ I h) fun v s1 ⟨y, H1, I1, r1, q1⟩ => ?_) hs
  exact store_ok I1 hN hi hx r1 (fun s2 I2 => ⟨_, H1, I2, q1⟩) hf
def tPar (i j : Nat) (ta : TA) : TS := fun D σ H => ta σ H fun vs H1 => ∃ v w, vs = [v, w] ∧ D.nx ((σ.set i (some v)).set j (some w)) H1
theorem ps_par {i j : Nat} {x y : Str} {a b : Expr} {ta : TA} {px py pt : Pos} {kt k2 pt2} (hc : X.calm = true) (hN : X.N.Nodup) (hi : X.N[i]? = some x) (hj : X.N[j]? = some y) (hij : i ≠ j)
    (hx : X.env.scope.names.lookup x = some .local) (hy : X.env.scope.names.lookup y = some .local) (ha : PA X [a, b] ta)
    (hw : swappedStores [.Tuple [.Name x px, .Name y py] kt pt] (.Tuple [a, b] k2 pt2) X.env = pure (some [x, y]))
    (hs : swapsWithSole [.Tuple [.Name x px, .Name y py] kt pt] (.Tuple [a, b] k2 pt2) pos.line X.env = pure false := by rfl) :
    PS X (.Assign [.Tuple [.Name x px, .Name y py] kt pt] (.Tuple [a, b] k2 pt2) pos) (tPar i j ta) := by
  intro pins s σ H D I h
  rw [exec_Assign_arm]
  refine wpAny_bind (wpAny_standAt ?_)
  rw [hs]
  refine wpAny_bind (wpAny_pure ?_)
  rw [if_neg (by decide)]
  refine wpAny_bind (Tuple_ (thn (ha _ pins s σ H _ I h) fun us s1 ⟨vs, H1, I1, r1, q1⟩ => ?_))
  obtain ⟨v, w, e1, q1⟩ := q1
  subst e1
  obtain ⟨u1, u2, rfl, rv, rw'⟩ : ∃ u1 u2, us = [u1, u2] ∧ RelV v u1 ∧ RelV w u2 := by
    cases r1 with
    | cons p q =>
      cases q with
      | cons p' q' =>
        cases q'
        exact ⟨_, _, rfl, p, p'⟩
  refine wpAny_newObj_type ?_ (by show 2 ≤ sizeLine; decide)
  have I2 : Inv X pins σ H1 { s1 with heap := s1.heap.push { cls := .type "tuple", data := .seq [u1, u2].toArray } } := I1.kept (t' := s1.toks) fun b o e => Heap.get?_push_of_some _ e
  rw [hw]
  refine wpAny_bind (wpAny_pure ?_)
  show wpAny (model X.prog X.w) X.A (do rule "assign.swapped-stores"; let items ← unpackItems (.ref s1.heap.objs.size) 2 none; assignInOrder [fun v => bindName X.env y v, fun v => bindName X.env x v] items.reverse; pure Flow.next) _ _ _
  refine wpAny_bind (wpAny_rule (wpAny_bind (unpackItems_tuple (items := #[u1, u2]) (I.ok.hd hc) (IsTup.new s1.heap _) fun h' hx' => ?_)))
  have I3 := I2.kept (h' := h') (t' := s1.toks) fun b o e => hx' b o (Nat.ne_of_lt (Heap.lt_size e)) e
  show wpAny _ _ (assignInOrder [fun v => bindName X.env y v, fun v => bindName X.env x v] [u2, u1] >>= fun _ => pure Flow.next) _ _ _
  refine wpAny_bind (assignInOrder_cons (wpAny_bindName (store_ok I3 hN hj (.inl hy) rw' (fun s2 I4 => ?_) (.inr hy))))
  refine assignInOrder_cons (wpAny_bindName (store_ok I4 hN hi (.inl hx) rv (fun s3 I5 => assignInOrder_nil (wpAny_pure ?_)) (.inr hx)))
  rw [List.set_comm _ _ (Ne.symm hij)] at I5
  exact ⟨_, H1, I5, q1⟩
end
section
variable {X : Cx} {pos : Pos}
def tWhile (c : TT) (tb : TS) : TS := fun D σ H => ∃ W : Nat → St → Hp → Prop, (∃ m, W m σ H) ∧ ∀ m σ H, W m σ H →
  c σ H fun b H1 => if b = true then ∃ N : St → Hp → Prop, (∀ σ' H', N σ' H' → ∃ m', m' < m ∧ W m' σ' H') ∧ tb { D with nx := N, ct := N, bk := D.nx } σ H1 else D.nx σ H1
theorem ps_while {c : Expr} {body : List Stmt} {tc : TT} {tb : TS} (hp : PassesOwn (model X.prog X.w) X.A X.env X.xe) (hc : PT X c tc) (hb : PSs X body tb) : PS X (.While c body [] pos) (tWhile tc tb) := by
  intro pins s σ H D I h
  obtain ⟨W, ⟨m0, w0⟩, turn⟩ := h
  refine wpAny_While (codeAny_whileLoop (fun n s' => ∃ σ' H', Inv X pins σ' H' s' ∧ W n σ' H') ?_ m0 ⟨σ, H, I, w0⟩)
  rintro n s1 ⟨σ1, H1, I1, w1⟩
  refine wpAny_passesOwn hp (thn (hc pins s1 σ1 H1 _ I1 (turn n σ1 H1 w1)) fun b s2 ⟨H2, I2, q2⟩ => ?_)
  cases b with
  | true =>
    obtain ⟨N, hN, q2⟩ := q2
    rw [if_pos rfl]
    refine wpAny_passesOwn hp (thn (hb pins s2 σ1 H2 _ I2 q2) fun f s3 q3 => ?_)
    cases f with
    | next =>
      obtain ⟨σ3, H3, I3, n3⟩ := q3
      obtain ⟨m', hm, w3⟩ := hN σ3 H3 n3
      exact ⟨m', hm, σ3, H3, I3, w3⟩
    | cont =>
      obtain ⟨σ3, H3, I3, n3⟩ := q3
      obtain ⟨m', hm, w3⟩ := hN σ3 H3 n3
      exact ⟨m', hm, σ3, H3, I3, w3⟩
    | brk => exact q3
    | ret v => exact q3
  | false =>
    rw [if_neg Bool.false_ne_true]
    exact wpAny_execs_nil ⟨σ1, H2, I2, q2⟩
end
structure It where
  go : Nat → Hp → Prop
  yld : Nat → Hp → V → Hp → Prop
  stop : Nat → Hp → Prop
def FpOk (X : Cx) (pins : List (Addr × Obj)) (H : Hp) (b : Addr) : Prop :=
  H b = none ∧ b ≠ X.env.locals ∧ b ∉ X.fs ∧ (b ∈ X.ex ∨ X.s₀.heap.objs.size ≤ b) ∧ (∀ x c, X.env.cells.lookup x = some c → c ≠ b) ∧ ∀ p ∈ X.pn ++ pins, p.1 ≠ b
theorem Inv.fpOk {X : Cx} {pins : List (Addr × Obj)} {σ : St} {H H' : Hp} {s : Shared} {b : Addr} (I : Inv X pins σ H s) (hb : s.heap.objs.size ≤ b) (hn : H' b = none) : FpOk X pins H' b := by
  refine ⟨hn, Nat.ne_of_gt (Nat.lt_of_lt_of_le I.lt hb), I.nofs hb, .inr (Nat.le_trans I.sz hb), fun x c e z => ?_, fun p hp z => ?_⟩
  · obtain ⟨v, q⟩ := I.cell x c e
    exact absurd (Nat.lt_of_lt_of_le q.lt (by rw [z]; exact hb)) (Nat.lt_irrefl _)
  · exact absurd (Nat.lt_of_lt_of_le (Heap.lt_size (I.pin p hp).1) (by rw [z]; exact hb)) (Nat.lt_irrefl _)
structure Turn (P : Program) (w : World) (K : PySem.W.Frag) (tg : Expr) (J : It) (fp : List Addr) (it : Addr) (tn : Nat → Heap → Prop) : Prop where
  mem : it ∈ fp
  obj : ∀ i h, tn i h → ∀ b ∈ fp, ∃ o, h.get? b = some o ∧ ∀ v, o.data ≠ .cell v
  keep : ∀ i h h', tn i h → (∀ b ∈ fp, ∀ o, h.get? b = some o → h'.get? b = some o) → tn i h'
  item : ∀ (X : Cx), X.prog = P → X.w = w → X.K = K → X.calm = true → ∀ (i : Nat) (pins : List (Addr × Obj)) (s : Shared) (σ : St) (H : Hp) (E : Value → Shared → Prop), Inv X pins σ H s → (∀ b ∈ fp, FpOk X pins H b) → tn i s.heap → J.go i H →
    wpAny (model P w) X.A (pyNext (.ref it)) (fun r s1 => ∃ u, r = some u ∧
      wpAny (model P w) X.A (letOwnedTupleGo tg (.ref it) u) (fun _ s2 => ∃ x H', Inv X pins σ H' s2 ∧ RelV x u ∧ J.yld i H x H' ∧ tn (i + 1) s2.heap ∧ ∀ b ∈ fp, H' b = none) E s1) E s
  done : ∀ (X : Cx), X.prog = P → X.w = w → X.K = K → X.calm = true → ∀ (i : Nat) (pins : List (Addr × Obj)) (s : Shared) (σ : St) (H : Hp) (E : Value → Shared → Prop), Inv X pins σ H s → (∀ b ∈ fp, FpOk X pins H b) → tn i s.heap → J.stop i H →
    wpAny (model P w) X.A (pyNext (.ref it)) (fun r s1 => r = none ∧ Inv X pins σ H s1) E s
  self : ∀ (A : Around) (i : Nat) (s : Shared) (Q : Value → Shared → Prop) (E : Value → Shared → Prop), tn i s.heap → Q (.ref it) s → wpAny (model P w) A (pyIter (.ref it)) Q E s
abbrev TI := St → Hp → (It → Hp → Prop) → Prop
def PIE (X : Cx) (pins : List (Addr × Obj)) (σ : St) (tg : Expr) (R : It → Hp → Prop) (itv : Value) (s2 : Shared) : Prop :=
  ∃ (it : Addr) (fp : List Addr) (tn : Nat → Heap → Prop) (J : It) (H' : Hp), itv = .ref it ∧ Inv X pins σ H' s2 ∧ Turn X.prog X.w X.K tg J fp it tn ∧ tn 0 s2.heap ∧ (∀ b ∈ fp, FpOk X pins H' b) ∧ R J H'
def PI (X : Cx) (tg iter : Expr) (wi : TI) : Prop :=
  ∀ (pins : List (Addr × Obj)) (s : Shared) (σ : St) (H : Hp) (R : It → Hp → Prop), Inv X pins σ H s → wi σ H R →
    wpAny (model X.prog X.w) X.A (eval iter X.env) (fun v s1 => wpAny (model X.prog X.w) X.A (pyIter v) (PIE X pins σ tg R) X.xe s1) X.xe s
theorem go_of {M : Model} {A : Around} {E : Value → Shared → Prop} {s : Shared} {tg : Expr} {it : Addr} {u : Value} {o : Obj} {n : String} {vs : Array Value} {Q : Unit → Shared → Prop} (ho : s.heap.get? it = some o) (hc : o.cls = .type n) (hd : o.data = .fields vs)
    (hn : ["enumerate", "zip", "dict_itemiterator", "dict_reverseitemiterator", "odict_iterator", "itertools.zip_longest", "itertools.pairwise"].contains n = false) (hQ : Q () s) : wpAny M A (letOwnedTupleGo tg (.ref it) u) Q E s := by
  unfold letOwnedTupleGo
  cases tg <;> first
    | exact wpAny_pure hQ
    | (cases u <;> first
        | exact wpAny_pure hQ
        | (refine wpAny_bind (wpAny_load ho ?_)
           rw [hc, hd]
           show wpAny M A (if (["enumerate", "zip", "dict_itemiterator", "dict_reverseitemiterator", "odict_iterator", "itertools.zip_longest", "itertools.pairwise"].contains n && vs[0]? == some (rawInt _)) = true then _ else _) Q E s
           rw [if_neg (by intro h; rw [hn, Bool.false_and] at h; cases h)]
           exact wpAny_pure hQ))
def Itl (K : PySem.W.Frag) (a : Addr) : It :=
  ⟨fun i H => ∃ xs x, SqL K H a xs ∧ xs[i]? = some x, fun i H x H' => H' = H ∧ ∀ xs, SqL K H a xs → xs[i]? = some x, fun i H => ∃ xs, SqL K H a xs ∧ xs.length ≤ i⟩
def Itt (K : PySem.W.Frag) (a : Addr) : It :=
  ⟨fun i H => ∃ xs x, SqT K H a xs ∧ xs[i]? = some x, fun i H x H' => H' = H ∧ ∀ xs, SqT K H a xs → xs[i]? = some x, fun i H => ∃ xs, SqT K H a xs ∧ xs.length ≤ i⟩
def Itr (lo : Int) (n : Nat) : It := ⟨fun i _ => i < n, fun i H x H' => H' = H ∧ x = .int (lo + i), fun i _ => n ≤ i⟩
theorem turn_list {P : Program} {w : World} {K : PySem.W.Frag} {tg : Expr} (a it : Addr) : Turn P w K tg (Itl K a) [it] it (fun i h => h.IsListIter it a i) where
  mem := by simp
  obj := fun i h st b hb => by
    have e : b = it := by simpa using hb
    subst e
    obtain ⟨o, e, c, d⟩ := st
    exact ⟨o, e, fun v z => by rw [d] at z; cases z⟩
  keep := fun i h h' st k => st.at fun o e => k it (by simp) o e
  item := by
    intro X hP hw hK hc i pins s σ H E I hf st hg
    subst hP hw hK
    obtain ⟨xs, x, hq, hx⟩ := hg
    obtain ⟨its, rv, p, hz⟩ := I.list hq
    obtain ⟨u, hu, ru⟩ := rv.get hx
    obtain ⟨f0, f1, f2, f3, f4, f5⟩ := hf it (by simp)
    refine wpAny_pyNext_list_item st p.isList (x := u) (by simpa using hu) fun h' st' sb => ?_
    have I1 : Inv X pins σ H { s with heap := h' } := I.turned (t' := s.toks) (fun b o hb e => (sb.2 b hb).trans e) f0 f1 f3 f4 f5
    obtain ⟨o, e, c, d⟩ := id st'
    exact ⟨u, rfl, go_of (s := { s with heap := h' }) e c d (by decide) ⟨x, H, I1, ru, ⟨rfl, fun ys hy => by rw [I.list_inj hy hq]; exact hx⟩, st', fun b hb => (hf b hb).1⟩⟩
  done := by
    intro X hP hw hK hc i pins s σ H E I hf st hg
    subst hP hw hK
    obtain ⟨xs, hq, hx⟩ := hg
    obtain ⟨its, rv, p, hz⟩ := I.list hq
    obtain ⟨f0, f1, f2, f3, f4, f5⟩ := hf it (by simp)
    have hl := rv.length
    exact wpAny_pyNext_list_end (I.ok.hd hc) st p.isList (by simp; omega) fun h' eb => ⟨rfl, I.turned (t' := s.toks) (fun b o hb e => eb b o hb e) f0 f1 f3 f4 f5⟩
  self := fun _ _ _ _ _ st h => wpAny_pyIter_listiter st h
theorem turn_tuple {P : Program} {w : World} {K : PySem.W.Frag} {tg : Expr} (a it : Addr) : Turn P w K tg (Itt K a) [it] it (fun i h => h.IsTupleIter it a i) where
  mem := by simp
  obj := fun i h st b hb => by
    have e : b = it := by simpa using hb
    subst e
    obtain ⟨o, e, c, d⟩ := st
    exact ⟨o, e, fun v z => by rw [d] at z; cases z⟩
  keep := fun i h h' st k => st.at fun o e => k it (by simp) o e
  item := by
    intro X hP hw hK hc i pins s σ H E I hf st hg
    subst hP hw hK
    obtain ⟨xs, x, hq, hx⟩ := hg
    obtain ⟨its, rv, p, hz⟩ := I.tuple hq
    obtain ⟨u, hu, ru⟩ := rv.get hx
    obtain ⟨f0, f1, f2, f3, f4, f5⟩ := hf it (by simp)
    refine wpAny_pyNext_tuple_item st (show s.heap.IsTuple a its.toArray from p) (x := u) (by simpa using hu) fun h' st' sb => ?_
    have I1 : Inv X pins σ H { s with heap := h' } := I.turned (t' := s.toks) (fun b o hb e => (sb.2 b hb).trans e) f0 f1 f3 f4 f5
    obtain ⟨o, e, c, d⟩ := id st'
    exact ⟨u, rfl, go_of (s := { s with heap := h' }) e c d (by decide) ⟨x, H, I1, ru, ⟨rfl, fun ys hy => by rw [I.tuple_inj hy hq]; exact hx⟩, st', fun b hb => (hf b hb).1⟩⟩
  done := by
    intro X hP hw hK hc i pins s σ H E I hf st hg
    subst hP hw hK
    obtain ⟨xs, hq, hx⟩ := hg
    obtain ⟨its, rv, p, hz⟩ := I.tuple hq
    obtain ⟨f0, f1, f2, f3, f4, f5⟩ := hf it (by simp)
    have hl := rv.length
    exact wpAny_pyNext_tuple_end (I.ok.hd hc) st (show s.heap.IsTuple a its.toArray from p) (by simp; omega) fun h' eb => ⟨rfl, I.turned (t' := s.toks) (fun b o hb e => eb b o hb e) f0 f1 f3 f4 f5⟩
  self := fun _ _ _ _ _ st h => wpAny_pyIter_tupleiter st h
theorem turn_range {P : Program} {w : World} {K : PySem.W.Frag} {tg : Expr} (it : Addr) (lo : Int) (n : Nat) : Turn P w K tg (Itr lo n) [it] it (fun i h => IsRangeIter h it (lo + (i : Nat) * 1) ((n : Int) - (i : Nat)) 1) where
  mem := by simp
  obj := fun i h st b hb => by
    have e : b = it := by simpa using hb
    subst e
    exact ⟨_, st, fun v z => by
      have z' : Data.fields _ = Data.cell v := z
      cases z'⟩
  keep := fun i h h' st k => k it (by simp) _ st
  item := by
    intro X hP hw hK hc i pins s σ H E I hf st hg
    subst hP hw hK
    obtain ⟨f0, f1, f2, f3, f4, f5⟩ := hf it (by simp)
    have W := Walks.range (prog := X.prog) (w := X.w) (I.ok.hd hc) it lo 1 n
    refine W.item i s _ _ hg st fun v h' tk hv st' kk => ?_
    obtain ⟨t, rfl⟩ := hv
    have I1 : Inv X pins σ H { s with heap := h', toks := tk } := I.turned (fun b o hb e => kk b o (by simpa using hb) e) f0 f1 f3 f4 f5
    refine ⟨_, rfl, go_of (s := { s with heap := h', toks := tk }) (n := "range_iterator") st' rfl rfl (by decide) ⟨.int (lo + i), H, I1, ⟨t, ?_⟩, ⟨rfl, rfl⟩, st', fun b hb => (hf b hb).1⟩⟩
    rw [Int.mul_one]
  done := by
    intro X hP hw hK hc i pins s σ H E I hf st hg
    subst hP hw hK
    obtain ⟨f0, f1, f2, f3, f4, f5⟩ := hf it (by simp)
    exact wpAny_pyNext_range_end (I.ok.hd hc) st (by have : n ≤ i := hg; omega) fun h' eb => ⟨rfl, I.turned (t' := s.toks) (fun b o hb e => eb b o hb e) f0 f1 f3 f4 f5⟩
  self := fun _ _ _ _ _ st h => wpAny_pyIter_rangeiter st h
end L2
namespace L2
open PySem PySem.Spec PyProof.Rows
section
variable {X : Cx} {tg : Expr}
def iList (K : PySem.W.Frag) (tl : TE) : TI := fun σ H R => tl σ H fun x H1 => ∃ a, x = .ref a ∧ (∃ xs, SqL K H1 a xs) ∧ R (Itl K a) H1
def iTup (K : PySem.W.Frag) (tl : TE) : TI := fun σ H R => tl σ H fun x H1 => ∃ a, x = .ref a ∧ (∃ xs, SqT K H1 a xs) ∧ R (Itt K a) H1
theorem pi_list {l : Expr} {tl : TE} (hl : PE X l tl) : PI X tg l (iList X.K tl) := by
  intro pins s σ H R I h
  refine thn (hl pins s σ H _ I h) fun v s1 ⟨x, H1, I1, r1, q1⟩ => ?_
  obtain ⟨a, e, ⟨xs, hq⟩, q⟩ := q1
  subst e
  cases r1
  obtain ⟨its, rv, p, hz⟩ := I1.list hq
  refine wpAny_pyIter_list p.isList ?_
  refine ⟨s1.heap.objs.size, [s1.heap.objs.size], _, _, H1, rfl, I1.kept (t' := s1.toks) fun b o e => Heap.get?_push_of_some _ e, turn_list a _, ⟨_, Heap.get?_push_size _ rfl, rfl, rfl⟩, fun b hb => ?_, q⟩
  have e : b = s1.heap.objs.size := by simpa using hb
  subst e
  exact I1.fpOk (Nat.le_refl _) (I1.hok.fresh (Nat.le_refl _))
theorem pi_tup {l : Expr} {tl : TE} (hl : PE X l tl) : PI X tg l (iTup X.K tl) := by
  intro pins s σ H R I h
  refine thn (hl pins s σ H _ I h) fun v s1 ⟨x, H1, I1, r1, q1⟩ => ?_
  obtain ⟨a, e, ⟨xs, hq⟩, q⟩ := q1
  subst e
  cases r1
  obtain ⟨its, rv, p, hz⟩ := I1.tuple hq
  refine wpAny_pyIter_tuple (show s1.heap.IsTuple a its.toArray from p) ?_
  refine ⟨s1.heap.objs.size, [s1.heap.objs.size], _, _, H1, rfl, I1.kept (t' := s1.toks) fun b o e => Heap.get?_push_of_some _ e, turn_tuple a _, ⟨_, Heap.get?_push_size _ rfl, rfl, rfl⟩, fun b hb => ?_, q⟩
  have e : b = s1.heap.objs.size := by simpa using hb
  subst e
  exact I1.fpOk (Nat.le_refl _) (I1.hok.fresh (Nat.le_refl _))
theorem range_it {pins : List (Addr × Obj)} {σ : St} {H : Hp} {s : Shared} {R : It → Hp → Prop} {E : Value → Shared → Prop} {lo hi : Int} {t u v : Tok} {tk : Nat} (I : Inv X pins σ H s) (h1 : -(2 ^ 62) ≤ lo) (h2 : lo < 2 ^ 62) (h3 : -(2 ^ 62) ≤ hi) (h4 : hi < 2 ^ 62)
    (q : R (Itr lo (hi - lo).toNat) H) : wpAny (model X.prog X.w) X.A (pyIter (.ref s.heap.objs.size)) (PIE X pins σ tg R) E { s with heap := s.heap.push { cls := .type "range", data := .fields #[.int lo t, .int hi u, .int 1 v] }, toks := tk } := by
  refine wpAny_pyIter_range (IsRange.new ..) (small_one h1 h2 h3 h4) ?_
  have I1 : Inv X pins σ H { s with heap := s.heap.push { cls := .type "range", data := .fields #[.int lo t, .int hi u, .int 1 v] }, toks := tk } := I.kept fun b o e => Heap.get?_push_of_some _ e
  refine ⟨(s.heap.push { cls := .type "range", data := .fields #[.int lo t, .int hi u, .int 1 v] }).objs.size, [(s.heap.push { cls := .type "range", data := .fields #[.int lo t, .int hi u, .int 1 v] }).objs.size], _, _, H, rfl,
    I1.kept (t' := tk) fun b o e => Heap.get?_push_of_some _ e, turn_range _ lo (hi - lo).toNat, ?_, fun b hb => ?_, q⟩
  · have e1 : lo + ((0 : Nat) : Int) * 1 = lo := by simp
    have e2 : (((hi - lo).toNat : Nat) : Int) - ((0 : Nat) : Int) = Builtin.Range.rangeSize lo hi 1 := by rw [rangeSize_one]; split <;> omega
    show IsRangeIter _ _ (lo + ((0 : Nat) : Int) * 1) ((((hi - lo).toNat : Nat) : Int) - ((0 : Nat) : Int)) 1
    rw [e1, e2]
    exact Heap.get?_push_size _ rfl
  · have e : b = (s.heap.push { cls := .type "range", data := .fields #[.int lo t, .int hi u, .int 1 v] }).objs.size := by simpa using hb
    subst e
    exact I1.fpOk (Nat.le_refl _) (I1.hok.fresh (Nat.le_refl _))
def iRng1 (ta : TA) : TI := fun σ H R => ta σ H fun vs H1 => ∃ j : Int, vs = [.int j] ∧ -(2 ^ 62) ≤ j ∧ j < 2 ^ 62 ∧ R (Itr 0 j.toNat) H1
theorem pi_range1 {a : Expr} {ta : TA} {p pos : Pos} (hg : Gl X "range") (hm : X.mg "range" = none) (ha : PA X [a] ta) (hs : starEach [a] X.env = [(false, eval a X.env)] := by rfl) : PI X tg (.Call (.Name "range" p) [a] [] pos) (iRng1 ta) := by
  intro pins s σ H R I h
  refine Call_ (ld_blt I hg hm boot_range (PyProof.Rows.callWith_type1 (thn (ha pos pins s σ H _ I h) fun us s1 ⟨vs, H1, I1, r1, q1⟩ => ?_) hs rfl))
  obtain ⟨j, e, q1, q2, q⟩ := q1
  subst e
  cases r1 with
  | cons r rr =>
    cases rr
    obtain ⟨t, rfl⟩ := r
    exact call_range_1 (range_it I1 (by omega) (by omega) q1 q2 (by simpa using q))
def tFor (wi : TI) (g : TG) (tb : TS) : TS := fun D σ H => wi σ H fun J H1 => ∃ W : Nat → Nat → St → Hp → Prop, (∃ m, W 0 m σ H1) ∧ ∀ i m σ H, W i m σ H →
  (J.stop i H ∧ D.nx σ H) ∨ (J.go i H ∧ ∃ N : St → Hp → Prop, (∀ σ' H', N σ' H' → ∃ m', m' < m ∧ W (i + 1) m' σ' H') ∧ ∀ x H', J.yld i H x H' → g x σ H' fun σ2 H2 => tb { D with nx := N, ct := N, bk := D.nx } σ2 H2)
def pinsAt (fp : List Addr) (h : Heap) : List (Addr × Obj) := fp.filterMap fun b => (h.get? b).map fun o => (b, o)
theorem mem_pinsAt {fp : List Addr} {h : Heap} {b : Addr} {o : Obj} (hb : b ∈ fp) (e : h.get? b = some o) : (b, o) ∈ pinsAt fp h := List.mem_filterMap.mpr ⟨b, hb, by rw [e]; rfl⟩
theorem of_pinsAt {fp : List Addr} {h : Heap} {p : Addr × Obj} (hp : p ∈ pinsAt fp h) : p.1 ∈ fp ∧ h.get? p.1 = some p.2 := by
  obtain ⟨b, hb, e⟩ := List.mem_filterMap.mp hp
  cases q : h.get? b with
  | none => rw [q] at e; cases e
  | some o =>
    rw [q] at e
    have e' : (b, o) = p := Option.some.inj e
    subst e'
    exact ⟨hb, q⟩
theorem Inv.pinned {pins : List (Addr × Obj)} {σ : St} {H : Hp} {s : Shared} {fp : List Addr} (I : Inv X pins σ H s) (hf : ∀ b ∈ fp, FpOk X pins H b) (ho : ∀ b ∈ fp, ∃ o, s.heap.get? b = some o ∧ ∀ v, o.data ≠ .cell v) : Inv X (pins ++ pinsAt fp s.heap) σ H s :=
  I.pins_of fun p hp => (List.mem_append.mp hp).elim (fun z => I.pin p (List.mem_append_right _ z)) fun z => by
    obtain ⟨hb, e⟩ := of_pinsAt z
    obtain ⟨f0, f1, f2, _⟩ := hf p.1 hb
    obtain ⟨o, e', d⟩ := ho p.1 hb
    rw [e] at e'; cases e'
    exact ⟨e, f0, f1, f2, d⟩
theorem Inv.unpinned {pins pl : List (Addr × Obj)} {σ : St} {H : Hp} {s : Shared} (I : Inv X (pins ++ pl) σ H s) : Inv X pins σ H s := I.pins_of fun p hp => I.pin p (List.mem_append_right _ (List.mem_append_left _ hp))
theorem ps_for {iter : Expr} {body : List Stmt} {wi : TI} {g : TG} {tb : TS} {pos : Pos} (hp : PassesOwn (model X.prog X.w) X.A X.env X.xe) (hc : X.calm = true) (hi : PI X tg iter wi) (hg : PG X tg g) (hb : PSs X body tb)
    (hs : ∀ x, foldedSetIterable iter X.env x = pure x := by intro _; rfl) : PS X (.For tg iter body [] pos) (tFor wi g tb) := by
  intro pins s σ H D I h
  refine wpAny_For (thn (hi pins s σ H _ I h) fun v s1 h1 => thn h1 fun itv s2 h2 => ?_) hs
  obtain ⟨it, fp, tn, J, H2, e, I2, T, st2, f2, W, ⟨m0, w0⟩, turn⟩ := h2
  subst e
  -- what stays true of the iterator's objects through the loop
  have stat : ∀ {H' : Hp}, (∀ b ∈ fp, H' b = none) → ∀ b ∈ fp, FpOk X pins H' b := fun hn b hb => ⟨hn b hb, (f2 b hb).2⟩
  refine codeAny_forLoop_any (fun n s' => ∃ i σ' H', Inv X pins σ' H' s' ∧ tn i s'.heap ∧ (∀ b ∈ fp, H' b = none) ∧ W i n σ' H') ?_ m0 ⟨0, σ, H2, I2, st2, fun b hb => (f2 b hb).1, w0⟩
  rintro n s3 ⟨i, σ3, H3, I3, st3, fr3, w3⟩
  rcases turn i n σ3 H3 w3 with ⟨stop, qn⟩ | ⟨go, N, hN, step⟩
  · refine wpAny_passesOwn hp (thn (T.done X rfl rfl rfl hc i pins s3 σ3 H3 X.xe I3 (stat fr3) st3 stop) fun r s4 ⟨hr, I4⟩ => ?_)
    subst hr
    exact wpAny_execs_nil ⟨σ3, H3, I4, qn⟩
  · refine wpAny_passesOwn hp (thn (T.item X rfl rfl rfl hc i pins s3 σ3 H3 X.xe I3 (stat fr3) st3 go) fun r s4 ⟨u, hr, h4⟩ => ?_)
    subst hr
    refine wpAny_passesOwn hp (thn h4 fun _ s5 ⟨x, H5, I5, r5, y5, st5, fr5⟩ => ?_)
    have I5' := I5.pinned (stat fr5) (T.obj _ _ st5)
    refine wpAny_passesOwn hp (thn (hg _ s5 σ3 H5 x u _ I5' r5 (step x H5 y5)) fun _ s6 ⟨σ6, H6, I6, q6⟩ => ?_)
    refine wpAny_passesOwn hp (thn (hb _ s6 σ6 H6 _ I6 q6) fun f s7 q7 => ?_)
    have again : ∀ {σ7 : St} {H7 : Hp}, Inv X (pins ++ pinsAt fp s5.heap) σ7 H7 s7 → N σ7 H7 → ∃ m, m < n ∧ ∃ i σ' H', Inv X pins σ' H' s7 ∧ tn i s7.heap ∧ (∀ b ∈ fp, H' b = none) ∧ W i m σ' H' := fun {σ7 H7} I7 n7 => by
      obtain ⟨m', hm, w7⟩ := hN σ7 H7 n7
      refine ⟨m', hm, i + 1, σ7, H7, I7.unpinned, T.keep _ _ _ st5 fun b hb o e => (I7.pin (b, o) (List.mem_append_right _ (List.mem_append_right _ (mem_pinsAt hb e)))).1, fun b hb => ?_, w7⟩
      obtain ⟨o, e, d⟩ := T.obj _ _ st5 b hb
      exact (I7.pin (b, o) (List.mem_append_right _ (List.mem_append_right _ (mem_pinsAt hb e)))).2.1
    cases f with
    | next => obtain ⟨σ7, H7, I7, n7⟩ := q7; exact again I7 n7
    | cont => obtain ⟨σ7, H7, I7, n7⟩ := q7; exact again I7 n7
    | brk => obtain ⟨σ7, H7, I7, q7⟩ := q7; exact ⟨σ7, H7, I7.unpinned, q7⟩
    | ret v => obtain ⟨x7, σ7, H7, I7, r7, q7⟩ := q7; exact ⟨x7, σ7, H7, I7.unpinned, r7, q7⟩
end
theorem for_list {K : PySem.W.Frag} {a : Addr} {xs : List V} {g : TG} {tb : TS} {D : Ends} {σ : St} {H : Hp} (Pv : Nat → St → Hp → Prop) (h0 : Pv 0 σ H) (hl : ∀ i σ H, i ≤ xs.length → Pv i σ H → SqL K H a xs)
    (hs : ∀ i x σ H, xs[i]? = some x → Pv i σ H → g x σ H fun σ2 H2 => tb { D with nx := Pv (i + 1), ct := Pv (i + 1), bk := D.nx } σ2 H2) (hd : ∀ σ H, Pv xs.length σ H → D.nx σ H) :
    ∃ W : Nat → Nat → St → Hp → Prop, (∃ m, W 0 m σ H) ∧ ∀ i m σ H, W i m σ H →
      ((Itl K a).stop i H ∧ D.nx σ H) ∨ ((Itl K a).go i H ∧ ∃ N : St → Hp → Prop, (∀ σ' H', N σ' H' → ∃ m', m' < m ∧ W (i + 1) m' σ' H') ∧ ∀ x H', (Itl K a).yld i H x H' → g x σ H' fun σ2 H2 => tb { D with nx := N, ct := N, bk := D.nx } σ2 H2) := by
  refine ⟨fun i m σ H => m = xs.length - i ∧ i ≤ xs.length ∧ Pv i σ H, ⟨xs.length, by simp, Nat.zero_le _, h0⟩, ?_⟩
  rintro i m σ H ⟨rfl, hi, p⟩
  have q := hl i σ H hi p
  by_cases hlt : i < xs.length
  · refine .inr ⟨⟨xs, xs[i], q, by simp [hlt]⟩, Pv (i + 1), fun σ' H' p' => ⟨xs.length - (i + 1), by omega, rfl, hlt, p'⟩, fun x H' y => ?_⟩
    obtain ⟨e, y⟩ := y
    subst e
    exact hs i x σ _ (y xs q) p
  · have e : i = xs.length := by omega
    subst e
    exact .inl ⟨⟨xs, q, Nat.le_refl _⟩, hd σ H p⟩
theorem for_tup {K : PySem.W.Frag} {a : Addr} {xs : List V} {g : TG} {tb : TS} {D : Ends} {σ : St} {H : Hp} (Pv : Nat → St → Hp → Prop) (h0 : Pv 0 σ H) (hl : ∀ i σ H, i ≤ xs.length → Pv i σ H → SqT K H a xs)
    (hs : ∀ i x σ H, xs[i]? = some x → Pv i σ H → g x σ H fun σ2 H2 => tb { D with nx := Pv (i + 1), ct := Pv (i + 1), bk := D.nx } σ2 H2) (hd : ∀ σ H, Pv xs.length σ H → D.nx σ H) :
    ∃ W : Nat → Nat → St → Hp → Prop, (∃ m, W 0 m σ H) ∧ ∀ i m σ H, W i m σ H →
      ((Itt K a).stop i H ∧ D.nx σ H) ∨ ((Itt K a).go i H ∧ ∃ N : St → Hp → Prop, (∀ σ' H', N σ' H' → ∃ m', m' < m ∧ W (i + 1) m' σ' H') ∧ ∀ x H', (Itt K a).yld i H x H' → g x σ H' fun σ2 H2 => tb { D with nx := N, ct := N, bk := D.nx } σ2 H2) := by
  refine ⟨fun i m σ H => m = xs.length - i ∧ i ≤ xs.length ∧ Pv i σ H, ⟨xs.length, by simp, Nat.zero_le _, h0⟩, ?_⟩
  rintro i m σ H ⟨rfl, hi, p⟩
  have q := hl i σ H hi p
  by_cases hlt : i < xs.length
  · refine .inr ⟨⟨xs, xs[i], q, by simp [hlt]⟩, Pv (i + 1), fun σ' H' p' => ⟨xs.length - (i + 1), by omega, rfl, hlt, p'⟩, fun x H' y => ?_⟩
    obtain ⟨e, y⟩ := y
    subst e
    exact hs i x σ _ (y xs q) p
  · have e : i = xs.length := by omega
    subst e
    exact .inl ⟨⟨xs, q, Nat.le_refl _⟩, hd σ H p⟩
theorem for_range {lo : Int} {n : Nat} {g : TG} {tb : TS} {D : Ends} {σ : St} {H : Hp} (Pv : Nat → St → Hp → Prop) (h0 : Pv 0 σ H)
    (hs : ∀ i σ H, i < n → Pv i σ H → g (.int (lo + i)) σ H fun σ2 H2 => tb { D with nx := Pv (i + 1), ct := Pv (i + 1), bk := D.nx } σ2 H2) (hd : ∀ σ H, Pv n σ H → D.nx σ H) :
    ∃ W : Nat → Nat → St → Hp → Prop, (∃ m, W 0 m σ H) ∧ ∀ i m σ H, W i m σ H →
      ((Itr lo n).stop i H ∧ D.nx σ H) ∨ ((Itr lo n).go i H ∧ ∃ N : St → Hp → Prop, (∀ σ' H', N σ' H' → ∃ m', m' < m ∧ W (i + 1) m' σ' H') ∧ ∀ x H', (Itr lo n).yld i H x H' → g x σ H' fun σ2 H2 => tb { D with nx := N, ct := N, bk := D.nx } σ2 H2) := by
  refine ⟨fun i m σ H => m = n - i ∧ i ≤ n ∧ Pv i σ H, ⟨n, by simp, Nat.zero_le _, h0⟩, ?_⟩
  rintro i m σ H ⟨rfl, hi, p⟩
  by_cases hlt : i < n
  · refine .inr ⟨hlt, Pv (i + 1), fun σ' H' p' => ⟨n - (i + 1), by omega, rfl, hlt, p'⟩, fun x H' y => ?_⟩
    obtain ⟨e, y⟩ := y
    subst e y
    exact hs i σ _ hlt p
  · have e : i = n := by omega
    subst e
    exact .inl ⟨Nat.le_refl _, hd σ H p⟩
end L2
namespace L2
open PySem PySem.Spec PyProof.Rows
abbrev R2 := V → V → Hp → VK → Prop
def OpR (X : Cx) (f : Value → Value → Sem Value) (r : R2) : Prop :=
  ∀ (pins : List (Addr × Obj)) (s : Shared) (σ : St) (H : Hp) (x y : V) (v u : Value) (Q : VK), Inv X pins σ H s → RelV x v → RelV y u → r x y H Q →
    wpAny (model X.prog X.w) X.A (f v u) (EP X pins σ Q) X.xe s
def CallR (X : Cx) (f : Value) (r : List V → Hp → VK → Prop) : Prop :=
  ∀ (pins : List (Addr × Obj)) (s : Shared) (σ : St) (H : Hp) (xs : List V) (us : List Value) (Q : VK), Inv X pins σ H s → Vals xs us → r xs H Q →
    wpAny (model X.prog X.w) X.A (call f us) (EP X pins σ Q) X.xe s
def TruR (X : Cx) (r : V → Hp → (Bool → Hp → Prop) → Prop) : Prop :=
  ∀ (pins : List (Addr × Obj)) (s : Shared) (σ : St) (H : Hp) (x : V) (v : Value) (Q : Bool → Hp → Prop), Inv X pins σ H s → RelV x v → r x H Q →
    wpAny (model X.prog X.w) X.A (truthy v) (TP X pins σ Q) X.xe s
def tOp (r : R2) (ta tb : TE) : TE := fun σ H Q => ta σ H fun x H1 => tb σ H1 fun y H2 => r x y H2 Q
def rI (C : Int → Int → Prop) (g : Int → Int → V) : R2 := fun x y H Q => ∃ i j, x = .int i ∧ y = .int j ∧ C i j ∧ Q (g i j) H
def rI0 (g : Int → Int → V) : R2 := fun x y H Q => ∃ i j, x = .int i ∧ y = .int j ∧ Q (g i j) H
section
variable {X : Cx} {a b c : Expr} {ta tb tc : TE} {pos : Pos}
theorem binT (ha : PE X a ta) (hb : PE X b tb) {pins : List (Addr × Obj)} {s : Shared} {σ : St} {H : Hp} {R : V → V → Hp → Prop} (I : Inv X pins σ H s)
    (h : ta σ H fun x H1 => tb σ H1 fun y H2 => R x y H2) {Q : Value → Shared → Prop} {f : Value → Value → Sem Value}
    (hf : ∀ v u s2 x y H2, Inv X pins σ H2 s2 → RelV x v → RelV y u → R x y H2 → wpAny (model X.prog X.w) X.A (f v u) Q X.xe s2) :
    wpAny (model X.prog X.w) X.A (eval a X.env) (fun v s₁ => wpAny (model X.prog X.w) X.A (eval b X.env) (fun u s₂ => wpAny (model X.prog X.w) X.A (f v u) Q X.xe s₂) X.xe s₁) X.xe s := by
  refine thn (ha pins s σ H _ I h) fun v s1 ⟨x, H1, I1, r1, q1⟩ => ?_
  refine thn (hb pins s1 σ H1 _ I1 q1) fun u s2 ⟨y, H2, I2, r2, q2⟩ => ?_
  exact hf v u s2 x y H2 I2 r1 r2 q2
theorem pe_op {op : Operator} {r : R2} (ho : OpR X (binaryOp op) r) (ha : PE X a ta) (hb : PE X b tb) : PE X (.BinOp a op b pos) (tOp r ta tb) := by
  intro pins s σ H Q I h
  exact wpAny_BinOp (binT ha hb I h fun v u s2 x y H2 I2 rx ry q => ho pins s2 σ H2 x y v u Q I2 rx ry q)
theorem opI {f : Value → Value → Sem Value} {C : Int → Int → Prop} {g : Int → Int → Int}
    (rule : ∀ (i j : Int) (t u : Tok) (s : Shared) (Q : Value → Shared → Prop) (E : Value → Shared → Prop), C i j → Q (.int (g i j) s.toks) { s with toks := s.toks + 1 } → wpAny (model X.prog X.w) X.A (f (.int i t) (.int j u)) Q E s) :
    OpR X f (rI C fun i j => .int (g i j)) := by
  intro pins s σ H x y v u Q I rx ry h
  obtain ⟨i, j, rfl, rfl, hc, q⟩ := h
  obtain ⟨t, rfl⟩ := rx
  obtain ⟨t', rfl⟩ := ry
  exact rule i j t t' s _ _ hc ⟨.int (g i j), H, I.tok _, ⟨_, rfl⟩, q⟩
theorem opI0 {f : Value → Value → Sem Value} {g : Int → Int → Int}
    (rule : ∀ (i j : Int) (t u : Tok) (s : Shared) (Q : Value → Shared → Prop) (E : Value → Shared → Prop), Q (.int (g i j) s.toks) { s with toks := s.toks + 1 } → wpAny (model X.prog X.w) X.A (f (.int i t) (.int j u)) Q E s) :
    OpR X f (rI0 fun i j => .int (g i j)) := by
  intro pins s σ H x y v u Q I rx ry h
  obtain ⟨i, j, rfl, rfl, q⟩ := h
  obtain ⟨t, rfl⟩ := rx
  obtain ⟨t', rfl⟩ := ry
  exact rule i j t t' s _ _ ⟨.int (g i j), H, I.tok _, ⟨_, rfl⟩, q⟩
theorem opB0 {f : Value → Value → Sem Value} {g : Int → Int → Bool}
    (rule : ∀ (i j : Int) (t u : Tok) (s : Shared) (Q : Value → Shared → Prop) (E : Value → Shared → Prop), Q (.bool (g i j)) s → wpAny (model X.prog X.w) X.A (f (.int i t) (.int j u)) Q E s) :
    OpR X f (rI0 fun i j => .bl (g i j)) := by
  intro pins s σ H x y v u Q I rx ry h
  obtain ⟨i, j, rfl, rfl, q⟩ := h
  obtain ⟨t, rfl⟩ := rx
  obtain ⟨t', rfl⟩ := ry
  exact rule i j t t' s _ _ ⟨.bl (g i j), H, I, rfl, q⟩
def CDiv (i j : Int) : Prop := 0 < j ∧ j < 1073741824
def CMul (i j : Int) : Prop := (-(2 ^ 64) < i ∧ i < 2 ^ 64) ∨ (-(2 ^ 64) < j ∧ j < 2 ^ 64)
theorem CMul.ok {i j : Int} (h : CMul i j) : IntMulOk i j := by
  rcases h with ⟨h1, h2⟩ | ⟨h1, h2⟩
  · exact .of_left (intBits_le_64 h1 h2)
  · exact .of_right (intBits_le_64 h1 h2)
theorem op_add : OpR X (binaryOp .Add) (rI0 fun i j => .int (i + j)) := opI0 fun _ _ _ _ _ _ _ q => add_int q
theorem op_mul : OpR X (binaryOp .Mult) (rI CMul fun i j => .int (i * j)) := opI fun _ _ _ _ _ _ _ hc q => mul_int q hc.ok
theorem op_fdiv : OpR X (binaryOp .FloorDiv) (rI CDiv fun i j => .int (i / j)) := opI fun i j _ _ _ _ _ hc q => by
  have h1 : (0 : Int) < j := hc.1
  have h2 : j < 1073741824 := hc.2
  exact floordiv_int (by omega) (by rw [Int.fdiv_eq_ediv_of_nonneg i (by omega)]; exact q) (.inl (PyProof.noPylong_small (by omega)))
theorem op_mod : OpR X (binaryOp .Mod) (rI (fun _ j => 0 < j) fun i j => .int (i % j)) := opI fun i j _ _ _ _ _ hc q => by
  have h1 : (0 : Int) < j := hc
  exact mod_int' (by omega) (by rw [Int.fmod_eq_emod_of_nonneg i (by omega)]; exact q)
end
def scal : V → V → Bool
  | .non, .non => true | .non, .int _ => true | .int _, .non => true | .non, .bl _ => true | .bl _, .non => true | .non, .str _ => true | .str _, .non => true
  | .int _, .int _ => true | .bl _, .bl _ => true | .str _, .str _ => true | .byt _, .byt _ => true
  | .int _, .str _ => true | .str _, .int _ => true | .bl _, .str _ => true | .str _, .bl _ => true
  | _, _ => false
def rEq : R2 := fun x y H Q => scal x y = true ∧ Q (.bl (decide (x = y))) H
def rNe : R2 := fun x y H Q => scal x y = true ∧ Q (.bl (!decide (x = y))) H
theorem dec_int {i j : Int} : decide (V.int i = V.int j) = (i == j) := by
  rw [Bool.eq_iff_iff]
  simp
theorem dec_bl {i j : Bool} : decide (V.bl i = V.bl j) = (i == j) := by
  rw [Bool.eq_iff_iff]
  simp
theorem dec_str {i j : Str} : decide (V.str i = V.str j) = (i == j) := by
  rw [Bool.eq_iff_iff]
  simp
theorem dec_byt {i j : Array UInt8} : decide (V.byt i = V.byt j) = (i.toList == j.toList) := by
  rw [Bool.eq_iff_iff]
  cases i
  cases j
  simp
section
variable {X : Cx} {a b c : Expr} {ta tb tc : TE} {pos : Pos}
theorem fin_bl {pins : List (Addr × Obj)} {σ : St} {H : Hp} {s : Shared} {Q : VK} {k k' : Bool} (I : Inv X pins σ H s) (q : Q (.bl k) H) (e : k = k') : EP X pins σ Q (.bool k') s := by
  subst e
  exact ⟨.bl k, H, I, rfl, q⟩
theorem op_eq : OpR X (compareOp .Eq) rEq := by
  intro pins s σ H x y v u Q I rx ry h
  obtain ⟨hs, q⟩ := h
  cases x with
  | non =>
    cases rx
    cases y with
    | non => cases ry; exact PySem.EqNone.eq_none_none (fin_bl I q (by simp))
    | bl j => cases ry; exact PySem.EqNone.eq_none_bool (fin_bl I q (by simp))
    | int j => obtain ⟨t', rfl⟩ := ry; exact PySem.EqNone.eq_none_int (fin_bl I q (by simp))
    | str j => obtain ⟨t', rfl⟩ := ry; exact PySem.EqNone.eq_none_str (fin_bl I q (by simp))
    | _ => exact absurd (show false = true from hs) Bool.false_ne_true
  | bl i =>
    cases rx
    cases y with
    | non => cases ry; exact PySem.EqNone.eq_bool_none (fin_bl I q (by simp))
    | bl j => cases ry; exact eq_bool (fin_bl I q dec_bl)
    | str j => obtain ⟨t', rfl⟩ := ry; exact PySem.EqMixed.eq_bool_str (fin_bl I q (by simp))
    | _ => exact absurd (show false = true from hs) Bool.false_ne_true
  | int i =>
    obtain ⟨t, rfl⟩ := rx
    cases y with
    | non => cases ry; exact PySem.EqNone.eq_int_none (fin_bl I q (by simp))
    | int j => obtain ⟨t', rfl⟩ := ry; exact eq_int (fin_bl I q dec_int)
    | str j => obtain ⟨t', rfl⟩ := ry; exact PySem.EqMixed.eq_int_str (fin_bl I q (by simp))
    | _ => exact absurd (show false = true from hs) Bool.false_ne_true
  | str i =>
    obtain ⟨t, rfl⟩ := rx
    cases y with
    | non => cases ry; exact PySem.EqNone.eq_str_none (fin_bl I q (by simp))
    | bl j => cases ry; exact PySem.EqMixed.eq_str_bool (fin_bl I q (by simp))
    | int j => obtain ⟨t', rfl⟩ := ry; exact PySem.EqMixed.eq_str_int (fin_bl I q (by simp))
    | str j => obtain ⟨t', rfl⟩ := ry; exact eq_str (fin_bl I q dec_str)
    | _ => exact absurd (show false = true from hs) Bool.false_ne_true
  | byt i =>
    obtain ⟨t, rfl⟩ := rx
    cases y with
    | byt j => obtain ⟨t', rfl⟩ := ry; exact PySem.W.eq_bytes (fin_bl I q dec_byt)
    | _ => exact absurd (show false = true from hs) Bool.false_ne_true
  | _ => cases y <;> exact absurd (show false = true from hs) Bool.false_ne_true
theorem op_ne : OpR X (compareOp .NotEq) rNe := by
  intro pins s σ H x y v u Q I rx ry h
  obtain ⟨hs, q⟩ := h
  cases x with
  | non =>
    cases rx
    cases y with
    | non => cases ry; exact PySem.EqNone.ne_none_none (fin_bl I q (by simp))
    | bl j => cases ry; exact PySem.EqNone.ne_none_bool (fin_bl I q (by simp))
    | int j => obtain ⟨t', rfl⟩ := ry; exact PySem.EqNone.ne_none_int (fin_bl I q (by simp))
    | str j => obtain ⟨t', rfl⟩ := ry; exact PySem.EqNone.ne_none_str (fin_bl I q (by simp))
    | _ => exact absurd (show false = true from hs) Bool.false_ne_true
  | bl i =>
    cases rx
    cases y with
    | non => cases ry; exact PySem.EqNone.ne_bool_none (fin_bl I q (by simp))
    | bl j => cases ry; exact ne_bool (fin_bl I q (congrArg not dec_bl))
    | str j => obtain ⟨t', rfl⟩ := ry; exact PySem.EqMixed.ne_bool_str (fin_bl I q (by simp))
    | _ => exact absurd (show false = true from hs) Bool.false_ne_true
  | int i =>
    obtain ⟨t, rfl⟩ := rx
    cases y with
    | non => cases ry; exact PySem.EqNone.ne_int_none (fin_bl I q (by simp))
    | int j => obtain ⟨t', rfl⟩ := ry; exact ne_int (fin_bl I q (congrArg not dec_int))
    | str j => obtain ⟨t', rfl⟩ := ry; exact PySem.EqMixed.ne_int_str (fin_bl I q (by simp))
    | _ => exact absurd (show false = true from hs) Bool.false_ne_true
  | str i =>
    obtain ⟨t, rfl⟩ := rx
    cases y with
    | non => cases ry; exact PySem.EqNone.ne_str_none (fin_bl I q (by simp))
    | bl j => cases ry; exact PySem.EqMixed.ne_str_bool (fin_bl I q (by simp))
    | int j => obtain ⟨t', rfl⟩ := ry; exact PySem.EqMixed.ne_str_int (fin_bl I q (by simp))
    | str j => obtain ⟨t', rfl⟩ := ry; exact ne_str (fin_bl I q (congrArg not dec_str))
    | _ => exact absurd (show false = true from hs) Bool.false_ne_true
  | byt i =>
    obtain ⟨t, rfl⟩ := rx
    cases y with
    | byt j => obtain ⟨t', rfl⟩ := ry; exact PySem.W.ne_bytes (fin_bl I q (congrArg not dec_byt))
    | _ => exact absurd (show false = true from hs) Bool.false_ne_true
  | _ => cases y <;> exact absurd (show false = true from hs) Bool.false_ne_true
theorem op_lt : OpR X (compareOp .Lt) (rI0 fun i j => .bl (decide (i < j))) := opB0 fun _ _ _ _ _ _ _ q => lt_int q
theorem op_lt_str : OpR X (compareOp .Lt) (fun x y H Q => ∃ i j, x = .str i ∧ y = .str j ∧ Q (.bl (decide (i.cps.toList < j.cps.toList))) H) := by
  intro pins s σ H x y v u Q I rx ry h
  obtain ⟨i, j, rfl, rfl, q⟩ := h
  obtain ⟨t, rfl⟩ := rx
  obtain ⟨t', rfl⟩ := ry
  exact lt_str (fin_bl I q rfl)
theorem nomark (b : Expr) {op : CmpOp} (h : op ≠ .In := by decide) (h2 : op ≠ .NotIn := by decide) : behindInMarks op b = false := by
  have e1 : (op == CmpOp.In) = false := by cases op <;> first | rfl | exact absurd rfl h
  have e2 : (op == CmpOp.NotIn) = false := by cases op <;> first | rfl | exact absurd rfl h2
  cases b <;> simp [behindInMarks, e1, e2]
theorem pe_cmpR {op : CmpOp} {r : R2} (ho : OpR X (compareOp op) r) (ha : PE X a ta) (hb : PE X b tb) (hm : behindInMarks op b = false) : PE X (.Compare a [op] [b] pos) (tOp r ta tb) := by
  intro pins s σ H Q I h
  exact wpAny_Compare1 (binT ha hb I h fun v u s2 x y H2 I2 rx ry q => ho pins s2 σ H2 x y v u Q I2 rx ry q) hm
def tTest (t : TE) : TT := fun σ H Q => t σ H fun x H' => ∃ k, x = .bl k ∧ Q k H'
theorem pt_cmpR {op : CmpOp} {r : R2} (ho : OpR X (compareOp op) r) (ha : PE X a ta) (hb : PE X b tb) (hm : behindInMarks op b = false) : PT X (.Compare a [op] [b] pos) (tTest (tOp r ta tb)) := by
  intro pins s σ H Q I h
  refine wpAny_isTrue_Compare1 (thn (ha pins s σ H _ I h) fun v s1 ⟨x, H1, I1, r1, q1⟩ => thn (hb pins s1 σ H1 _ I1 q1) fun u s2 ⟨y, H2, I2, r2, q2⟩ =>
    thn (ho pins s2 σ H2 x y v u _ I2 r1 r2 q2) fun c s3 ⟨z, H3, I3, r3, k, e, q3⟩ => ?_) hm
  subst e
  cases r3
  exact wpAny_truthy_bool ⟨H3, I3, q3⟩
def TruV (K : PySem.W.Frag) (x : V) (H : Hp) (k : Bool) : Prop :=
  match x with
  | .non => k = false
  | .bl b => k = b
  | .int i => k = (i != 0)
  | .str y => y.length ≤ sizeLine ∧ k = ((y.length : Int) != 0)
  | .byt y => y.size ≤ sizeLine ∧ k = ((y.size : Int) != 0)
  | .ref p => (∃ xs, SqL K H p xs ∧ k = !xs.isEmpty) ∨ (∃ xs, SqT K H p xs ∧ k = !xs.isEmpty) ∨ ∃ kvs, H p = some (.dK kvs) ∧ k = !kvs.isEmpty
  | _ => False
theorem isEmpty_kv {κ : Type} {kvs : List (κ × V)} {vs : List (κ × Value)} (r : KV kvs vs) : (!vs.isEmpty) = !kvs.isEmpty := by
  cases r <;> rfl
theorem isEmpty_of {xs : List V} {its : List Value} (r : Vals xs its) : (!its.toArray.isEmpty) = !xs.isEmpty := by
  cases r <;> simp
theorem line63 : (sizeLine : Nat) < 2 ^ 63 := by rw [sizeLine_eq]; decide
theorem tru_ok : TruR X (fun x H Q => ∃ k, TruV X.K x H k ∧ Q k H) := by
  intro pins s σ H x v Q I rx h
  obtain ⟨k, e, q⟩ := h
  have hl := line63
  have hs : sizeLine = 16777216 := sizeLine_eq
  cases x with
  | non =>
    cases rx
    have e' : k = false := e
    subst e'
    exact truthy_none ⟨H, I, q⟩
  | bl b =>
    cases rx
    have e' : k = b := e
    subst e'
    exact wpAny_truthy_bool ⟨H, I, q⟩
  | int i =>
    obtain ⟨t, rfl⟩ := rx
    have e' : k = (i != 0) := e
    subst e'
    exact PySem.P.truthy_int ⟨H, I, q⟩
  | str y =>
    obtain ⟨t, rfl⟩ := rx
    obtain ⟨hy, e'⟩ : y.length ≤ sizeLine ∧ k = ((y.length : Int) != 0) := e
    subst e'
    exact PySem.P.truthy_str (by omega) ⟨H, I.tok _, q⟩
  | byt y =>
    obtain ⟨t, rfl⟩ := rx
    obtain ⟨hy, e'⟩ : y.size ≤ sizeLine ∧ k = ((y.size : Int) != 0) := e
    subst e'
    exact PySem.W.truthy_bytes (by omega) ⟨H, I.tok _, q⟩
  | ref p =>
    cases rx
    have e' : (∃ xs, SqL X.K H p xs ∧ k = !xs.isEmpty) ∨ (∃ xs, SqT X.K H p xs ∧ k = !xs.isEmpty) ∨ ∃ kvs, H p = some (.dK kvs) ∧ k = !kvs.isEmpty := e
    rcases e' with ⟨xs, hx, e'⟩ | ⟨xs, hx, e'⟩ | ⟨kvs, hx, e'⟩
    · subst e'
      obtain ⟨its, r, pl, hz⟩ := I.list hx
      have hlen := r.length
      exact wpAny_truthy_list pl.isList (by simp only [List.size_toArray]; omega) ⟨H, I.tok _, by rw [isEmpty_of r]; exact q⟩
    · subst e'
      obtain ⟨its, r, pl, hz⟩ := I.tuple hx
      have hlen := r.length
      exact truthy_tuple pl (by simp only [List.size_toArray]; omega) ⟨H, I.tok _, by rw [isEmpty_of r]; exact q⟩
    · subst e'
      obtain ⟨hz, hS, vs, r, m⟩ : kvs.length ≤ sizeLine ∧ (p == sysModules) = false ∧ ∃ vs, KV kvs vs ∧ s.heap.DictOf (mixKind X.prog X.w) p vs := I.hok p _ hx
      have hlen : kvs.length = vs.length := Paired.length r
      exact wpAny_truthy_dict hS m (by omega) ⟨H, I.tok _, by rw [isEmpty_kv r]; exact q⟩
  | _ => exact (show False from e).elim
theorem pt_truth (ha : PE X a ta) (he : ∀ whole, isTrue a X.env whole = (do let v ← whole; standAt a.pos; holding [v] (truthy v))) :
    PT X a (fun σ H Q => ta σ H fun x H' => ∃ k, TruV X.K x H' k ∧ Q k H') := by
  intro pins s σ H Q I h
  exact isTrue_plain (thn (ha pins s σ H _ I h) fun v s1 ⟨x, H1, I1, r1, q1⟩ => tru_ok pins s1 σ H1 x v Q I1 r1 q1) (he _)
theorem vals1 {x : V} {us : List Value} (r : Vals [x] us) : ∃ u, us = [u] ∧ RelV x u := by
  cases r with
  | cons r1 r2 => cases r2; exact ⟨_, rfl, r1⟩
end
end L2
namespace L2
open PySem PySem.Spec PyProof.Rows
section
variable {prog : Program} {w : World} {A : Around} {E : Value → Shared → Prop} {s : Shared} {K : PySem.W.Frag} {x dx C f : Addr} {mA : Str → Option Value} {name : Str} {v : Value}
end
theorem RelO.some_of {v : V} {o : Option Value} (r : RelO (some v) o) : ∃ u, o = some u ∧ RelV v u := by
  cases o with
  | none => exact (show False from r).elim
  | some u => exact ⟨u, rfl, r⟩
section
variable {P : Program} {w : World} {H H' : Hp} {h h' : Heap} {a C dx : Addr} {fs fs' : List (Str × V)}
end
structure Cls (K : PySem.W.Frag) (C : Addr) : Prop where
  pg : PySem.W.plainGet K C Str.empty = true
  hd : PySem.W.hasDictIn K C = true
  po : PySem.W.plainOver K C = true
  sa : PySem.W.findIn K (.ref C) "__setattr__" = some (some (.builtin "object.__setattr__"))
theorem Cls.get {K : PySem.W.Frag} {C : Addr} (c : Cls K C) (f : Str) : PySem.W.plainGet K C f = true := c.pg
section
variable {X : Cx} {pins : List (Addr × Obj)} {σ : St} {H : Hp} {s : Shared} {a C dx : Addr} {fs : List (Str × V)} {f : Str} {v : V} {A : Around} {E : Value → Shared → Prop}
end
section
variable {X : Cx} {o e value : Expr} {f : Str} {pos pos' tpos : Pos} {ta tv : TE}
end
section
variable {X : Cx} {pins : List (Addr × Obj)} {σ : St} {H : Hp} {s : Shared} {A : Around} {E : Value → Shared → Prop} {Q : Value → Shared → Prop} {c : Value} {b : Bool}
end
end L2
namespace L2
open PySem PySem.Spec PyProof.Rows
structure Room (k : Nat) (A : Around) : Prop where
  hd : A.handled = none
  dp : A.depth + 3 * k + 5 < recursionLimit
  un : A.units + 16 * k + 200 < cLine
theorem Room.mono {j k : Nat} {A : Around} (r : Room k A) (h : j ≤ k) : Room j A := ⟨r.hd, by have := r.dp; omega, by have := r.un; omega⟩
theorem Room.deeper {k : Nat} {A : Around} (r : Room (k + 1) A) (env : Env) : Room k (A.deeper env) :=
  ⟨r.hd, by have := r.dp; show A.depth + 1 + 3 * k + 5 < _; omega, by have := r.un; show A.units + 3 + 16 * k + 200 < _; omega⟩
theorem Room.depth {k : Nat} {A : Around} (r : Room k A) : A.depth < recursionLimit := by have := r.dp; omega
theorem Room.units {k : Nat} {A : Around} (r : Room k A) : A.units + 64 < cLine := by have := r.un; omega
def tNil : TA := fun _ H Q => Q [] H
def tCons (ta : TE) (tr : TA) : TA := fun σ H Q => ta σ H fun x H1 => tr σ H1 fun xs H2 => Q (x :: xs) H2
section
variable {X : Cx} {e : Expr} {es : List Expr} {te : TE} {t : TA} {pos : Pos}
theorem pa_nil : PA X [] tNil := fun _ _ _ _ H Q I h => Calls.spliced_nil ⟨[], H, I, .nil, h⟩
theorem pa_cons (ha : PE X e te) (hr : PA X es t) (hs : starEach (e :: es) X.env = (false, eval e X.env) :: starEach es X.env := by rfl) : PA X (e :: es) (tCons te t) := by
  intro pos pins s σ H Q I h
  rw [hs]
  show wpAny _ _ (spliced ((false, eval e X.env) :: backTo pos (starEach es X.env))) _ _ s
  refine Calls.spliced_cons (thn (ha pins s σ H _ I h) fun u s1 ⟨x, H1, I1, r1, q1⟩ => ?_)
  exact thn (hr pos pins s1 σ H1 _ I1 q1) fun us s2 ⟨xs, H2, I2, r2, q2⟩ => ⟨x :: xs, H2, I2, .cons r1 r2, q2⟩
def tTup (t : TA) : TE := fun σ H Q => t σ H fun xs H1 => xs.length ≤ sizeLine ∧ ∀ p, H1 p = none → Q (.ref p) (upd H1 p (.tup xs))
def tLst (t : TA) : TE := fun σ H Q => t σ H fun xs H1 => xs.length ≤ sizeLine ∧ ∀ p, H1 p = none → Q (.ref p) (upd H1 p (.lst xs))
theorem pe_tup {x1} (h : PA X es t) : PE X (.Tuple es x1 pos) (tTup t) := by
  intro pins s σ H Q I hq
  refine wpAny_Tuple_spliced (thn (h pos pins s σ H _ I hq) fun us s1 ⟨xs, H1, I1, r, z, q⟩ => ⟨by rw [← r.length]; exact z, ?_⟩)
  have hf : H1 s1.heap.objs.size = none := I1.hok.fresh (Nat.le_refl _)
  refine ⟨.ref s1.heap.objs.size, upd H1 s1.heap.objs.size (.tup xs), I1.laid (t' := s1.toks) (fun b u e => Heap.get?_push_of_some _ e) (Nat.le_refl _) ?_, rfl, q _ hf⟩
  exact ⟨z, us, r, ⟨⟨_, Heap.get?_push_size _ rfl, rfl, _, rfl⟩, _, Heap.get?_push_size _ rfl, rfl⟩⟩
theorem pe_lst (h : PA X es t) : PE X (.List es pos) (tLst t) := by
  intro pins s σ H Q I hq
  refine wpAny_List_spliced (thn (h pos pins s σ H _ I hq) fun us s1 ⟨xs, H1, I1, r, z, q⟩ => ⟨by rw [← r.length]; exact z, ?_⟩)
  have hf : H1 s1.heap.objs.size = none := I1.hok.fresh (Nat.le_refl _)
  refine ⟨.ref s1.heap.objs.size, upd H1 s1.heap.objs.size (.lst xs), I1.laid (t' := s1.toks) (fun b u e => Heap.get?_push_of_some _ e) (Nat.le_refl _) ?_, rfl, q _ hf⟩
  exact ⟨z, us, 0, r, Heap.get?_push_size _ rfl⟩
end
abbrev Sp := List V → Hp → VK → XK → Prop
abbrev CXT := List Env → Hp → Shared → XK → Value → Shared → Prop
structure Env0 (P : Program) (w : World) (K : PySem.W.Frag) (mg : Str → Option Value) (base : Heap) (A : Around) (outer : List Env) (s : Shared) (H : Hp) : Prop where
  frames : A.frames = some outer
  mod : Mod K mg base
  bs : ∀ b o, base.get? b = some o → s.heap.get? b = some o ∧ H b = none
  bsz : base.objs.size ≤ s.heap.objs.size
  funs : s.heap.FunFrames base outer
  frf : ∀ b ∈ frs outer, H b = none
  hok : HOk P w H s.heap
  bare : AllBare s.gens
def CE (outer : List Env) (P : Program) (w : World) (H : Hp) (s : Shared) (Q : VK) (u : Value) (s' : Shared) : Prop :=
  ∃ v H', s'.os = s.os ∧ AllBare s'.gens ∧ Un (frs outer) [] H H' s.heap s'.heap ∧ HOk P w H' s'.heap ∧ RelV v u ∧ Q v H'
def CR (CX : CXT) (outer : List Env) (P : Program) (w : World) (H : Hp) (s : Shared) (Q : VK) (E : XK) (r : Result) (s' : Shared) : Prop :=
  match r with
  | .ok (.ret u) => CE outer P w H s Q u s'
  | .ok _ => False
  | .error e => CX outer H s E e s'
structure FnOk (P : Program) (w : World) (K : PySem.W.Frag) (mg : Str → Option Value) (base : Heap) (CX : CXT) (k : Nat) (f : Addr) (fd : FuncData) (ps : List Str) (sp : Sp) : Prop where
  len : ∀ vs H Q E, sp vs H Q E → vs.length = ps.length
  run : ∀ (A : Around) (outer : List Env) (s : Shared) (H : Hp) (args : Args) (us : List Value) (vs : List V) (Q : VK) (E : XK), Room k A → Env0 P w K mg base A outer s H → BindsTo s fd args (ps.zip us) → Vals vs us → sp vs H Q E →
    codeAny (model P w) A (.call (.ref f) args) (CR CX outer P w H s Q E) s
theorem FnOk.mono {P : Program} {w : World} {K : PySem.W.Frag} {mg : Str → Option Value} {base : Heap} {CX : CXT} {j k : Nat} {f : Addr} {fd : FuncData} {ps : List Str} {sp : Sp} (F : FnOk P w K mg base CX j f fd ps sp) (h : j ≤ k) :
    FnOk P w K mg base CX k f fd ps sp := ⟨F.len, fun A outer s H args us vs Q E hr => F.run A outer s H args us vs Q E (hr.mono h)⟩
theorem FnOk.imp {P : Program} {w : World} {K : PySem.W.Frag} {mg : Str → Option Value} {base : Heap} {CX : CXT} {k : Nat} {f : Addr} {fd : FuncData} {ps : List Str} {sp sp' : Sp} (F : FnOk P w K mg base CX k f fd ps sp)
    (h : ∀ vs H Q E, sp' vs H Q E → sp vs H Q E) : FnOk P w K mg base CX k f fd ps sp' :=
  ⟨fun vs H Q E q => F.len vs H Q E (h _ _ _ _ q), fun A outer s H args us vs Q E hr he hb hv hs => F.run A outer s H args us vs Q E hr he hb hv (h _ _ _ _ hs)⟩
section
variable {X : Cx} {pins : List (Addr × Obj)} {σ : St} {H : Hp} {s s' : Shared}
theorem Inv.env0 (I : Inv X pins σ H s) : Env0 X.prog X.w X.K X.mg X.base X.A X.stack s H :=
  ⟨I.ok.frames, I.ok.mod, I.bs, Nat.le_trans I.ok.bsz I.sz, I.stack, I.stkFree, I.hok, I.bare⟩
theorem Inv.after {Q : VK} {u : Value} (I : Inv X pins σ H s) (h : CE X.stack X.prog X.w H s Q u s') : EP X pins σ Q u s' := by
  obtain ⟨v, H', os, bare, un, hok, r, q⟩ := h
  obtain ⟨hh, g, d, t, os'⟩ := s'
  obtain rfl : os' = s.os := os
  exact ⟨v, H', I.call (h' := hh) (g' := g) (d' := d) (t' := t) (ch := []) un hok bare (fun b z => absurd z (by simp)), r, q⟩
end
def tCall (sp : Sp) (dvs : List V) (E : XK) (t : TA) : TE := fun σ H Q => t σ H fun vs H1 => sp (vs ++ dvs) H1 Q E
def Binds (K : PySem.W.Frag) (fd : FuncData) (ps : List Str) (ds : List Value) : Prop :=
  ∀ (s : Shared) (us : List Value), K.In s.heap → (us ++ ds).length = ps.length → BindsTo s fd ⟨us, []⟩ (ps.zip (us ++ ds))
theorem Binds.all {K : PySem.W.Frag} {fd : FuncData} {ps : List Str} (h : ∀ us : List Value, us.length = ps.length → bindArgs fd ⟨us, []⟩ = pure (ps.zip us)) : Binds K fd ps [] := fun s us _ hl => by
  rw [List.append_nil] at hl ⊢
  exact .of_eq (h us hl)
def Passes (CX : CXT) (X : Cx) (E : XK) : Prop := ∀ (pins : List (Addr × Obj)) (σ : St) (H : Hp) (s : Shared) (e : Value) (s' : Shared), Inv X pins σ H s → CX X.stack H s E e s' → X.xe e s'
section
variable {X : Cx} {CX : CXT} {k : Nat} {f C : Addr} {fd : FuncData} {ps : List Str} {sp : Sp} {dvs : List V} {ds : List Value} {E : XK} {x m : Str} {p pos apos : Pos} {e o : Expr} {es : List Expr} {ta : TE} {t : TA}
theorem run_fn {pins : List (Addr × Obj)} {σ : St} {H : Hp} {s : Shared} {Q : VK} {us : List Value} {vs : List V} (F : FnOk X.prog X.w X.K X.mg X.base CX k f fd ps sp) (hr : Room k X.A) (hb : Binds X.K fd ps ds) (hd : Vals dvs ds) (hx : Passes CX X E)
    (I : Inv X pins σ H s) (r : Vals vs us) (h : sp (vs ++ dvs) H Q E) : wpAny (model X.prog X.w) X.A (call (.ref f) us) (EP X pins σ Q) X.xe s := by
  have r2 : Vals (vs ++ dvs) (us ++ ds) := r.append hd
  have hl : (us ++ ds).length = ps.length := by rw [← r2.length]; exact F.len _ _ _ _ h
  refine wpAny_call (codeAny_mono (F.run X.A X.stack s H ⟨us, []⟩ (us ++ ds) (vs ++ dvs) Q E hr I.env0 (hb s us I.kIn hl) r2 h) fun r s' hq => ?_)
  cases r with
  | error e => exact hx pins σ H s e s' I hq
  | ok fl =>
    cases fl with
    | ret u => exact I.after hq
    | next => exact False.elim hq
    | brk => exact False.elim hq
    | cont => exact False.elim hq
theorem pe_call (F : FnOk X.prog X.w X.K X.mg X.base CX k f fd ps sp) (hr : Room k X.A) (hg : Gl X x) (hm : X.mg x = some (.ref f)) (hk : PySem.W.keepIn X.K (.ref f) = true) (hb : Binds X.K fd ps ds) (hd : Vals dvs ds) (hx : Passes CX X E)
    (ha : PA X (e :: es) t) (hdb : (x == ("__debug__" : Str)) = false := by decide) (he : starEach (e :: es) X.env = (false, eval e X.env) :: starEach es X.env := by rfl) (hpl : (backTo pos (starEach es X.env)).any (·.1) = false := by rfl) :
    PE X (.Call (.Name x p) (e :: es) [] pos) (tCall sp dvs E t) := by
  intro pins s σ H Q I h
  refine wpAny_Call_Name_kw (ld_glob I hg hm ?_ hdb)
  refine PySem.W.callWith_K (h₀ := X.base) I.ok.mod.kin hk (thn (ha pos pins s σ H _ I h) fun us s1 ⟨vs, H1, I1, r, q⟩ => ⟨I1.kIn, ?_⟩) he hpl
  exact run_fn F hr hb hd hx I1 r q
end
section
variable {X : Cx} {CX : CXT} {k : Nat} {f C : Addr} {fd : FuncData} {ps ks : List Str} {sp : Sp} {E : XK} {x m : Str} {p pos apos kpos : Pos} {e o : Expr} {es : List Expr} {kws : List Keyword} {te ta : TE} {t tk : TA} {nm : Option Str}
variable {g : List Value → List Value → List Value} {gV : List V → List V → List V}
end
structure FnScope (N P : List Str) (sc : Scope) : Prop where
  kind : sc.kind = .function
  co : sc.isCoroutine = false
  gen : sc.isGenerator = false
  nd : N.Nodup
  pre : N.take P.length = P
  par : ∀ x ∈ P, sc.names.lookup x = some .local ∨ sc.names.lookup x = some .cell
  nofree : ∀ y ∈ sc.names, y.2 ≠ .free
theorem bindL_out {kindOf : Str → Option NameKind} {x : Str} : ∀ {binds : List (Str × Value)} {m : Str → Option Value}, (∀ v, (x, v) ∉ binds) → bindL kindOf binds m x = m x
  | [], _, _ => rfl
  | (n, v) :: r, m, h => by
    unfold bindL
    rw [bindL_out fun w hw => h w (List.mem_cons_of_mem _ hw)]
    split
    · have : x ≠ n := by rintro rfl; exact h v List.mem_cons_self
      simp [this]
    · rfl
theorem bindC_out {kindOf : Str → Option NameKind} {x : Str} : ∀ {binds : List (Str × Value)} {m : Str → Option Value}, (∀ v, (x, v) ∉ binds) → bindC kindOf binds m x = m x
  | [], _, _ => rfl
  | (n, v) :: r, m, h => by
    unfold bindC
    rw [bindC_out fun w hw => h w (List.mem_cons_of_mem _ hw)]
    split
    · rfl
    · have : x ≠ n := by rintro rfl; exact h v List.mem_cons_self
      simp [this]
theorem bindL_get {kindOf : Str → Option NameKind} {x : Str} {v : Value} : ∀ {P : List Str} {vs : List Value} {i : Nat} {m : Str → Option Value}, P.Nodup → P[i]? = some x → vs[i]? = some v → kindOf x = some .local →
    bindL kindOf (P.zip vs) m x = some v
  | [], _, _, _, _, h, _, _ => by simp at h
  | _ :: _, [], _, _, _, _, h, _ => by simp at h
  | p :: P, w :: vs, 0, m, nd, h1, h2, hk => by
    simp at h1 h2; subst h1; subst h2
    show bindL kindOf ((p, w) :: P.zip vs) m p = _
    unfold bindL
    rw [bindL_out fun v hv => (List.nodup_cons.mp nd).1 (List.of_mem_zip hv).1, if_pos hk]
    simp
  | p :: P, w :: vs, i + 1, m, nd, h1, h2, hk => by
    show bindL kindOf ((p, w) :: P.zip vs) m x = _
    unfold bindL
    exact bindL_get (i := i) (List.nodup_cons.mp nd).2 (by simpa using h1) (by simpa using h2) hk
theorem bindC_get {kindOf : Str → Option NameKind} {x : Str} {v : Value} : ∀ {P : List Str} {vs : List Value} {i : Nat} {m : Str → Option Value}, P.Nodup → P[i]? = some x → vs[i]? = some v → kindOf x ≠ some .local →
    bindC kindOf (P.zip vs) m x = some v
  | [], _, _, _, _, h, _, _ => by simp at h
  | _ :: _, [], _, _, _, _, h, _ => by simp at h
  | p :: P, w :: vs, 0, m, nd, h1, h2, hk => by
    simp at h1 h2; subst h1; subst h2
    show bindC kindOf ((p, w) :: P.zip vs) m p = _
    unfold bindC
    rw [bindC_out fun v hv => (List.nodup_cons.mp nd).1 (List.of_mem_zip hv).1, if_neg hk]
    simp
  | p :: P, w :: vs, i + 1, m, nd, h1, h2, hk => by
    show bindC kindOf ((p, w) :: P.zip vs) m x = _
    unfold bindC
    exact bindC_get (i := i) (List.nodup_cons.mp nd).2 (by simpa using h1) (by simpa using h2) hk
def start (N : List Str) (vs : List V) : St := vs.map some ++ List.replicate (N.length - vs.length) none
def cxOf (CX : CXT) (P : Program) (w : World) (K : PySem.W.Frag) (mg : Str → Option Value) (base : Heap) (N : List Str) (qual : Str) (scope : Scope) (f : Addr) (cd : Value) (A : Around) (outer : List Env) (s : Shared) (H : Hp) (E : XK) : Cx where
  prog := P
  w := w
  K := K
  mg := mg
  base := base
  A := A.deeper (envOfC qual scope s.heap.objs.size f cd)
  N := N
  s₀ := s
  H₀ := H
  env := envOfC qual scope s.heap.objs.size f cd
  outer := outer
  stack := envOfC qual scope s.heap.objs.size f cd :: outer
  ex := []
  calm := true
  fn := fun _ => true
  pn := []
  xe := fun e s' => wpAny (model P w) (A.deeper (envOfC qual scope s.heap.objs.size f cd)) (leaving (envOfC qual scope s.heap.objs.size f cd) e) (fun _ s'' => CX outer H s E e s'') (fun e' s'' => CX outer H s E e' s'') s'
theorem cell_has {sc : Scope} {n : Nat} {x : Str} (h : sc.names.lookup x = some .cell) : ∃ c, (cellsFrom n sc.names []).lookup x = some c := by
  have q := PySem.W.cellsFrom_some sc.names n [] (.inl h)
  exact Option.isSome_iff_exists.mp q
theorem inv_start {CX : CXT} {P : Program} {w : World} {K : PySem.W.Frag} {mg : Str → Option Value} {base : Heap} {N ps : List Str} {qual : Str} {scope : Scope} {f : Addr} {cd : Value} {A : Around} {outer : List Env} {s s1 : Shared} {H : Hp} {E : XK} {us : List Value} {vs : List V}
    (S : FnScope N ps scope) (hd : A.handled = none) (e0 : Env0 P w K mg base A outer s H) (hl : vs.length = ps.length) (r : Vals vs us)
    (x : InCallC s s.heap.objs.size (bindL (envOfC qual scope s.heap.objs.size f cd).kindOf (ps.zip us) fun _ => none) (cellsFrom (s.heap.objs.size + 1) scope.names []) (bindC (envOfC qual scope s.heap.objs.size f cd).kindOf (ps.zip us) fun _ => none) s1) :
    Inv (cxOf CX P w K mg base N qual scope f cd A outer s H E) [] (start N vs) H s1 := by
  have hpl : ps.length ≤ N.length := by have := congrArg List.length S.pre; rw [List.length_take] at this; omega
  obtain ⟨h1, tk, rfl, hk⟩ := x.done
  have noA : ∀ b : Addr, b ∉ (cxOf CX P w K mg base N qual scope f cd A outer s H E).ex := fun b z => absurd (show b ∈ ([] : List Addr) from z) (by simp)
  refine ⟨⟨e0.mod, S.kind, rfl, rfl, Nat.le_refl _, fun y z c h1 h2 => ?_, fun y hy => ?_, fun y c _ h => ?_, fun _ => hd, Around.frames_deeper e0.frames, .inr ⟨rfl, rfl⟩, fun b z => absurd z (noA b), e0.bs, e0.bsz, fun b _ _ => noA b, fun b z => absurd z (noA b), e0.funs, e0.frf⟩,
    rfl, e0.bare, Un.kept hk, ⟨_, x.toInCall.ns, fun i y v h1 h2 h3 => ?_⟩, fun y c h => ⟨_, x.cell y c h⟩, e0.hok.fresh (Nat.le_refl _), fun y c h => ?_, fun p hp => absurd (show p ∈ ([] : List (Addr × Obj)) from hp) (by simp), e0.hok.kept hk, ?_⟩
  · exact name_of_addr x.apart (PySem.mem_of_lookup h1) (PySem.mem_of_lookup h2)
  · have hy : scope.names.lookup y = some .cell ∨ scope.names.lookup y = some .free := hy
    rcases hy with hy | hy
    · exact cell_has hy
    · exact absurd rfl (S.nofree _ (PySem.mem_of_lookup hy))
  · exact Nat.le_of_lt (x.above y c (PySem.mem_of_lookup h))
  · have hi : i < vs.length := by
      unfold start at h2
      by_cases hi : i < vs.length
      · exact hi
      · rw [List.getElem?_append_right (by simpa using hi)] at h2
        rw [List.getElem?_replicate] at h2
        split at h2 <;> cases h2
    have ha : vs[i]? = some v := by
      unfold start at h2
      rw [List.getElem?_append_left (by simpa using hi), List.getElem?_map] at h2
      cases e : vs[i]? with
      | none => rw [e] at h2; cases h2
      | some a => rw [e] at h2; cases h2; rfl
    obtain ⟨u, hu, rv⟩ := r.get ha
    have hp : ps[i]? = some y := by
      rw [← S.pre, List.getElem?_take_of_lt (by omega)]; exact h1
    have ndP : ps.Nodup := by rw [← S.pre]; exact S.nd.sublist (List.take_sublist _ _)
    refine ⟨u, rv, ?_⟩
    rcases S.par y (List.mem_of_getElem? hp) with k | k
    · exact .inl ⟨k, bindL_get ndP hp hu k⟩
    · obtain ⟨c, e⟩ := cell_has (n := s.heap.objs.size + 1) k
      refine .inr ⟨.inl k, c, e, ?_⟩
      have q := x.cell y c e
      rw [bindC_get ndP hp hu (by show scope.names.lookup y ≠ _; rw [k]; decide)] at q
      exact q
  · exact e0.hok.fresh (Nat.le_of_lt (x.above y c (PySem.mem_of_lookup h)))
  · unfold start
    show _ = N.length
    rw [List.length_append, List.length_map, List.length_replicate]
    omega
theorem fn_of {CX : CXT} {P : Program} {w : World} {K : PySem.W.Frag} {mg : Str → Option Value} {base : Heap} {k : Nat} {f : Addr} {name qual : Str} {params : Arguments} {body : List Stmt} {scope : Scope} {dV kV doc pm cdv ct oc : Value} {an od : Option Addr}
    {osl : Array (Option Value)} {N ps : List Str} {sp : Sp} (lk : K.lookup f = some ⟨oc, od, .func (PySem.W.fnOf name qual params body scope dV kV doc pm an cdv ct), osl⟩) (hcd : PySem.W.codeIn K cdv qual = true) (S : FnScope N ps scope)
    (len : ∀ vs H Q E, sp vs H Q E → vs.length = ps.length)
    (hbody : ∀ (A : Around) (outer : List Env) (s : Shared) (H : Hp) (vs : List V) (Q : VK) (E : XK), Room k (A.deeper (envOfC qual scope s.heap.objs.size f cdv)) → sp vs H Q E →
      ∃ t, PSs (cxOf CX P w K mg base N qual scope f cdv A outer s H E) body t ∧ t { nx := fun _ H' => Q .non H', rt := Q } (start N vs) H) :
    FnOk P w K mg base CX (k + 1) f (PySem.W.fnOf name qual params body scope dV kV doc pm an cdv ct) ps sp := by
  refine ⟨len, fun A outer s H args us vs Q E hr e0 hb r hsp => ?_⟩
  have hl := len _ _ _ _ hsp
  have KX : K.In s.heap := e0.mod.kin.keeps fun b o e => (e0.bs b o e).1
  have lim : s.heap.NoLimit := e0.mod.nolimit.keeps fun b o e => (e0.bs b o e).1
  have hkind : ∀ y ∈ ps.zip us, scope.names.lookup y.1 = some .local ∨ (scope.names.lookup y.1 = some .cell ∧ ((cellsFrom (s.heap.objs.size + 1) scope.names []).lookup y.1).isSome = true) := fun ⟨n, v⟩ hy => by
    rcases S.par n (List.of_mem_zip hy).1 with q | q
    · exact .inl q
    · exact .inr ⟨q, PySem.W.cellsFrom_some _ _ _ (.inl q)⟩
  refine codeAny_call_function hr.depth (KX _ _ lk) rfl S.co S.gen rfl (PySem.W.codeRec_of KX hcd) (hb _ _ _ _ ?_)
  refine wpAny_newFunctionEnv_cells S.kind hkind fun env he s1 x => ?_
  subst he
  refine ⟨lim.keeps x.toInCall.keep, codeAny_func ?_⟩
  obtain ⟨t, ht, hq⟩ := hbody A outer s H vs Q E (hr.deeper _) hsp
  have I : Inv (cxOf CX P w K mg base N qual scope f cdv A outer s H E) [] (start N vs) H s1 := inv_start S hr.hd e0 hl r x
  refine wpAny_mono (ht [] s1 (start N vs) H _ I hq) (fun fl s' hs => ?_) fun e s' hs => hs
  have fin : ∀ {σ' : St} {H' : Hp} {v : V} {u : Value}, Inv (cxOf CX P w K mg base N qual scope f cdv A outer s H E) [] σ' H' s' → RelV v u → Q v H' → CE outer P w H s Q u s' :=
    fun {σ' H' v u} J rv q => ⟨v, H', J.os, J.bare, J.base, J.hok, rv, q⟩
  cases fl with
  | ret u =>
    obtain ⟨v, σ', H', J, rv, q⟩ := hs
    exact fin J rv q
  | next =>
    obtain ⟨σ', H', J, q⟩ := hs
    exact fin (v := V.non) (u := Value.none) J rfl q
  | brk =>
    obtain ⟨_, _, _, q⟩ := hs
    exact False.elim q
  | cont =>
    obtain ⟨_, _, _, q⟩ := hs
    exact False.elim q
end L2
namespace L2
open PySem PySem.Spec PyProof.Rows
section
variable {X : Cx} {x : Str} {p pos : Pos} {e : Expr} {es : List Expr} {t : TA} {id T : String} {r : List V → Hp → VK → Prop}
def tCB (r : List V → Hp → VK → Prop) (t : TA) : TE := fun σ H Q => t σ H fun vs H1 => r vs H1 Q
theorem pe_callB (hc : CallR X (.builtin id) r) (hg : Gl X x) (hm : X.mg x = none) (hv : bootBuiltins x = some (.builtin id)) (ha : PA X (e :: es) t) (hn : x ≠ "__name__" := by decide) (hdb : (x == ("__debug__" : Str)) = false := by decide)
    (he : starEach (e :: es) X.env = (false, eval e X.env) :: starEach es X.env := by rfl) (hpl : (backTo pos (starEach es X.env)).any (·.1) = false := by rfl) : PE X (.Call (.Name x p) (e :: es) [] pos) (tCB r t) := by
  intro pins s σ H Q I h
  refine wpAny_Call_Name_kw (ld_blt I hg hm hv ?_ hn hdb)
  exact PyProof.Rows.callWith_builtin1 (thn (ha pos pins s σ H _ I h) fun us s1 ⟨vs, H1, I1, r1, q1⟩ => hc pins s1 σ H1 vs us Q I1 r1 q1) he hpl
theorem pe_callTy (hc : CallR X (.type T) r) (hg : Gl X x) (hm : X.mg x = none) (hv : bootBuiltins x = some (.type T)) (ha : PA X (e :: es) t) (hn : x ≠ "__name__" := by decide) (hdb : (x == ("__debug__" : Str)) = false := by decide)
    (he : starEach (e :: es) X.env = (false, eval e X.env) :: starEach es X.env := by rfl) (hpl : (backTo pos (starEach es X.env)).any (·.1) = false := by rfl) : PE X (.Call (.Name x p) (e :: es) [] pos) (tCB r t) := by
  intro pins s σ H Q I h
  refine wpAny_Call_Name_kw (ld_blt I hg hm hv ?_ hn hdb)
  exact PyProof.Rows.callWith_type1 (thn (ha pos pins s σ H _ I h) fun us s1 ⟨vs, H1, I1, r1, q1⟩ => hc pins s1 σ H1 vs us Q I1 r1 q1) he hpl
end
end L2
namespace HT
open PySem PyProof.Rows
section
open PySem.SeqAt
open PySem.AutoSeq1 (wpAny_loadPart')
open PySem.MeetsSeq PySem.MeetsSeq2 PySem.MeetsSeq3
end
section
variable {prog : Program} {w : World} {A : Around} {E : Value → Shared → Prop} {s : Shared}
theorem cat_tup {t b : Addr} {vs ws : List Value} {Q : Value → Shared → Prop} (ht : IsTup s.heap t vs.toArray) (hb : IsTup s.heap b ws.toArray) (hv : vs ≠ [])
    (h1 : ws = [] → Q (.ref t) s) (h2 : ws ≠ [] → Q (.ref s.heap.objs.size) { s with heap := s.heap.push { cls := .type "tuple", data := .seq (vs ++ ws).toArray } })
    (hsz : vs.length + ws.length ≤ sizeLine) : wpAny (model prog w) A (binaryOp .Add (.ref t) (.ref b)) Q E s := by
  obtain ⟨⟨cls, dd, data, sl⟩, ho, hc, n, hd⟩ := id ht
  obtain ⟨⟨cls2, dd2, data2, sl2⟩, ho2, hc2, n2, hd2⟩ := id hb
  simp only at hc hd hc2 hd2
  subst hc hd hc2 hd2
  have e : vs.toArray ++ ws.toArray = (vs ++ ws).toArray := by simp
  by_cases hw : ws = []
  · exact concat_meets ⟨_, ho, rfl⟩ ⟨_, ho2, rfl⟩ noFill_tuple_add seq_tuple_add PySem.F.slot_tuple_add PySem.F.entry_tuple_add (PySem.F.args_tuple_add_2 _ _)
      (tuple_addW1 t b vs.toArray ws.toArray n n2 dd dd2 sl sl2 (by simpa using hv) (by simp [hw])) ⟨ho, ho2, h1 hw⟩
  · refine concat_meets ⟨_, ho, rfl⟩ ⟨_, ho2, rfl⟩ noFill_tuple_add seq_tuple_add PySem.F.slot_tuple_add PySem.F.entry_tuple_add (PySem.F.args_tuple_add_2 _ _)
      (tuple_addW2 t b vs.toArray ws.toArray n n2 dd dd2 sl sl2 (by simpa using hv) (by simpa using hw) (by rw [List.size_toArray, List.size_toArray]; exact hsz)) ⟨ho, ho2, ?_⟩
    rw [e]
    exact h2 hw
def sIx (n d : Nat) : Option Int → Nat
  | none => d
  | some v => if v < 0 then (v + (n : Int)).toNat else min v.toNat n
theorem sIx_nat (n d k : Nat) : sIx n d (some (k : Int)) = min k n := by
  show (if (k : Int) < 0 then ((k : Int) + (n : Int)).toNat else min (k : Int).toNat n) = min k n
  rw [if_neg (by omega), Int.toNat_natCast]
theorem sIx_le (n d : Nat) (hd : d ≤ n) (o : Option Int) : sIx n d o ≤ n := by
  cases o with
  | none => exact hd
  | some v =>
    show (if v < 0 then (v + (n : Int)).toNat else min v.toNat n) ≤ n
    by_cases hv : v < 0
    · rw [if_pos hv]; omega
    · rw [if_neg hv]; exact Nat.min_le_right _ _
theorem clip_eq (v : Int) (n d : Nat) : (if v < 0 then max (v + (n : Int)) 0 else min v (n : Int)) = ((sIx n d (some v) : Nat) : Int) := by
  show (if v < 0 then max (v + (n : Int)) 0 else min v (n : Int)) = (((if v < 0 then (v + (n : Int)).toNat else min v.toNat n) : Nat) : Int)
  by_cases hv : v < 0
  · simp only [if_pos hv]; omega
  · simp only [if_neg hv]; omega
theorem adjust_gen (lo hi : Option Int) (n : Nat) : Builtin.Slice.sliceAdjust lo hi 1 (n : Int) = (((sIx n 0 lo : Nat) : Int), ((sIx n n hi : Nat) : Int)) := by
  have h1 : ¬ ((1 : Int) < 0) := by omega
  unfold Builtin.Slice.sliceAdjust
  simp only [h1, if_false]
  refine Prod.ext ?_ ?_
  · cases lo with
    | none => rfl
    | some v => exact clip_eq v n 0
  · cases hi with
    | none => rfl
    | some v => exact clip_eq v n n
theorem places_gen (i j : Nat) : Builtin.Slice.slicePlaces (i : Int) (j : Int) 1 = j - i := by
  unfold Builtin.Slice.slicePlaces
  have h1 : (1 : Int) > 0 := by omega
  simp only [h1, if_true, Int.ediv_one]
  split <;> omega
theorem slicePart_ {v : Value} {o : Option Int} {Q : Option Int → Shared → Prop} (p : IsPart v o) (h : Q o s) : wpAny (model prog w) A (Builtin.Slice.slicePartIndex v) Q E s := by
  cases p with
  | none => exact slicePart_none h
  | int i t => exact slicePart_int h
theorem sliceApplied_gen {sl : Addr} {vl vu : Value} {lo hi : Option Int} {n : Nat} {Q : Int × Int × Nat → Shared → Prop} (hs : s.heap.IsSliceOf sl vl vu .none) (pl : IsPart vl lo) (pu : IsPart vu hi)
    (h : Q (((sIx n 0 lo : Nat) : Int), 1, sIx n n hi - sIx n 0 lo) s) : wpAny (model prog w) A (Builtin.Slice.sliceApplied (.ref sl) (pure (n : Int))) Q E s := by
  obtain ⟨os, hos, hcs, hds⟩ := id hs
  unfold Builtin.Slice.sliceApplied Builtin.Slice.sliceFields
  refine wpAny_bind (wpAny_bind (wpAny_field hos hds (x := vl) rfl (wpAny_bind (wpAny_field hos hds (x := vu) rfl (wpAny_bind (wpAny_field hos hds (x := .none) rfl (wpAny_pure ?_)))))))
  refine wpAny_bind (slicePart_none ?_)
  show wpAny _ _ (if ((1 : Int) == 0) = true then _ else _) _ _ s
  rw [if_neg (by decide)]
  refine wpAny_bind (slicePart_ pl (wpAny_bind (slicePart_ pu (wpAny_bind (wpAny_pure ?_)))))
  show wpAny _ _ (match Builtin.Slice.sliceAdjust lo hi 1 (n : Int) with | (lo, hi) => pure (lo, (1 : Int), Builtin.Slice.slicePlaces lo hi 1)) _ _ s
  rw [adjust_gen lo hi n]
  show wpAny _ _ (pure (((sIx n 0 lo : Nat) : Int), (1 : Int), Builtin.Slice.slicePlaces ((sIx n 0 lo : Nat) : Int) ((sIx n n hi : Nat) : Int) 1)) _ _ s
  rw [places_gen]
  exact wpAny_pure h
theorem pick_gen (xs : Array Value) (i k : Nat) : ((List.range k).filterMap fun (m : Nat) => xs[((i : Int) + (m : Int) * 1).toNat]?).toArray = ((xs.toList.drop i).take k).toArray := by
  have e : (fun (m : Nat) => xs[((i : Int) + (m : Int) * 1).toNat]?) = fun m => xs[i + m]? := by
    funext m
    have : ((i : Int) + (m : Int) * 1).toNat = i + m := by omega
    rw [this]
  rw [e]
  have := pick_run xs i k
  rw [List.filterMap_map] at this
  have e2 : ((fun x => xs[x]?) ∘ fun x => i + x) = fun m => xs[i + m]? := rfl
  rw [e2] at this
  rw [this]
theorem getItem_tuple_cut {t sl : Addr} {items : Array Value} {vl vu : Value} {lo hi : Option Int} {Q : Value → Shared → Prop} (ht : IsTup s.heap t items) (hs : s.heap.IsSliceOf sl vl vu .none) (pl : IsPart vl lo) (pu : IsPart vu hi)
    (hw : ¬ (sIx items.size 0 lo = 0 ∧ sIx items.size items.size hi = items.size))
    (h : Q (.ref s.heap.objs.size) { s with heap := s.heap.push { cls := .type "tuple", data := .seq ((items.toList.drop (sIx items.size 0 lo)).take (sIx items.size items.size hi - sIx items.size 0 lo)).toArray } })
    (hsz : items.size ≤ sizeLine) : wpAny (model prog w) A (getItem (.ref t) (.ref sl)) Q E s := by
  have htake : sizeOk (.seq ((items.toList.drop (sIx items.size 0 lo)).take (sIx items.size items.size hi - sIx items.size 0 lo)).toArray) := by
    show ((items.toList.drop (sIx items.size 0 lo)).take (sIx items.size items.size hi - sIx items.size 0 lo)).toArray.size ≤ sizeLine
    rw [List.size_toArray, List.length_take, List.length_drop, Array.length_toList]
    omega
  have hj : sIx items.size items.size hi ≤ items.size := sIx_le _ _ (Nat.le_refl _) hi
  obtain ⟨os, hos, hcs, hds⟩ := id hs
  have hTs : s.TypeIs (.ref sl) "slice" := ⟨os, hos, hcs⟩
  unfold getItem
  try with_reducible refine wpAny_holding ?_
  first | refine wpAny_bind (wpAny_pure ?_) | skip
  refine wpAny_bind (wpAny_sequenceKey ht.typeIs (by decide) ?_)
  refine wpAny_bind (wpAny_callSpecial?_slot (name := Str.ofString "__getitem__") ht.typeIs PyProof.Rows.slot_tuple_getitem
    (wpAny_call_entry PyProof.Rows.slot_tuple_getitem ht.typeIs entry_tuple_getitem ?_ (args_tuple_getitem _ _)))
  show wpAny _ _ (Builtin.Tuple.tupleItemsOf (.ref t) >>= _) _ _ s
  refine wpAny_bind (tupleItemsOf_ ht ?_)
  refine wpAny_bind (wpAny_typeOf hTs ?_)
  rw [if_pos (by decide)]
  refine wpAny_bind (sliceApplied_gen hs pl pu ?_)
  have hno : ¬ ((((sIx items.size 0 lo : Nat) : Int) == 0 && (1 : Int) == 1 && (sIx items.size items.size hi - sIx items.size 0 lo) == items.size) = true) := by
    intro q
    rw [Bool.and_eq_true, Bool.and_eq_true] at q
    have q1 : ((sIx items.size 0 lo : Nat) : Int) = 0 := eq_of_beq q.1.1
    have q2 : sIx items.size items.size hi - sIx items.size 0 lo = items.size := eq_of_beq q.2
    exact hw ⟨by omega, by omega⟩
  show wpAny _ _ (if (((sIx items.size 0 lo : Nat) : Int) == 0 && (1 : Int) == 1 && (sIx items.size items.size hi - sIx items.size 0 lo) == items.size) = true then _ else _) _ _ s
  rw [if_neg hno, pick_gen]
  first
    | exact wpAny_bind (m := Builtin.Tuple.tupleExact _) (wpAny_newObj_type (wpAny_pure ⟨_, rfl, wpAny_pure h⟩) htake)
    | exact wpAny_bind (m := Builtin.Tuple.tupleExact _) (wpAny_newObj_type (wpAny_bind (wpAny_pure (wpAny_pure ⟨_, rfl, wpAny_pure h⟩))) htake)
    | exact wpAny_bind (wpAny_bind (m := Builtin.Tuple.tupleExact _) (wpAny_newObj_type (wpAny_pure (wpAny_pure ⟨_, rfl, wpAny_pure h⟩)) htake))
    | exact wpAny_bind (wpAny_bind (m := Builtin.Tuple.tupleExact _) (wpAny_newObj_type (wpAny_pure ⟨_, rfl, wpAny_pure h⟩) htake))
end
end HT
namespace L2
open PySem PySem.Spec PyProof.Rows
abbrev TO := St → Hp → (Option Int → Hp → Prop) → Prop
def PO (X : Cx) (e : Option Expr) (t : TO) : Prop :=
  ∀ (pins : List (Addr × Obj)) (s : Shared) (σ : St) (H : Hp) (Q : Option Int → Hp → Prop), Inv X pins σ H s → t σ H Q →
    wpAny (model X.prog X.w) X.A (evalPart e X.env) (fun u s' => ∃ o H', Inv X pins σ H' s' ∧ IsPart u o ∧ Q o H') X.xe s
def tNoPart : TO := fun _ H Q => Q none H
def tPart (t : TE) : TO := fun σ H Q => t σ H fun x H1 => ∃ i, x = .int i ∧ Q (some i) H1
section
variable {X : Cx} {e : Expr} {te : TE} {lo hi : Option Expr} {tl th : TO} {pos p2 : Pos}
theorem po_none : PO X none tNoPart := by
  intro pins s σ H Q I h
  rw [evalPart_none]
  exact wpAny_pure ⟨none, H, I, .none, h⟩
theorem po_some (h : PE X e te) : PO X (some e) (tPart te) := by
  intro pins s σ H Q I hw
  rw [evalPart_some]
  refine thn (h pins s σ H _ I hw) fun u s1 ⟨x, H1, I1, r1, q1⟩ => ?_
  obtain ⟨i, rfl, q⟩ := q1
  obtain ⟨t, rfl⟩ := r1
  exact ⟨some i, H1, I1, .int i t, q⟩
def SlR (X : Cx) (r : V → Option Int → Option Int → Hp → VK → Prop) : Prop :=
  ∀ (pins : List (Addr × Obj)) (s : Shared) (σ : St) (H : Hp) (x : V) (v vl vu : Value) (lo hi : Option Int) (sl : Addr) (Q : VK), Inv X pins σ H s → RelV x v → s.heap.IsSliceOf sl vl vu .none → IsPart vl lo → IsPart vu hi → r x lo hi H Q →
    ∃ T id, typeLookup (.type T) "__getitem__" = pure (some (.builtin id)) ∧ s.TypeIs v T ∧ wpAny (model X.prog X.w) X.A (getItem v (.ref sl)) (EP X pins σ Q) X.xe s
def tSl (r : V → Option Int → Option Int → Hp → VK → Prop) (te : TE) (tl th : TO) : TE := fun σ H Q => te σ H fun x H1 => tl σ H1 fun l H2 => th σ H2 fun u H3 => r x l u H3 Q
theorem pe_slice {r : V → Option Int → Option Int → Hp → VK → Prop} (hr : SlR X r) (he : PE X e te) (hl : PO X lo tl) (hu : PO X hi th) : PE X (.Subscript e (.Slice lo hi none p2) pos) (tSl r te tl th) := by
  intro pins s σ H Q I h
  refine Subscript_ (thn (he pins s σ H _ I h) fun v s1 ⟨x, H1, I1, r1, q1⟩ => ?_)
  refine wpAny_Slice (thn (hl pins s1 σ H1 _ I1 q1) fun vl s2 ⟨l, H2, I2, pl, q2⟩ => thn (hu pins s2 σ H2 _ I2 q2) fun vu s3 ⟨u, H3, I3, pu, q3⟩ => ?_)
  rw [evalPart_none]
  refine wpAny_pure ?_
  have I4 : Inv X pins σ H3 { s3 with heap := s3.heap.push { cls := .type "slice", data := .fields #[vl, vu, .none] } } := I3.kept (t' := s3.toks) fun b ob q => Heap.get?_push_of_some _ q
  obtain ⟨T, id, hT, ht, hg⟩ := hr pins { s3 with heap := s3.heap.push { cls := .type "slice", data := .fields #[vl, vu, .none] } } σ H3 x v vl vu l u s3.heap.objs.size Q I4 r1 (Heap.IsSliceOf.new ..) pl pu q3
  show wpAny (model X.prog X.w) X.A (subscriptTail e (.Slice lo hi none p2) v (.ref s3.heap.objs.size)) (EP X pins σ Q) X.xe { s3 with heap := s3.heap.push { cls := .type "slice", data := .fields #[vl, vu, .none] } }
  exact tail_any (ops := [.ref s3.heap.objs.size, v]) ht hT hg (by with_unfolding_all rfl)
def cutV (xs : List V) (lo hi : Option Int) : List V := (xs.drop (HT.sIx xs.length 0 lo)).take (HT.sIx xs.length xs.length hi - HT.sIx xs.length 0 lo)
theorem cutV_length (xs : List V) (lo hi : Option Int) : (cutV xs lo hi).length ≤ xs.length := by
  unfold cutV
  rw [List.length_take, List.length_drop]
  omega
def rSlT (K : PySem.W.Frag) : V → Option Int → Option Int → Hp → VK → Prop := fun x lo hi H Q => ∃ a xs, x = .ref a ∧ SqT K H a xs ∧
  ¬ (HT.sIx xs.length 0 lo = 0 ∧ HT.sIx xs.length xs.length hi = xs.length) ∧ ∀ p, H p = none → Q (.ref p) (upd H p (.tup (cutV xs lo hi)))
theorem sl_tup : SlR X (rSlT X.K) := by
  intro pins s σ H x v vl vu lo hi sl Q I rx hs pl pu h
  obtain ⟨a, xs, rfl, hx, hw, q⟩ := h
  cases rx
  obtain ⟨its, r, ht, hz⟩ := I.tuple hx
  have hlen : its.toArray.size = xs.length := by rw [List.size_toArray]; exact r.length.symm
  refine ⟨"tuple", _, PyProof.Rows.slot_tuple_getitem.lookup, ht.typeIs, ?_⟩
  refine HT.getItem_tuple_cut ht hs pl pu (by rw [hlen]; exact hw) ?_ (by rw [hlen]; exact hz)
  rw [hlen]
  refine ⟨.ref s.heap.objs.size, _, I.laid (t' := s.toks) (o := .tup (cutV xs lo hi)) (fun b ob q => Heap.get?_push_of_some _ q) (Nat.le_refl _) ?_, rfl, q _ (I.hok.fresh (Nat.le_refl _))⟩
  exact ⟨Nat.le_trans (cutV_length xs lo hi) hz, _, (r.drop (HT.sIx xs.length 0 lo)).take (HT.sIx xs.length xs.length hi - HT.sIx xs.length 0 lo), IsTupN.new _ _⟩
def rCatT (K : PySem.W.Frag) : R2 := fun x y H Q => ∃ a b xs ys, x = .ref a ∧ y = .ref b ∧ SqT K H a xs ∧ SqT K H b ys ∧ xs ≠ [] ∧ xs.length + ys.length ≤ sizeLine ∧
  (ys = [] → Q (.ref a) H) ∧ (ys ≠ [] → ∀ p, H p = none → Q (.ref p) (upd H p (.tup (xs ++ ys))))
theorem Vals.nil_iff {xs : List V} {us : List Value} (r : Vals xs us) : us = [] ↔ xs = [] := by
  cases r with
  | nil => simp
  | cons _ _ => simp
theorem op_catT : OpR X (binaryOp .Add) (rCatT X.K) := by
  intro pins s σ H x y v u Q I rx ry h
  obtain ⟨a, b, xs, ys, rfl, rfl, ha, hb, hx, hz, q1, q2⟩ := h
  cases rx
  cases ry
  obtain ⟨its, r1, p1, _⟩ := I.tuple ha
  obtain ⟨its2, r2, p2, _⟩ := I.tuple hb
  refine HT.cat_tup p1 p2 (fun z => hx (r1.nil_iff.mp z)) (fun z => ⟨.ref a, H, I, rfl, q1 (r2.nil_iff.mp z)⟩) (fun z => ?_) (by rw [← r1.length, ← r2.length]; exact hz)
  refine ⟨.ref s.heap.objs.size, _, I.laid (t' := s.toks) (o := .tup (xs ++ ys)) (fun b ob q => Heap.get?_push_of_some _ q) (Nat.le_refl _) ?_, rfl, q2 (fun w => z (r2.nil_iff.mpr w)) _ (I.hok.fresh (Nat.le_refl _))⟩
  exact ⟨by rw [List.length_append]; exact hz, _, r1.append r2, IsTupN.new _ _⟩
end
end L2
namespace L2
open PySem PySem.Spec PyProof.Rows
def ixN (n : Nat) (i : Int) : Option Nat := if 0 ≤ i then (if i < n then some i.toNat else none) else if -(n : Int) ≤ i then some (i + n).toNat else none
def atI {α : Type} (xs : List α) (i : Int) : Option α := (ixN xs.length i).bind fun j => xs[j]?
theorem ixN_seq {n : Nat} {i : Int} {j : Nat} (h : ixN n i = some j) : seqIndex? i n = some j ∧ j < n ∧ -(n : Int) ≤ i ∧ i < n := by
  unfold ixN at h
  by_cases h0 : 0 ≤ i
  · rw [if_pos h0] at h
    by_cases h1 : i < n
    · rw [if_pos h1] at h
      have e : i.toNat = j := Option.some.inj h
      exact ⟨by rw [seqIndex_of h0 h1, e], by omega, by omega, h1⟩
    · rw [if_neg h1] at h; cases h
  · rw [if_neg h0] at h
    by_cases h1 : -(n : Int) ≤ i
    · rw [if_pos h1] at h
      have e : (i + n).toNat = j := Option.some.inj h
      exact ⟨by rw [seqIndex_neg (by omega) h1, e], by omega, h1, by omega⟩
    · rw [if_neg h1] at h; cases h
theorem atI_get {α : Type} {xs : List α} {i : Int} {v : α} (h : atI xs i = some v) : ∃ j, seqIndex? i xs.length = some j ∧ xs[j]? = some v ∧ j < xs.length ∧ -(xs.length : Int) ≤ i ∧ i < xs.length := by
  unfold atI at h
  cases e : ixN xs.length i with
  | none => rw [e] at h; cases h
  | some j =>
    rw [e] at h
    obtain ⟨h1, h2, h3, h4⟩ := ixN_seq e
    exact ⟨j, h1, h, h2, h3, h4⟩
theorem atI_nat {α : Type} {xs : List α} {j : Nat} {v : α} (h : xs[j]? = some v) : atI xs (j : Int) = some v := by
  have hj : j < xs.length := (List.getElem?_eq_some_iff.mp h).1
  have e : ixN xs.length (j : Int) = some j := by
    unfold ixN
    rw [if_pos (by omega), if_pos (by omega)]; simp
  unfold atI; rw [e]; exact h
def PlainIx (b : Expr) : Prop := ∀ o i, subscripted b false o i = operate [o, i] (getItem o i)
def IxR (X : Cx) (r : R2) : Prop :=
  ∀ (value slice : Expr) (pins : List (Addr × Obj)) (s : Shared) (σ : St) (H : Hp) (x y : V) (v u : Value) (Q : VK), Inv X pins σ H s → RelV x v → RelV y u → r x y H Q →
    subscripted slice false v u = operate [v, u] (getItem v u) → wpAny (model X.prog X.w) X.A (subscriptTail value slice v u) (EP X pins σ Q) X.xe s
def MtR (X : Cx) (id : String) (r : V → List V → Hp → VK → Prop) : Prop :=
  ∀ (pins : List (Addr × Obj)) (s : Shared) (σ : St) (H : Hp) (x : V) (xs : List V) (v : Value) (us : List Value) (Q : VK), Inv X pins σ H s → RelV x v → Vals xs us → r x xs H Q →
    wpAny (model X.prog X.w) X.A (call (.builtin id) (v :: us)) (EP X pins σ Q) X.xe s
section
variable {X : Cx} {a b : Expr} {ta tb : TE} {pos : Pos}
theorem IxR.or {r r' : R2} (h : IxR X r) (h' : IxR X r') : IxR X (fun x y H Q => r x y H Q ∨ r' x y H Q) := by
  intro value slice pins s σ H x y v u Q I rx ry q hs
  rcases q with q | q
  · exact h value slice pins s σ H x y v u Q I rx ry q hs
  · exact h' value slice pins s σ H x y v u Q I rx ry q hs
theorem pe_ix {r : R2} (hr : IxR X r) (ha : PE X a ta) (hb : PE X b tb) (hs : PlainIx b) : PE X (.Subscript a b pos) (tOp r ta tb) := by
  intro pins s σ H Q I h
  exact Subscript_ (binT ha hb I h fun v u s2 x y H2 I2 rx ry q => hr a b pins s2 σ H2 x y v u Q I2 rx ry q (hs _ _))
def rIxL (K : PySem.W.Frag) : R2 := fun x y H Q => ∃ p xs i v, x = .ref p ∧ y = .int i ∧ SqL K H p xs ∧ atI xs i = some v ∧ Q v H
def rIxT (K : PySem.W.Frag) : R2 := fun x y H Q => ∃ p xs i v, x = .ref p ∧ y = .int i ∧ SqT K H p xs ∧ atI xs i = some v ∧ Q v H
def rIxS : R2 := fun x y H Q => ∃ z i c, x = .str z ∧ y = .int i ∧ z.length ≤ sizeLine ∧ atI z.cps.toList i = some c ∧ Q (.str ⟨#[c]⟩) H
theorem ix_list : IxR X (rIxL X.K) := by
  intro value slice pins s σ H x y v u Q I rx ry h hs
  obtain ⟨p, xs, i, z, rfl, rfl, hq, he, q⟩ := h
  cases rx
  obtain ⟨t, rfl⟩ := ry
  obtain ⟨its, r, pl, hz⟩ := I.list hq
  obtain ⟨j, h1, h2, h3, h4, h5⟩ := atI_get he
  obtain ⟨w, ew, rw'⟩ := r.get h2
  have hl := r.length
  have hn := line63
  have fin : EP X pins σ Q w s := ⟨z, H, I, rw', q⟩
  by_cases h0 : 0 ≤ i
  · have hj : i.toNat = j := by
      rw [seqIndex_of h0 h5] at h1
      exact Option.some.inj h1
    exact item_listR pl.isList h0 (by omega) (by rw [hj]; simpa using ew) fin hs
  · have hj : (i + (its.toArray.size : Int)).toNat = j := by
      rw [seqIndex_neg (by omega) h4] at h1
      rw [List.size_toArray, ← hl]
      exact Option.some.inj h1
    exact subscriptTail_builtinR (x := w) pl.isList.typeIs slot_list_getitem.lookup
      (wpAny_getItem_list_neg (Q := fun r s' => r = w ∧ EP X pins σ Q r s') pl.isList (by omega) (by rw [List.size_toArray] <;> omega) (by omega) (by rw [hj]; simpa using ew) ⟨rfl, fin⟩) hs
theorem ix_tup : IxR X (rIxT X.K) := by
  intro value slice pins s σ H x y v u Q I rx ry h hs
  obtain ⟨p, xs, i, z, rfl, rfl, hq, he, q⟩ := h
  cases rx
  obtain ⟨t, rfl⟩ := ry
  obtain ⟨its, r, pl, hz⟩ := I.tuple hq
  obtain ⟨j, h1, h2, h3, h4, h5⟩ := atI_get he
  obtain ⟨w, ew, rw'⟩ := r.get h2
  have hl := r.length
  have hn := line63
  have fin : EP X pins σ Q w s := ⟨z, H, I, rw', q⟩
  exact subscriptTail_builtinR (x := w) pl.typeIs slot_tuple_getitem.lookup
    (getItem_tuple (j := j) (Q := fun r s' => r = w ∧ EP X pins σ Q r s') pl (by omega) (by omega) (by rw [List.size_toArray, ← hl]; exact h1) (by simpa using ew) ⟨rfl, fin⟩) hs
theorem ix_str : IxR X rIxS := by
  intro value slice pins s σ H x y v u Q I rx ry h hs
  obtain ⟨z, i, c, rfl, rfl, hz, he, q⟩ := h
  obtain ⟨t, rfl⟩ := rx
  obtain ⟨t', rfl⟩ := ry
  obtain ⟨j, h1, h2, h3, h4, h5⟩ := atI_get he
  have hl : z.cps.toList.length = z.length := by simp [Str.length]
  rw [hl] at h1 h4 h5
  have hn := line63
  exact tail_any (typeIs_str s z t) slot_str_getitem.lookup (getItem_str (c := c) (by
    have e1 : decide (i < -(2 ^ 63 : Int)) = false := decide_eq_false (by omega)
    have e2 : decide (i ≥ 2 ^ 63) = false := decide_eq_false (by omega)
    rw [e1, e2, Bool.or_false]) (by rw [h1]; simpa using h2) ⟨.str ⟨#[c]⟩, H, I.tok _, ⟨_, rfl⟩, q⟩) hs
def rIx (K : PySem.W.Frag) : R2 := fun x y H Q => rIxL K x y H Q ∨ rIxT K x y H Q ∨ rIxS x y H Q
theorem ix_seq : IxR X (rIx X.K) := ix_list.or (ix_tup.or ix_str)
theorem Inv.lst {pins : List (Addr × Obj)} {σ : St} {H : Hp} {s : Shared} {p : Addr} {xs : List V} (I : Inv X pins σ H s) (h : H p = some (.lst xs)) :
    ∃ (its : List Value) (n : Nat), Vals xs its ∧ s.heap.get? p = some { cls := .type "list", data := .seq its.toArray n } ∧ xs.length ≤ sizeLine := by
  obtain ⟨z, its, n, r, e⟩ := I.hok p _ h
  exact ⟨its, n, r, e, z⟩
theorem slice_bounds (lo hi : Option Int) (n : Nat) : (sliceBounds lo hi none n).1 = ((HT.sIx n 0 lo : Nat) : Int) ∧ (sliceBounds lo hi none n).2.1 = ((HT.sIx n n hi : Nat) : Int) ∧ (sliceBounds lo hi none n).2.2 = 1 := by
  refine ⟨?_, ?_, rfl⟩
  · cases lo with
    | none => simp [sliceBounds, HT.sIx]
    | some i =>
      simp only [sliceBounds, HT.sIx, Option.getD_none, show (1 : Int) > 0 by decide, if_true]
      by_cases h : i < 0
      · simp only [h, if_true] <;> omega
      · simp only [h, if_false] <;> omega
  · cases hi with
    | none => simp [sliceBounds, HT.sIx]
    | some i =>
      simp only [sliceBounds, HT.sIx, Option.getD_none, show (1 : Int) > 0 by decide, if_true]
      by_cases h : i < 0
      · simp only [h, if_true] <;> omega
      · simp only [h, if_false] <;> omega
theorem slicePick_cut (its : List Value) (lo hi : Option Int) : slicePick its.toArray lo hi none = ((its.drop (HT.sIx its.length 0 lo)).take (HT.sIx its.length its.length hi - HT.sIx its.length 0 lo)).toArray := by
  obtain ⟨h1, h2, h3⟩ := slice_bounds lo hi its.toArray.size
  unfold slicePick
  rw [h1, h2, h3]
  simp only [sliceRange_one, pick_run, List.size_toArray] <;> rfl
def rSlL (K : PySem.W.Frag) : V → Option Int → Option Int → Hp → VK → Prop := fun x lo hi H Q => ∃ a xs, x = .ref a ∧ SqL K H a xs ∧ ∀ p, H p = none → Q (.ref p) (upd H p (.lst (cutV xs lo hi)))
theorem sl_list : SlR X (rSlL X.K) := by
  intro pins s σ H x v vl vu lo hi sl Q I rx hs pl pu h
  obtain ⟨a, xs, rfl, hx, q⟩ := h
  cases rx
  obtain ⟨its, r, ht, hz⟩ := I.list hx
  have hlen := r.length
  refine ⟨"list", _, slot_list_getitem.lookup, ht.isList.typeIs, ?_⟩
  refine wpAny_getItem_list_slice ht.isList hs pl pu .none (by simp) ?_ (by rw [List.size_toArray] <;> omega)
  rw [slicePick_cut, ← hlen]
  refine ⟨.ref s.heap.objs.size, _, I.laid (t' := s.toks) (o := .lst (cutV xs lo hi)) (fun b ob q => Heap.get?_push_of_some _ q) (Nat.le_refl _) ?_, rfl, q _ (I.hok.fresh (Nat.le_refl _))⟩
  exact ⟨Nat.le_trans (cutV_length xs lo hi) hz, _, 0, (r.drop (HT.sIx xs.length 0 lo)).take (HT.sIx xs.length xs.length hi - HT.sIx xs.length 0 lo), Heap.get?_push_size _ rfl⟩
def flatV : V → Bool
  | .non => true
  | .bl _ => true
  | .int _ => true
  | .str _ => true
  | _ => false
def eqV : V → V → Bool
  | .non, .non => true
  | .bl a, .bl b => a == b
  | .bl a, .int b => (if a then 1 else 0) == b
  | .int a, .bl b => a == (if b then 1 else 0)
  | .int a, .int b => a == b
  | .str a, .str b => a == b
  | _, _ => false
theorem eqAt_V {A : Around} {s : Shared} {y x : V} {u v : Value} (ry : RelV y u) (rx : RelV x v) (fy : flatV y = true) (fx : flatV x = true) : SeqAt.EqAt A s u v (eqV y x) := by
  cases y with
  | non =>
    cases ry
    cases x with
    | non => cases rx; exact SeqAt.EqAt.same _
    | bl b => cases rx; exact SeqAt.EqAt.none_bool b
    | int b => obtain ⟨t, rfl⟩ := rx; exact SeqAt.EqAt.none_int b t
    | str b => obtain ⟨t, rfl⟩ := rx; exact SeqAt.EqAt.none_str b t
    | _ => exact absurd (show false = true from fx) Bool.false_ne_true
  | bl a =>
    cases ry
    cases x with
    | non => cases rx; exact SeqAt.EqAt.bool_none a
    | bl b => cases rx; exact SeqAt.EqAt.bool_bool a b
    | int b => obtain ⟨t, rfl⟩ := rx; exact SeqAt.EqAt.bool_int a b t
    | str b => obtain ⟨t, rfl⟩ := rx; exact SeqAt.EqAt.bool_str a b t
    | _ => exact absurd (show false = true from fx) Bool.false_ne_true
  | int a =>
    obtain ⟨t', rfl⟩ := ry
    cases x with
    | non => cases rx; exact SeqAt.EqAt.int_none a t'
    | bl b => cases rx; exact SeqAt.EqAt.int_bool a t' b
    | int b => obtain ⟨t, rfl⟩ := rx; exact SeqAt.EqAt.int_int a t' b t
    | str b => obtain ⟨t, rfl⟩ := rx; exact SeqAt.EqAt.int_str a t' b t
    | _ => exact absurd (show false = true from fx) Bool.false_ne_true
  | str a =>
    obtain ⟨t', rfl⟩ := ry
    cases x with
    | non => cases rx; exact SeqAt.EqAt.str_none a t'
    | bl b => cases rx; exact SeqAt.EqAt.str_bool a t' b
    | int b => obtain ⟨t, rfl⟩ := rx; exact SeqAt.EqAt.str_int a t' b t
    | str b => obtain ⟨t, rfl⟩ := rx; exact SeqAt.EqAt.str_str a t' b t
    | _ => exact absurd (show false = true from fx) Bool.false_ne_true
  | _ => exact absurd (show false = true from fy) Bool.false_ne_true
def eqU (x : V) (u : Value) : Bool := match u with
  | .none => eqV .non x
  | .bool b => eqV (.bl b) x
  | .int i _ => eqV (.int i) x
  | .str z _ => eqV (.str z) x
  | _ => false
theorem eqU_of {x y : V} {u : Value} (r : RelV y u) (f : flatV y = true) : eqU x u = eqV y x := by
  cases y with
  | non => cases r; rfl
  | bl b => cases r; rfl
  | int i => obtain ⟨t, rfl⟩ := r; rfl
  | str z => obtain ⟨t, rfl⟩ := r; rfl
  | _ => exact absurd (show false = true from f) Bool.false_ne_true
theorem any_eqU {x : V} : ∀ {xs : List V} {us : List Value}, Vals xs us → xs.all flatV = true → us.any (eqU x) = xs.any fun y => eqV y x
  | _, _, .nil, _ => rfl
  | y :: xs, u :: us, .cons r t, f => by
    rw [List.all_cons, Bool.and_eq_true] at f
    rw [List.any_cons, List.any_cons, eqU_of r f.1, any_eqU t f.2]
theorem mem_eqAt {A : Around} {s : Shared} {x : V} {v : Value} (rx : RelV x v) (fx : flatV x = true) : ∀ {xs : List V} {us : List Value}, Vals xs us → xs.all flatV = true → ∀ u ∈ us, SeqAt.EqAt A s u v (eqU x u)
  | _, _, .nil, _ => fun u hu => by cases hu
  | y :: xs, u :: us, .cons r t, f => fun u' hu => by
    rw [List.all_cons, Bool.and_eq_true] at f
    rcases List.mem_cons.mp hu with rfl | hu
    · rw [eqU_of r f.1]; exact eqAt_V r rx f.1 fx
    · exact mem_eqAt rx fx t f.2 u' hu
def inV (x : V) (xs : List V) : Bool := xs.any fun y => eqV y x
def rIn (K : PySem.W.Frag) (neg : Bool) : R2 := fun x y H Q => ∃ p xs, y = .ref p ∧ (SqL K H p xs ∨ SqT K H p xs) ∧ flatV x = true ∧ xs.all flatV = true ∧ Q (.bl (if neg then !inV x xs else inV x xs)) H
theorem op_in_seq : OpR X (compareOp .In) (rIn X.K false) := by
  intro pins s σ H x y v u Q I rx ry h
  obtain ⟨p, xs, rfl, hq, fx, fs, q⟩ := h
  cases ry
  rcases hq with hq | hq
  · obtain ⟨its, r, pl, hz⟩ := I.list hq
    refine SeqAt.in_listAt (eqU x) pl.isList (fun w hw => mem_eqAt rx fx r fs w (by simpa using hw)) ⟨.bl _, H, I, rfl, ?_⟩
    rw [show its.toArray.any (eqU x) = its.any (eqU x) by simp, any_eqU r fs]
    exact q
  · obtain ⟨its, r, pl, hz⟩ := I.tuple hq
    refine SeqAt.in_tupleAt (eqU x) pl (fun w hw => mem_eqAt rx fx r fs w (by simpa using hw)) ⟨.bl _, H, I, rfl, ?_⟩
    rw [show its.toArray.any (eqU x) = its.any (eqU x) by simp, any_eqU r fs]
    exact q
theorem call_len_seq : CallR X (.builtin "len") (fun xs H Q => ∃ p ys, xs = [.ref p] ∧ (SqL X.K H p ys ∨ SqT X.K H p ys) ∧ Q (.int ys.length) H) := by
  intro pins s σ H xs us Q I r h
  obtain ⟨p, ys, rfl, hq, q⟩ := h
  obtain ⟨u, rfl, rx⟩ := vals1 r
  cases rx
  have hn := line63
  rcases hq with hq | hq
  · obtain ⟨its, r', pl, hz⟩ := I.list hq
    have hlen := r'.length
    exact Calls.call_len_list pl.isList (by simp only [List.size_toArray] <;> omega) ⟨.int ys.length, H, I.tok _, ⟨s.toks + 1, by rw [List.size_toArray, hlen]⟩, q⟩
  · obtain ⟨its, r', pl, hz⟩ := I.tuple hq
    have hlen := r'.length
    exact len_tuple pl (by simp only [List.size_toArray] <;> omega) ⟨.int ys.length, H, I.tok _, ⟨s.toks + 1, by rw [List.size_toArray, hlen]⟩, q⟩
theorem call_len_str : CallR X (.builtin "len") (fun xs H Q => ∃ z, xs = [.str z] ∧ z.length ≤ sizeLine ∧ Q (.int z.length) H) := by
  intro pins s σ H xs us Q I r h
  obtain ⟨z, rfl, hz, q⟩ := h
  obtain ⟨u, rfl, t, rfl⟩ := vals1 r
  have hn := line63
  exact len_str (by omega) ⟨.int z.length, H, I.tok _, ⟨_, rfl⟩, q⟩
theorem CallR.or {f : Value} {r r' : List V → Hp → VK → Prop} (h : CallR X f r) (h' : CallR X f r') : CallR X f (fun xs H Q => r xs H Q ∨ r' xs H Q) := by
  intro pins s σ H xs us Q I rs q
  rcases q with q | q
  · exact h pins s σ H xs us Q I rs q
  · exact h' pins s σ H xs us Q I rs q
theorem call_list_of : CallR X (.type "list") (fun xs H Q => ∃ p ys, xs = [.ref p] ∧ (SqL X.K H p ys ∨ SqT X.K H p ys) ∧ ∀ l, H l = none → Q (.ref l) (upd H l (.lst ys))) := by
  intro pins s σ H xs us Q I r h
  obtain ⟨p, ys, rfl, hq, q⟩ := h
  obtain ⟨u, rfl, rx⟩ := vals1 r
  cases rx
  have fin : ∀ (its : List Value), Vals ys its → ys.length ≤ sizeLine → ∀ (h' : Heap) (c' : Nat), (∀ b o', s.heap.get? b = some o' → h'.get? b = some o') →
      h'.get? s.heap.objs.size = some { cls := .type "list", dict := none, data := .seq its.toArray c', slots := #[] } → EP X pins σ Q (.ref s.heap.objs.size) { s with heap := h' } := fun its r' hz h' c' kp e =>
    ⟨.ref s.heap.objs.size, _, I.laid (t' := s.toks) kp (Nat.le_refl _) (show ObjOk X.prog X.w _ h' _ (.lst ys) from ⟨hz, its, c', r', e⟩), rfl, q _ (I.hok.fresh (Nat.le_refl _))⟩
  rcases hq with hq | hq
  · obtain ⟨its, r', pl, hz⟩ := I.list hq
    have hlen := r'.length
    obtain ⟨o, ho, hc, n, hd⟩ := pl.isList
    exact call_list_seq p (.inl rfl) ho hc hd (fun h' c' kp e => fin its r' hz h' c' kp e) (by simp only [List.size_toArray] <;> omega)
  · obtain ⟨its, r', pl, hz⟩ := I.tuple hq
    have hlen := r'.length
    obtain ⟨o, ho, hc, n, hd⟩ := pl
    exact call_list_seq p (.inr rfl) ho hc hd (fun h' c' kp e => fin its r' hz h' c' kp e) (by simp only [List.size_toArray] <;> omega)
theorem call_tuple_of : CallR X (.type "tuple") (fun xs H Q => ∃ p ys, xs = [.ref p] ∧ ((SqL X.K H p ys ∧ ∀ l, H l = none → Q (.ref l) (upd H l (.tup ys))) ∨ (SqT X.K H p ys ∧ Q (.ref p) H))) := by
  intro pins s σ H xs us Q I r h
  obtain ⟨p, ys, rfl, h⟩ := h
  obtain ⟨u, rfl, rx⟩ := vals1 r
  cases rx
  rcases h with ⟨hq, q⟩ | ⟨hq, q⟩
  · obtain ⟨its, r', pl, hz⟩ := I.list hq
    have hlen := r'.length
    refine call_tuple_list pl.isList (fun h' kp => ?_) (by simp only [List.size_toArray] <;> omega)
    have I1 : Inv X pins σ H { s with heap := h' } := I.kept (t' := s.toks) kp
    have I2 : Inv X pins σ (upd H h'.objs.size (.tup ys)) { s with heap := h'.push { cls := .type "tuple", data := .seq its.toArray } } :=
      I1.laid (t' := s.toks) (fun b o e => Heap.get?_push_of_some _ e) (Nat.le_refl _) (show ObjOk X.prog X.w _ _ _ (.tup ys) from ⟨hz, its, r', IsTupN.new _ _⟩)
    exact ⟨.ref h'.objs.size, _, I2, rfl, q _ (I1.hok.fresh (Nat.le_refl _))⟩
  · obtain ⟨its, r', pl, hz⟩ := I.tuple hq
    exact call_tuple_same pl ⟨.ref p, H, I, rfl, q⟩
def tyV (K : PySem.W.Frag) (T : String) (x : V) (H : Hp) : Prop := match x with
  | .str _ => T = "str"
  | .int _ => T = "int"
  | .ref p => (T = "list" ∧ ∃ xs, SqL K H p xs) ∨ (T = "tuple" ∧ ∃ o, K.lookup p = some o ∧ o.cls = .type "tuple" ∧ o.dict = none) ∨
      (T = "dict" ∧ ((∃ kvs, H p = some (.dK kvs)) ∨ ∃ kvs, H p = some (.dT kvs))) ∨ (T = "set" ∧ ∃ S n, H p = some (.set S n))
  | _ => False
theorem tyV_is {pins : List (Addr × Obj)} {σ : St} {H : Hp} {s : Shared} {T : String} {x : V} {v : Value} (I : Inv X pins σ H s) (r : RelV x v) (ty : tyV X.K T x H) :
    s.TypeIs v T ∧ ∀ a, v = .ref a → ∃ ob, s.heap.get? a = some ob ∧ ob.dict = none := by
  cases x with
  | str z =>
    obtain ⟨t, rfl⟩ := r
    cases (show T = "str" from ty)
    exact ⟨typeIs_str s z t, fun _ e => nomatch e⟩
  | int i =>
    obtain ⟨t, rfl⟩ := r
    cases (show T = "int" from ty)
    exact ⟨typeIs_int s i t, fun _ e => nomatch e⟩
  | ref p =>
    cases r
    rcases ty with ⟨rfl, xs, hq⟩ | ⟨rfl, o, hk, hc, hd⟩ | ⟨rfl, hk⟩ | ⟨rfl, S, n, hk⟩
    · obtain ⟨its, _, pl, _⟩ := I.list hq
      refine ⟨pl.isList.typeIs, fun a e => ?_⟩
      cases e
      obtain ⟨o, n, e, c, hd, _⟩ := pl
      exact ⟨o, e, hd⟩
    · refine ⟨⟨o, I.kIn p o hk, hc⟩, fun a e => ?_⟩
      cases e
      exact ⟨o, I.kIn _ o hk, hd⟩
    · have z : ∃ o, s.heap.get? p = some o ∧ o.ExactDict := by
        rcases hk with ⟨kvs, hk⟩ | ⟨kvs, hk⟩
        · obtain ⟨_, _, _, _, o, _, _, e, ex, _⟩ := I.hok p _ hk
          exact ⟨o, e, ex⟩
        · obtain ⟨_, _, _, _, o, _, _, e, ex, _⟩ := I.hok p _ hk
          exact ⟨o, e, ex⟩
      obtain ⟨o, e, ex⟩ := z
      refine ⟨⟨o, e, ex.1⟩, fun a e2 => ?_⟩
      cases e2
      exact ⟨o, e, ex.2.1⟩
    · obtain ⟨o, _, _, _, e, ex, _⟩ := I.hok p _ hk
      refine ⟨⟨o, e, ex.1⟩, fun a e2 => ?_⟩
      cases e2
      exact ⟨o, e, ex.2.1⟩
  | _ => exact False.elim ty
def tBM (K : PySem.W.Frag) (T : String) (r : V → List V → Hp → VK → Prop) (to : TE) (t : TA) : TE := fun σ H Q => to σ H fun x H1 => tyV K T x H1 ∧ t σ H1 fun xs H2 => r x xs H2 Q
variable {o e : Expr} {es : List Expr} {to : TE} {t : TA} {name : Str} {apos cpos : Pos} {T id : String} {r : V → List V → Hp → VK → Prop}
theorem pe_bm (pa : PlainAttrs T) (slot : Slot T name id) (hty : typeOf (.builtin id) = pure (.type "method_descriptor")) (hm : MtR X id r) (ho : PE X o to) (ha : PA X (e :: es) t)
    (hbase : attributeBase o name X.env (eval o X.env) = eval o X.env := by rfl)
    (hfew : ((backTo cpos (starEach (e :: es) X.env)).all (fun x => !x.1) && (backToKw cpos (keywordEach [] X.env)).all (fun x => x.1.isSome)
      && decide ((e :: es).length + ([] : List Keyword).length + (if ([] : List Keyword).isEmpty then 0 else 1) < 30)) = true := by rfl)
    (hline : (apos.endLine == cpos.line) = true := by rfl) (hs : starEach (e :: es) X.env = (false, eval e X.env) :: starEach es X.env := by rfl) (hplain : (backTo cpos (starEach es X.env)).any (·.1) = false := by rfl) :
    PE X (.Call (.Attribute o name apos) (e :: es) [] cpos) (tBM X.K T r to t) := by
  intro pins s σ H Q I h
  refine wpAny_Call_method_late hbase hfew hline rfl (thn (ho pins s σ H _ I h) fun v s1 ⟨x, H1, I1, r1, ty, q1⟩ => ?_)
  obtain ⟨h1, h2⟩ := tyV_is I1 r1 ty
  refine ⟨T, id, pa, slot, hty, h1, h2, ?_⟩
  have hA := ha cpos pins s1 σ H1 _ I1 q1
  rw [hs] at hA ⊢
  refine Calls.callWith_builtin (by show (false || (backTo cpos (starEach es X.env)).any (·.1)) = false; rw [hplain] <;> rfl) (Calls.evalArgs_plain ?_)
  exact thn hA fun us s2 ⟨vs, H2, I2, r2, q2⟩ => hm pins s2 σ H2 x vs v us Q I2 r1 r2 q2
end
end L2
namespace L2
open PySem PySem.Spec PyProof.Rows
def MtM (X : Cx) (id : String) (r : V → List V → Hp → VK → Prop) : Prop :=
  ∀ (pins : List (Addr × Obj)) (s : Shared) (σ : St) (H : Hp) (x : V) (xs : List V) (v : Value) (us : List Value) (Q : VK), Inv X pins σ H s → RelV x v → Vals xs us → r x xs H Q →
    wpAny (model X.prog X.w) X.A (call (.builtin id) (v :: us)) (EP X pins σ Q) X.xe s
theorem Vals.one : ∀ {x : V} {us : List Value}, Vals [x] us → ∃ u, us = [u] ∧ RelV x u
  | _, _, .cons r .nil => ⟨_, rfl, r⟩
theorem Vals.two : ∀ {x y : V} {us : List Value}, Vals [x, y] us → ∃ u v, us = [u, v] ∧ RelV x u ∧ RelV y v
  | _, _, _, .cons r (.cons q .nil) => ⟨_, _, rfl, r, q⟩
theorem Vals.zero : ∀ {us : List Value}, Vals [] us → us = []
  | _, .nil => rfl
theorem Vals.dropLast {xs : List V} {us : List Value} (h : Vals xs us) : Vals xs.dropLast us.dropLast := by
  induction h with
  | nil => exact .nil
  | cons r t ih =>
    cases t with
    | nil => exact .nil
    | cons q t' => exact .cons r ih
theorem Vals.eraseIdx : ∀ {xs : List V} {us : List Value} (i : Nat), Vals xs us → Vals (xs.eraseIdx i) (us.eraseIdx i)
  | _, _, _, .nil => .nil
  | _, _, 0, .cons _ t => t
  | _, _, i + 1, .cons r t => .cons r (Vals.eraseIdx i t)
theorem len_erase {α : Type} : ∀ (l : List α) (i : Nat), (l.eraseIdx i).length ≤ l.length
  | [], _ => Nat.le_refl _
  | _ :: _, 0 => Nat.le_succ _
  | _ :: r, i + 1 => Nat.succ_le_succ (len_erase r i)
section
variable {X : Cx} {pins : List (Addr × Obj)} {σ : St} {H : Hp} {s : Shared} {l b : Addr} {xs ys zs : List V}
theorem Inv.lset {its its' : List Value} {n : Nat} {f : Array Value → Array Value} {t' : Nat} (I : Inv X pins σ H s) (hH : H l = some (.lst xs))
    (e : s.heap.get? l = some { cls := .type "list", data := .seq its.toArray n }) (hf : f its.toArray = its'.toArray) (hv : Vals ys its') (hz : ys.length ≤ sizeLine) :
    Inv X pins σ (upd H l (.lst ys)) { s with heap := s.heap.update l (Obj.mapSeq f), toks := t' } := by
  have q := PySem.IsL.update e f
  rw [hf] at q
  refine I.write (x := l) (e := l) (by rw [hH]; exact trivial) (.inl rfl) (fun b' u hb hu => (Heap.get?_update_other s.heap (Obj.mapSeq f) (Ne.symm hb)).trans hu) ⟨_, q⟩ ?_
  exact ⟨hz, its', _, hv, q⟩
theorem Inv.lnew {its : List Value} {t' : Nat} (I : Inv X pins σ H s) (hv : Vals ys its) (hz : ys.length ≤ sizeLine) :
    Inv X pins σ (upd H s.heap.objs.size (.lst ys)) { s with heap := s.heap.push { cls := .type "list", data := .seq its.toArray }, toks := t' } :=
  I.laid (fun _ _ q => Heap.get?_push_of_some _ q) (Nat.le_refl _) ⟨hz, its, 0, hv, Heap.get?_push_size _ rfl⟩
theorem Inv.fresh (I : Inv X pins σ H s) : H s.heap.objs.size = none := I.hok.fresh (Nat.le_refl _)
theorem Inv.lstM (I : Inv X pins σ H s) (hH : H l = some (.lst xs)) : xs.length ≤ sizeLine ∧ ∃ (its : List Value) (n : Nat), Vals xs its ∧ xs.length = its.length ∧ s.heap.get? l = some { cls := .type "list", data := .seq its.toArray n } := by
  obtain ⟨z, its, n, r, e⟩ := I.hok l _ hH
  exact ⟨z, its, n, r, r.length, e⟩
theorem notLongL {n : Nat} (h : n ≤ sizeLine) : Builtin.List.listTooLong n = false := by
  unfold Builtin.List.listTooLong
  exact decide_eq_false (by omega)
end
section
variable {X : Cx}
def rAppend : V → List V → Hp → VK → Prop := fun x vs H Q => ∃ l xs y, x = .ref l ∧ vs = [y] ∧ H l = some (.lst xs) ∧ xs.length < sizeLine ∧ Q .non (upd H l (.lst (xs ++ [y])))
theorem mt_append : MtM X "list.append" rAppend := by
  intro pins s σ H x vs v us Q I rx rv h
  obtain ⟨l, xs, y, rfl, rfl, hH, hz, q⟩ := h
  cases rx
  obtain ⟨u, rfl, ru⟩ := rv.one
  obtain ⟨z, its, n, r, hl, e⟩ := I.lstM hH
  refine call_meets F.slot_list_append ⟨_, e, rfl⟩ F.entry_list_append (F.args_list_append_2 _ _) (PySem.list_append l its.toArray n u (by rw [List.size_toArray]; omega)) ⟨e, ?_⟩
  refine ⟨.non, _, I.lset (its' := its ++ [u]) hH e (by simp) (r.append (.cons ru .nil)) ?_, rfl, q⟩
  rw [List.length_append, List.length_singleton]
  omega
def rExtend : V → List V → Hp → VK → Prop := fun x vs H Q => ∃ l b xs zs, x = .ref l ∧ vs = [.ref b] ∧ H l = some (.lst xs) ∧ H b = some (.lst zs) ∧ xs.length + zs.length ≤ sizeLine ∧ Q .non (upd H l (.lst (xs ++ zs)))
theorem mt_extend : MtM X "list.extend" rExtend := by
  intro pins s σ H x vs v us Q I rx rv h
  obtain ⟨l, b, xs, zs, rfl, rfl, hH, hB, hz, q⟩ := h
  cases rx
  obtain ⟨u, rfl, ru⟩ := rv.one
  cases ru
  obtain ⟨z, its, n, r, hl, e⟩ := I.lstM hH
  obtain ⟨z2, its2, n2, r2, hl2, e2⟩ := I.lstM hB
  have hsz : its.toArray.size + its2.toArray.size ≤ sizeLine := by rw [List.size_toArray, List.size_toArray]; omega
  have hlong : ¬ (!its.toArray.isEmpty && Builtin.List.listTooLong (its.toArray.size + its2.toArray.size)) = true := by
    rw [notLongL hsz, Bool.and_false]
    exact Bool.false_ne_true
  refine call_meets F.slot_list_extend ⟨_, e, rfl⟩ F.entry_list_extend (F.args_list_extend_2 _ _)
    (AutoSeq1.list_extend_list_list_0 l its.toArray n b its2.toArray n2 hlong (by rw [List.size_toArray]; omega) (by omega)) ⟨e, e2, ?_⟩
  refine ⟨.non, _, I.lset (its' := its ++ its2) hH e (by simp) (r.append r2) ?_, rfl, q⟩
  rw [List.length_append]
  omega
def rPopAt : V → List V → Hp → VK → Prop := fun x vs H Q => ∃ l xs i k y, x = .ref l ∧ vs = [.int i] ∧ H l = some (.lst xs) ∧ -(2 ^ 63) ≤ i ∧ i < 2 ^ 63 ∧ seqIndex? i xs.length = some k ∧ xs[k]? = some y ∧ Q y (upd H l (.lst (xs.eraseIdx k)))
theorem mt_popAt : MtM X "list.pop" rPopAt := by
  intro pins s σ H x vs v us Q I rx rv h
  obtain ⟨l, xs, i, k, y, rfl, rfl, hH, h1, h2, hk, hy, q⟩ := h
  cases rx
  obtain ⟨u, rfl, ru⟩ := rv.one
  obtain ⟨t, rfl⟩ := ru
  obtain ⟨z, its, n, r, hl, e⟩ := I.lstM hH
  obtain ⟨w, hw, rw'⟩ := r.get hy
  refine call_meets F.slot_list_pop ⟨_, e, rfl⟩ F.entry_list_pop (F.args_list_pop_2 _ _)
    (MeetsSeq.list_pop_at l its.toArray n i t k w (fitsIndex_both h1 h2) (by rw [List.size_toArray, ← hl]; exact hk) (by rw [← Array.getElem?_toList]; exact hw) (by rw [List.size_toArray]; omega)) ⟨e, ?_⟩
  refine ⟨y, _, I.lset (its' := its.eraseIdx k) hH e ?_ (r.eraseIdx k) ?_, rw', q⟩
  · show its.toArray.eraseIdxIfInBounds k = (its.eraseIdx k).toArray
    rw [List.eraseIdxIfInBounds_toArray]
  · have := len_erase xs k
    omega
def rCat : R2 := fun x y H Q => ∃ l b xs zs, x = .ref l ∧ y = .ref b ∧ H l = some (.lst xs) ∧ H b = some (.lst zs) ∧ xs.length + zs.length ≤ sizeLine ∧ ∀ p, H p = none → Q (.ref p) (upd H p (.lst (xs ++ zs)))
theorem op_cat : OpR X (binaryOp .Add) rCat := by
  intro pins s σ H x y v u Q I rx ry h
  obtain ⟨l, b, xs, zs, rfl, rfl, hH, hB, hz, q⟩ := h
  cases rx
  cases ry
  obtain ⟨z, its, n, r, hl, e⟩ := I.lstM hH
  obtain ⟨z2, its2, n2, r2, hl2, e2⟩ := I.lstM hB
  refine PySem.P.add_list e e2 ?_ (by rw [List.size_toArray, List.size_toArray]; omega)
  have ea : its.toArray ++ its2.toArray = (its ++ its2).toArray := by simp
  rw [ea]
  exact ⟨.ref _, _, I.lnew (t' := s.toks) (r.append r2) (by rw [List.length_append]; omega), rfl, q _ I.fresh⟩
end
section
variable {prog : Program} {w : World} {A : Around} {E : Value → Shared → Prop} {s : Shared}
set_option maxRecDepth 100000 in
end
section
variable {X : Cx}
end
end L2
namespace Att
open PySem PySem.W PySem.Calls PyProof.Rows
theorem ints_of_wellAll {P : Params} {h : Heap} : ∀ (ns : List Int) (vs : List Value), WellAll P h vs (ns.map WData.int) → IntsAre vs ns := by
  intro ns
  induction ns with
  | nil =>
    intro vs w
    rw [List.map_nil] at w
    cases w
    exact .nil
  | cons n ns ih =>
    intro vs w
    rw [List.map_cons] at w
    cases w with
    | cons a b =>
      cases a
      exact .cons _ _ (ih _ b)
theorem script_of {l : OpenLaw} {n : Nat} (hn : l.most = some n) {P : Params} {h : Heap} {args : List WData} {vals : List Value}
    (hpre : l.row.toRowW.claim.pre args = true) (hwl : WellAll P h vals args) :
    ∃ a vs ns, vals = [Value.ref a] ∧ args = [WData.list (ns.map WData.int)] ∧ h.get? a = some { cls := .type "list", data := .seq vs.toArray } ∧ IntsAre vs ns ∧ ns.length ≤ n := by
  have hsh : WShape.hasAll [] args [.list .int] = true := (pre_splitW hpre).1
  have hc : l.pre.holds [] { args := args } = true := (pre_splitW hpre).2
  obtain ⟨d, r, rfl, h1, h2⟩ := hasAllW_cons hsh
  obtain rfl := hasAllW_nil h2
  obtain ⟨xs, rfl, h3⟩ := hasW_list h1
  obtain ⟨ns, rfl⟩ := items_int h3
  have hlen : ns.length ≤ n := by
    unfold OpenLaw.pre at hc
    have h4 : (WTm.not (.lt (.lit (.int (n : Int))) (.len (.arg 0)))).holds [] { args := [.list (ns.map .int)] } = true := by
      have h4 := (holds_andW hc).1
      rw [hn] at h4
      exact h4
    have h5 := condW_of h4 (w_not (w_lt w_lit (w_len_list (w_arg rfl))))
    rw [List.length_map] at h5
    refine Nat.le_of_not_lt fun q => ?_
    have q' : (n : Int) < ((ns.length : Nat) : Int) := by omega
    first
      | (rw [decide_eq_true q'] at h5; exact absurd h5 (by decide))
      | (simp at h5; omega)
  cases hwl with
  | cons w1 w2 =>
    cases w2
    cases w1 with
    | list ho hall => exact ⟨_, _, ns, rfl, rfl, ho, ints_of_wellAll ns _ hall, hlen⟩
theorem post_true (l : OpenLaw) (args : List WData) : l.row.toRowW.claim.post args (.bool true) args = true :=
  postW_of (r := l.row.toRowW) (X := (true == true))
    (show WShape.has [] (.bool true) .bool = true by first | rfl | decide | simp [WShape.has, WShape.arms, WShape.armsAll])
    (show (WTm.eq .res (.lit (.bool true))).value [] { args := args, res := some (.bool true), after := args } = some (.bool (true == true)) from w_eq_bool (w_res rfl) w_lit) rfl
theorem attach_call {l : OpenLaw} {n : Nat} {q : Program} {loose : List Str} {XP : (Str → Option Value) → Heap → Prop} {YP : World → Heap → Prop} {d : DefRec}
    (hn : l.most = some n) (hdf : d.params.defaults = [])
    (call : ∀ (w : World) (s₀ s₁ : Shared) (mg mb : Str → Option Value) (fa : Addr) (o : Obj) (pm cd doc : Value) (a : Addr) (vs : List Value) (ns : List Int),
      Ground q loose [] XP w s₀ mg mb s₁.heap → YP w s₁.heap →
      s₁.heap.get? fa = some o → o.data = .func (docDef d.name d.params d.body d.scope pm cd doc) → s₁.heap.CodeRec cd d.name → mg d.name = some (.ref fa) →
      s₁.heap.get? a = some { cls := .type "list", data := .seq vs.toArray } → IntsAre vs ns → ns.length ≤ n → s₁.gens = #[] →
      codeAny (model l.prog w) callerA (.call (.ref fa) ⟨[.ref a], []⟩) (fun r s' => r = .ok (.ret (.bool true)) ∧ OldK s₁.heap s'.heap ∧ s'.os = s₁.os ∧ AllBare s'.gens) s₁) :
    WalkO q loose XP YP l.row.toRowW d [] (fun f vs => PySem.call f vs) := by
  intro w s₀ s₁ mg mb G Y fa o pm cd doc dV kV ho hd hcd hD hmg hg args vals as hpre hlay hrd hwl hlo
  obtain rfl : dV = .none := Dflts.none hD hdf
  obtain rfl : kV = .none := Dflts.noKw hD
  obtain ⟨a, vs, ns, rfl, rfl, hobj, hints, hlen⟩ := script_of hn hpre hwl
  refine enter_call (codeAny_mono (call w s₀ s₁ mg mb fa o pm cd doc a vs ns G Y ho (fd_plain hd) hcd hmg hobj hints hlen hg) fun r s' hq => ?_)
  obtain ⟨rfl, h2, h3, h4⟩ := hq
  exact ⟨.inl ⟨.bool true, .bool true, [], rfl, fun _ => rfl, .bool true, post_true l _, fun _ => ⟨List.Pairwise.nil, fun _ hm => (nomatch hm)⟩⟩, h2, h3, h4⟩
section
variable {prog : Program} {w : World} {A : Around} {E : Value → Shared → Prop} {s : Shared} {K : Frag}
end
end Att
namespace L2
open PySem PySem.Spec PyProof.Rows
theorem vals_ints : ∀ {vs : List Value} {ns : List Int}, IntsAre vs ns → Vals (ns.map V.int) vs
  | _, _, .nil => .nil
  | _, _, .cons n t h => .cons ⟨t, rfl⟩ (vals_ints h)
def Only (H : Hp) : Prop := ∀ b, H b = none ∨ ∃ o xs, H b = some (.frz o (.lst xs))
theorem law_call {P : Program} {w : World} {K : PySem.W.Frag} {mg mb : Str → Option Value} {CX : CXT} {k : Nat} {fa a : Addr} {fd : FuncData} {x : Str} {sp : Sp} {s₁ : Shared} {vs : List Value} {ns : List Int}
    (KX : K.In s₁.heap) (hns : s₁.heap.Ns mainGlobals mg) (hb : s₁.heap.Ns builtinsNs mb) (hbb : ∀ x : Str, x ≠ "__name__" → mb x = bootBuiltins x) (hlim : s₁.heap.NoLimit) (hg : s₁.gens = #[])
    (ha : s₁.heap.get? a = some { cls := .type "list", data := .seq vs.toArray }) (hi : IntsAre vs ns) (hl : ns.length ≤ sizeLine) (hr : Room k callerA)
    (F : ∀ base : Heap, K.In base → base.Ns mainGlobals mg → FnOk P w K mg base CX k fa fd [x] sp) (hbind : ∀ (s : Shared) (u : Value), BindsTo s fd ⟨[u], []⟩ [(x, u)])
    (hsp : ∀ H : Hp, Only H → SqL K H a (ns.map V.int) → sp [.ref a] H (fun v _ => v = .bl true) fun _ _ _ => False)
    (hCX : ∀ H e s', CX [] H s₁ (fun _ _ _ => False) e s' → False) :
    codeAny (model P w) callerA (.call (.ref fa) ⟨[.ref a], []⟩) (fun r s' => r = .ok (.ret (.bool true)) ∧ OldK s₁.heap s'.heap ∧ s'.os = s₁.os ∧ AllBare s'.gens) s₁ := by
  have rv := vals_ints hi
  have lenV := hi.length
  -- from an abstract heap in which nothing but the script may be tracked
  have core : ∀ H : Hp, Only H → SqL K H a (ns.map V.int) → HOk P w H s₁.heap → (∀ b, H b ≠ none → b = a) → (H a ≠ none → K.lookup a = none) →
      codeAny (model P w) callerA (.call (.ref fa) ⟨[.ref a], []⟩) (fun r s' => r = .ok (.ret (.bool true)) ∧ OldK s₁.heap s'.heap ∧ s'.os = s₁.os ∧ AllBare s'.gens) s₁ := by
    intro H hO hS hok hA hK
    have base_of : ∀ {b : Addr} {o : Obj}, s₁.heap.get? b = some o → H b = none → (hidT s₁.heap H).get? b = some o := fun e n => hidT_get e n
    have noA : ∀ {b : Addr} {o : Obj} {es : Array DictEntry} {ep : Nat}, s₁.heap.get? b = some o → o.data = .dict es ep → H b = none := fun {b o es ep} e d => by
      cases q : H b with
      | none => rfl
      | some u =>
        have e' : b = a := hA b (by rw [q]; simp)
        subst e'
        rw [ha] at e; cases e
        have d' : Data.seq vs.toArray _ = Data.dict es ep := d
        cases d'
    have nsK : ∀ {b : Addr} {m : Str → Option Value}, s₁.heap.Ns b m → (hidT s₁.heap H).Ns b m := fun {b m} ⟨o, es, ep, e, d, r⟩ => ⟨o, es, ep, base_of e (noA e d), d, r⟩
    have hKb : K.In (hidT s₁.heap H) := fun b o e => base_of (KX b o e) (by
      cases q : H b with
      | none => rfl
      | some u =>
        have e' : b = a := hA b (by rw [q]; simp)
        subst e'
        rw [hK (by rw [q]; simp)] at e; cases e)
    have hM : Mod K mg (hidT s₁.heap H) := ⟨hKb, nsK hns, ⟨mb, nsK hb, hbb⟩, let ⟨mc, h1, h2⟩ := hlim; ⟨mc, nsK h1, h2⟩⟩
    have e0 : Env0 P w K mg (hidT s₁.heap H) callerA [] s₁ H := ⟨rfl, hM, fun b o e => of_hidT e, Nat.le_of_eq (hidT_size _ _), trivial, fun b hb => absurd (show b ∈ ([] : List Addr) from hb) (by simp), hok, .of_eq hg⟩
    refine codeAny_mono ((F _ hKb (nsK hns)).run callerA [] s₁ H ⟨[.ref a], []⟩ [.ref a] [.ref a] _ _ hr e0 (hbind s₁ (.ref a)) (.cons rfl .nil) (hsp H hO hS)) fun r s' h => ?_
    cases r with
    | error e => exact (hCX H e s' h).elim
    | ok fl =>
      cases fl with
      | next => exact False.elim h
      | brk => exact False.elim h
      | cont => exact False.elim h
      | ret u =>
        obtain ⟨v, H', os, bare, un, hok', r', q⟩ := h
        have q' : v = .bl true := q
        subst q'
        obtain rfl : u = Value.bool true := r'
        refine ⟨rfl, OldK.of_keep fun b o e => ?_, os, bare⟩
        cases q : H b with
        | none => exact un.keep b o e q (by intro z; exact absurd (show b ∈ ([] : List Addr) from z) (by simp)) (by simp)
        | some u =>
          rcases hO b with z | ⟨ob, xs, z⟩
          · rw [q] at z; cases z
          · have z2 := un.frzs b ob _ z
            obtain ⟨e1, _⟩ := hok b _ z
            obtain ⟨e2, _⟩ := hok' b _ z2
            rw [e] at e1; cases e1
            exact e2
  cases hk : K.lookup a with
  | some o =>
    -- the script is one of the module's own objects
    have e := KX a o hk
    rw [ha] at e
    cases e
    refine core (fun _ => none) (fun _ => .inl rfl) (.inr ⟨_, vs.toArray, _, hk, rfl, rfl, rfl, by rw [List.size_toArray, lenV]; exact hl, by simpa using rv⟩) (fun b u z => by have z' : (none : Option HO) = some u := z; cases z') (fun b z => absurd rfl z) fun z => absurd rfl z
  | none =>
    refine core (fun b => if b = a then some (.frz { cls := .type "list", data := .seq vs.toArray } (.lst (ns.map V.int))) else none) (fun b => ?_) (.inl (.inr ⟨{ cls := .type "list", data := .seq vs.toArray }, if_pos rfl⟩)) (fun b u z => ?_) (fun b z => ?_) fun _ => hk
    · by_cases hb : b = a
      · exact .inr ⟨_, _, if_pos hb⟩
      · exact .inl (if_neg hb)
    · by_cases hb : b = a
      · have z' := (if_pos hb).symm.trans z
        cases z'
        subst hb
        exact ⟨ha, by rw [List.length_map]; exact hl, vs, _, rv, ha⟩
      · have z' := (if_neg hb).symm.trans z
        cases z'
    · by_cases hb : b = a
      · exact hb
      · exact absurd (if_neg hb) z
end L2
namespace L2
open PySem PySem.Spec PyProof.Rows
theorem walk_of {l : PySem.W.OpenLaw} {n k : Nat} {q : Program} {loose : List Str} {XP : (Str → Option Value) → Heap → Prop} {YP : World → Heap → Prop} {d : DefRec} {K : Params → PySem.W.Frag} {CX : World → CXT} {sp : World → Sp} {x : Str}
    (hn : l.most = some n) (hn2 : n ≤ sizeLine) (hdf : d.params.defaults = []) (hr : Room k callerA)
    (hY : ∀ (w : World) (h : Heap), YP w h → (K w.params).In h)
    (F : ∀ (w : World) (mg : Str → Option Value) (fa : Addr) (h : Heap), (K w.params).In h → h.Ns mainGlobals mg → mg d.name = some (.ref fa) →
      ∃ fd : FuncData, (∀ (s : Shared) (u : Value), BindsTo s fd ⟨[u], []⟩ [(x, u)]) ∧
        ∀ base : Heap, (K w.params).In base → base.Ns mainGlobals mg → FnOk l.prog w (K w.params) mg base (CX w) k fa fd [x] (sp w))
    (hsp : ∀ (w : World) (H : Hp) (a : Addr) (ns : List Int), ns.length ≤ n → Only H → SqL (K w.params) H a (ns.map V.int) → sp w [.ref a] H (fun v _ => v = .bl true) fun _ _ _ => False)
    (hCX : ∀ (w : World) (H : Hp) (s : Shared) (e : Value) (s' : Shared), CX w [] H s (fun _ _ _ => False) e s' → False) :
    PySem.W.WalkO q loose XP YP l.row.toRowW d [] (fun f vs => PySem.call f vs) := by
  refine Att.attach_call hn hdf fun w s₀ s₁ mg mb fa o pm cd doc a vs ns G Y ho hd hcd hmg hobj hints hlen hg => ?_
  have KX := hY w _ Y
  obtain ⟨fd, hb, hF⟩ := F w mg fa _ KX G.T.g hmg
  exact law_call KX G.T.g G.T.b G.T.builtins G.T.nolimit hg hobj hints (Nat.le_trans hlen hn2) hr hF hb (fun H hO hS => hsp w H a ns hlen hO hS) fun H e s' => hCX w H s₁ e s'
end L2
namespace L2
open PySem PySem.Spec PyProof.Rows
def defArgs (s : Stmt) : Arguments := match s with
  | .FunctionDef _ a _ _ _ _ _ _ _ _ => a
  | _ => { posonlyargs := [], args := [], vararg := none, kwonlyargs := [], kw_defaults := [], kwarg := none, defaults := [] }
def defBody (s : Stmt) : List Stmt := match s with
  | .FunctionDef _ _ b _ _ _ _ _ _ _ => b
  | _ => []
def defScope (s : Stmt) : Scope := match s with
  | .FunctionDef _ _ _ _ _ _ sc _ _ _ => sc
  | _ => { kind := .function, names := [], isGenerator := false, isCoroutine := false }
abbrev CX0 : CXT := fun _ _ _ _ _ _ => False
abbrev E0 : XK := fun _ _ _ => False
theorem pass0 {X : Cx} : Passes CX0 X E0 := fun _ _ _ _ _ _ _ h => h.elim
structure Fun (K : PySem.W.Frag) (x qual : Str) (st : Stmt) (f : Addr) (fd : FuncData) : Prop where
  ex : ∃ (oc : Value) (od : Option Addr) (kV doc pm : Value) (an : Option Addr) (cdv ct : Value) (osl : Array (Option Value)),
    fd = PySem.W.fnOf x qual (defArgs st) (defBody st) (defScope st) .none kV doc pm an cdv ct ∧ K.lookup f = some ⟨oc, od, .func fd, osl⟩ ∧ PySem.W.codeIn K cdv qual = true
  kp : PySem.W.keepIn K (.ref f) = true
section
variable {P : Program} {w : World} {K : PySem.W.Frag} {mg : Str → Option Value} {base : Heap}
theorem Fun.ok {x qual : Str} {st : Stmt} {f : Addr} {fd : FuncData} {N ps : List Str} {k : Nat} {sp : Sp} (F : Fun K x qual st f fd) (S : FnScope N ps (defScope st)) (len : ∀ vs H Q E, sp vs H Q E → vs.length = ps.length)
    (hbody : ∀ (cdv : Value) (A : Around) (outer : List Env) (s : Shared) (H : Hp) (vs : List V) (Q : VK) (E : XK), Room k (A.deeper (envOfC qual (defScope st) s.heap.objs.size f cdv)) → sp vs H Q E →
      ∃ t, PSs (cxOf CX0 P w K mg base N qual (defScope st) f cdv A outer s H E).nox (defBody st) t ∧ t { nx := fun _ H' => Q .non H', rt := Q } (start N vs) H) : FnOk P w K mg base CX0 (k + 1) f fd ps sp := by
  obtain ⟨oc, od, kV, doc, pm, an, cdv, ct, osl, rfl, lk, hcd⟩ := F.ex
  refine fn_of lk hcd S len fun A outer s H vs Q E hr hsp => ?_
  obtain ⟨t, h, q⟩ := hbody cdv A outer s H vs Q E hr hsp
  exact ⟨t, h.nox, q⟩
theorem Fun.binds {x qual : Str} {st : Stmt} {f : Addr} {fd : FuncData} {ps : List Str} (F : Fun K x qual st f fd)
    (h : ∀ (kV doc pm : Value) (an : Option Addr) (cdv ct : Value) (us : List Value), us.length = ps.length → bindArgs (PySem.W.fnOf x qual (defArgs st) (defBody st) (defScope st) .none kV doc pm an cdv ct) ⟨us, []⟩ = pure (ps.zip us)) : Binds K fd ps [] := by
  obtain ⟨oc, od, kV, doc, pm, an, cdv, ct, osl, rfl, lk, hcd⟩ := F.ex
  exact .all (h kV doc pm an cdv ct)
theorem fun_mk {x qual : Str} {st : Stmt} {f : Addr} {oc : Value} {od an : Option Addr} {osl : Array (Option Value)} {kV doc pm cdv ct : Value} (l : K.lookup f = some ⟨oc, od, .func (PySem.W.fnOf x qual (defArgs st) (defBody st) (defScope st) .none kV doc pm an cdv ct), osl⟩)
    (c : PySem.W.codeIn K cdv qual = true) (k : PySem.W.keepIn K (.ref f) = true) : Fun K x qual st f (PySem.W.fnOf x qual (defArgs st) (defBody st) (defScope st) .none kV doc pm an cdv ct) := ⟨⟨oc, od, kV, doc, pm, an, cdv, ct, osl, rfl, l, c⟩, k⟩
end
theorem hu_of {A : Around} {k : Nat} (hr : Room k A) : A.units + 1 < cLine := Nat.lt_of_le_of_lt (Nat.add_le_add_left (by decide : 1 ≤ 64) _) hr.units
section
variable {X : Cx}
theorem pv (i : Nat) {x : Str} {pos : Pos} (hN : X.N[i]? = some x := by rfl) (hv : Vis X.env.scope x := by first | exact Or.inl rfl | exact Or.inr (Or.inl rfl) | exact Or.inr (Or.inr rfl)) (hd : (x == ("__debug__" : Str)) = false := by decide)
    (hcd : (x == ("__classdict__" : Str)) = false := by decide) : PE X (.Name x pos) (tVar i) := pe_var hN hv hd hcd
end
theorem iteF {A B : Prop} (h : B) : if false = true then A else B := by
  rw [if_neg Bool.false_ne_true]
  exact h
theorem iteT {A B : Prop} (h : A) : if true = true then A else B := by
  rw [if_pos rfl]
  exact h
theorem ite2 {c A B : Prop} [Decidable c] (h1 : c → A) (h2 : ¬ c → B) : if c then A else B := by
  by_cases h : c
  · rw [if_pos h]
    exact h1 h
  · rw [if_neg h]
    exact h2 h
def Same (H H' : Hp) : Prop := ∀ b o, H b = some o → H' b = some o
theorem Same.refl (H : Hp) : Same H H := fun _ _ h => h
theorem Same.trans {H H1 H2 : Hp} (a : Same H H1) (b : Same H1 H2) : Same H H2 := fun c o h => b c o (a c o h)
theorem Same.free {H H' : Hp} (e : Same H H') {l : Addr} (h : H' l = Option.none) : H l = Option.none := by
  cases q : H l with
  | none => rfl
  | some o =>
    rw [e l o q] at h
    cases h
theorem Same.seq {K : PySem.W.Frag} {H H' : Hp} {a : Addr} {xs : List V} (e : Same H H') (h : SqL K H a xs) : SqL K H' a xs := by
  rcases h with (h | ⟨o, h⟩) | h
  · exact .inl (.inl (e _ _ h))
  · exact .inl (.inr ⟨o, e _ _ h⟩)
  · exact .inr h
end L2
namespace L2
open PySem PySem.Spec PyProof.Rows
section
variable {κ : Type} [DecidableEq κ]
def valV (kvs : List (κ × V)) (k : κ) : Option V := (kvs.find? fun kv => decide (kv.1 = k)).map (·.2)
def putK (kvs : List (κ × V)) (k : κ) (v : V) : List (κ × V) :=
  if (kvs.any fun kv => decide (kv.1 = k)) = true then kvs.map (fun kv => if kv.1 = k then (kv.1, v) else kv) else kvs ++ [(k, v)]
def dropK (kvs : List (κ × V)) (k : κ) : List (κ × V) := kvs.filter fun kv => decide (kv.1 ≠ k)
theorem valV_pos {p : κ × V} {r : List (κ × V)} {k : κ} (e : p.1 = k) : valV (p :: r) k = some p.2 := by simp [valV, List.find?_cons, e]
theorem valV_neg {p : κ × V} {r : List (κ × V)} {k : κ} (e : ¬ p.1 = k) : valV (p :: r) k = valV r k := by simp [valV, List.find?_cons, e]
theorem valV_any (k : κ) : ∀ kvs : List (κ × V), (kvs.any fun kv => decide (kv.1 = k)) = (valV kvs k).isSome
  | [] => rfl
  | p :: r => by
    rw [List.any_cons]
    by_cases e : p.1 = k
    · simp only [valV_pos e, decide_eq_true e, Bool.true_or, Option.isSome_some]
    · rw [valV_neg e, decide_eq_false e, Bool.false_or]; exact valV_any k r
theorem valV_map (k j : κ) (y : V) : ∀ kvs : List (κ × V), valV (kvs.map fun kv => if kv.1 = k then (kv.1, y) else kv) j = (valV kvs j).map fun x => if j = k then y else x
  | [] => rfl
  | p :: r => by
    have ih := valV_map k j y r
    rw [List.map_cons]
    by_cases h : p.1 = k
    · rw [if_pos h]
      by_cases e : p.1 = j
      · rw [valV_pos (p := (p.1, y)) e, valV_pos e, Option.map_some, if_pos (e.symm.trans h)]
      · rw [valV_neg (p := (p.1, y)) e, valV_neg e, ih]
    · rw [if_neg h]
      by_cases e : p.1 = j
      · rw [valV_pos (p := p) e, valV_pos e, Option.map_some, if_neg (fun z => h (e.trans z))]
      · rw [valV_neg (p := p) e, valV_neg e, ih]
theorem valV_snoc (k j : κ) (y : V) : ∀ kvs : List (κ × V), valV kvs k = none → valV (kvs ++ [(k, y)]) j = if j = k then some y else valV kvs j
  | [], _ => by
    by_cases e : k = j
    · rw [if_pos e.symm]; exact valV_pos (p := (k, y)) e
    · rw [if_neg (fun z => e z.symm)]; exact valV_neg (p := (k, y)) e
  | p :: r, hn => by
    rw [List.cons_append]
    have hk : ¬ p.1 = k := fun z => by rw [valV_pos z] at hn; cases hn
    rw [valV_neg hk] at hn
    have ih := valV_snoc k j y r hn
    by_cases e : p.1 = j
    · rw [valV_pos e, valV_pos e, if_neg (fun z => hk (e.trans z))]
    · rw [valV_neg e, valV_neg e, ih]
theorem valV_put (kvs : List (κ × V)) (k j : κ) (y : V) : valV (putK kvs k y) j = if j = k then some y else valV kvs j := by
  unfold putK
  by_cases a : (kvs.any fun kv => decide (kv.1 = k)) = true
  · rw [if_pos a, valV_map]
    rw [valV_any] at a
    by_cases e : j = k
    · obtain ⟨x, hx⟩ := Option.isSome_iff_exists.mp a
      rw [if_pos e, e, hx, Option.map_some, if_pos rfl]
    · rw [if_neg e]
      cases valV kvs j with
      | none => rfl
      | some x => rw [Option.map_some, if_neg e]
  · rw [if_neg a]
    refine valV_snoc k j y kvs ?_
    rw [valV_any] at a
    cases q : valV kvs k with
    | none => rfl
    | some x => rw [q] at a; exact (a rfl).elim
theorem length_putK (kvs : List (κ × V)) (k : κ) (v : V) : (putK kvs k v).length ≤ kvs.length + 1 := by
  unfold putK
  split
  · rw [List.length_map]; omega
  · rw [List.length_append, List.length_cons, List.length_nil]; omega
theorem putK_new {kvs : List (κ × V)} {k : κ} (v : V) (h : valV kvs k = none) : putK kvs k v = kvs ++ [(k, v)] := by
  unfold putK
  rw [valV_any, h]
  exact if_neg (by decide)
theorem RelO.isSome_eq {o : Option V} {u : Option Value} (r : RelO o u) : o.isSome = u.isSome := by
  cases o with
  | none => cases u with
    | none => rfl
    | some _ => exact (show False from r).elim
  | some _ => cases u with
    | none => exact (show False from r).elim
    | some _ => rfl
theorem RelO.getD {o : Option V} {u : Option Value} {d : V} {d' : Value} (r : RelO o u) (rd : RelV d d') : RelV (o.getD d) (u.getD d') := by
  cases o with
  | none => cases u with
    | none => exact rd
    | some _ => exact (show False from r).elim
  | some _ => cases u with
    | none => exact (show False from r).elim
    | some _ => exact r
theorem KV.val {kvs : List (κ × V)} {vs : List (κ × Value)} (r : KV kvs vs) (k : κ) : RelO (valV kvs k) (valueAt vs k) := by
  unfold KV at r
  induction r with
  | nil => exact True.intro
  | @cons p q ps qs h t ih =>
    obtain ⟨h1, h2⟩ := h
    by_cases e : p.1 = k
    · have e' : q.1 = k := h1.symm.trans e
      have b : valueAt (q :: qs) k = some q.2 := by simp [valueAt, List.find?_cons, e']
      rw [valV_pos e, b]; exact h2
    · have e' : ¬ q.1 = k := fun z => e (h1.trans z)
      have b : valueAt (q :: qs) k = valueAt qs k := by simp [valueAt, List.find?_cons, e']
      rw [valV_neg e, b]; exact ih
theorem KV.any {kvs : List (κ × V)} {vs : List (κ × Value)} (r : KV kvs vs) (k : κ) : (kvs.any fun kv => decide (kv.1 = k)) = vs.any fun kv => decide (kv.1 = k) := by
  unfold KV at r
  induction r with
  | nil => rfl
  | cons h t ih => rw [List.any_cons, List.any_cons, ih, h.1]
theorem KV.repl {kvs : List (κ × V)} {vs : List (κ × Value)} (r : KV kvs vs) (k : κ) {y : V} {u : Value} (ry : RelV y u) :
    KV (kvs.map fun kv => if kv.1 = k then (kv.1, y) else kv) (vs.map fun kv => if kv.1 = k then (kv.1, u) else kv) := by
  unfold KV at r ⊢
  induction r with
  | nil => exact .nil
  | @cons p q ps qs h t ih =>
    rw [List.map_cons, List.map_cons]
    refine .cons ?_ ih
    obtain ⟨h1, h2⟩ := h
    by_cases e : p.1 = k
    · rw [if_pos e, if_pos (h1.symm.trans e)]; exact ⟨h1, ry⟩
    · rw [if_neg e, if_neg (fun z => e (h1.trans z))]; exact ⟨h1, h2⟩
theorem KV.put {kvs : List (κ × V)} {vs : List (κ × Value)} (r : KV kvs vs) (k : κ) {y : V} {u : Value} (ry : RelV y u) : KV (putK kvs k y) (stored vs k u) := by
  unfold putK stored
  rw [r.any k]
  by_cases e : (vs.any fun kv => decide (kv.1 = k)) = true
  · rw [if_pos e, if_pos e]; exact r.repl k ry
  · rw [if_neg e, if_neg e]; exact Paired.snoc r ⟨rfl, ry⟩
theorem KV.drop {kvs : List (κ × V)} {vs : List (κ × Value)} (r : KV kvs vs) (k : κ) : KV (dropK kvs k) (without vs k) := by
  unfold KV at r ⊢
  unfold dropK without
  induction r with
  | nil => exact .nil
  | @cons p q ps qs h t ih =>
    obtain ⟨h1, h2⟩ := h
    rw [List.filter_cons, List.filter_cons]
    by_cases e : p.1 = k
    · have a : ¬ decide (p.1 ≠ k) = true := by simp [e]
      have b : ¬ decide (q.1 ≠ k) = true := by simp [h1.symm.trans e]
      rw [if_neg a, if_neg b]; exact ih
    · have e' : ¬ q.1 = k := fun z => e (h1.trans z)
      have a : decide (p.1 ≠ k) = true := by simp [e]
      have b : decide (q.1 ≠ k) = true := by simp [e']
      rw [if_pos a, if_pos b]; exact .cons ⟨h1, h2⟩ ih
theorem KV.keys {kvs : List (κ × V)} {vs : List (κ × Value)} (r : KV kvs vs) : kvs.map (·.1) = vs.map (·.1) := by
  unfold KV at r
  induction r with
  | nil => rfl
  | cons h t ih => rw [List.map_cons, List.map_cons, ih, h.1]
theorem KV.length {kvs : List (κ × V)} {vs : List (κ × Value)} (r : KV kvs vs) : kvs.length = vs.length := Paired.length r
end
theorem kV_is {P : Program} {w : World} {k : Key} {u : Value} (r : RelV (kV k) u) : (mixKind P w).is k u = true := by
  cases k with
  | inl i => obtain ⟨t, e⟩ := (show ∃ t, u = Value.int i t from r); subst e; exact mixKind_int P w i t
  | inr x => obtain ⟨t, e⟩ := (show ∃ t, u = Value.str x t from r); subst e; exact mixKind_str P w x t
theorem items_are {P : Program} {w : World} : ∀ {ks : List Key} {us : List Value}, Vals (ks.map kV) us → ItemsAre (mixKind P w) ks us
  | [], _, r => by rw [List.map_nil] at r; cases r; exact .nil
  | k :: ks, _, r => by
    rw [List.map_cons] at r
    cases r with
    | cons h t => exact .cons (kV_is h) (items_are t)
abbrev KT (H : Hp) : List (List Key × V) → List (List Key × Addr × Value) → Prop := Paired fun p q => p.1 = q.1 ∧ H q.2.1 = some (.tup (p.1.map kV)) ∧ RelV p.2 q.2.2
theorem KT.val {H : Hp} {kvs : List (List Key × V)} {xs : List (List Key × Addr × Value)} (r : KT H kvs xs) (k : List Key) : RelO (valV kvs k) ((atKey xs k).map (·.2)) := by
  induction r with
  | nil => exact True.intro
  | @cons p q ps qs h t ih =>
    obtain ⟨h1, _, h2⟩ := h
    by_cases e : p.1 = k
    · have e' : q.1 = k := h1.symm.trans e
      have b : atKey (q :: qs) k = some q.2 := by simp [atKey, List.find?_cons, e']
      rw [valV_pos e, b]; exact h2
    · have e' : ¬ q.1 = k := fun z => e (h1.trans z)
      have b : atKey (q :: qs) k = atKey qs k := by simp [atKey, List.find?_cons, e']
      rw [valV_neg e, b]; exact ih
theorem KT.repl {H : Hp} {kvs : List (List Key × V)} {xs : List (List Key × Addr × Value)} (r : KT H kvs xs) (k : List Key) {y : V} {u : Value} (ry : RelV y u) :
    KT H (kvs.map fun kv => if kv.1 = k then (kv.1, y) else kv) (xs.map (putAt k u)) := by
  induction r with
  | nil => exact .nil
  | @cons p q ps qs h t ih =>
    rw [List.map_cons, List.map_cons]
    refine .cons ?_ ih
    obtain ⟨h1, h2, h3⟩ := h
    unfold putAt
    by_cases e : p.1 = k
    · rw [if_pos e, if_pos (h1.symm.trans e)]; exact ⟨h1, h2, ry⟩
    · rw [if_neg e, if_neg (fun z => e (h1.trans z))]; exact ⟨h1, h2, h3⟩
theorem KT.put {H : Hp} {kvs : List (List Key × V)} {xs : List (List Key × Addr × Value)} (r : KT H kvs xs) (k : List Key) {b : Addr} {y : V} {u : Value} (hb : H b = some (.tup (k.map kV))) (ry : RelV y u) :
    KT H (putK kvs k y) (storedH xs k b u) := by
  have e : (kvs.any fun kv => decide (kv.1 = k)) = (atKey xs k).isSome := by
    rw [valV_any, (r.val k).isSome_eq, Option.isSome_map]
  unfold putK storedH
  rw [e]
  by_cases q : (atKey xs k).isSome = true
  · rw [if_pos q, if_pos q]; exact r.repl k ry
  · rw [if_neg q, if_neg q]; exact Paired.snoc r ⟨rfl, hb, ry⟩
theorem KT.keeps {H H' : Hp} {kvs : List (List Key × V)} {xs : List (List Key × Addr × Value)} (r : KT H kvs xs) (ht : ∀ b ys, H b = some (.tup ys) → H' b = some (.tup ys)) : KT H' kvs xs :=
  Paired.mapP r fun _ _ z => ⟨z.1, ht _ _ z.2.1, z.2.2⟩
section
variable {P : Program} {w : World} {H : Hp} {h : Heap} {a : Addr}
theorem rd_of {u : HO} (ok : HOk P w H h) (e : Rd H a u) : ObjOk P w H h a u := e.ok ok
theorem dk_rd {kvs : List (Key × V)} (ok : HOk P w H h) (e : Rd H a (.dK kvs)) : kvs.length ≤ sizeLine ∧ (a == sysModules) = false ∧ ∃ vs, KV kvs vs ∧ h.DictOf (mixKind P w) a vs :=
  show ObjOk P w H h a (.dK kvs) from rd_of ok e
theorem dk_of {kvs : List (Key × V)} (ok : HOk P w H h) (e : H a = some (.dK kvs)) : kvs.length ≤ sizeLine ∧ (a == sysModules) = false ∧ ∃ vs, KV kvs vs ∧ h.DictOf (mixKind P w) a vs := dk_rd ok (.inl e)
theorem key_of {ks : List Key} (ok : HOk P w H h) (e : H a = some (.tup (ks.map kV))) : (tupleKind (mixKind P w)).is h ks a := by
  obtain ⟨_, its, r, ⟨o, h1, h2, n, h3⟩, _⟩ := (show ObjOk P w H h a (.tup (ks.map kV)) from ok a _ e)
  exact ⟨o, its.toArray, n, h1, h2, h3, by simpa using items_are r⟩
theorem dt_rd {kvs : List (List Key × V)} (ok : HOk P w H h) (e : Rd H a (.dT kvs)) : kvs.length ≤ sizeLine ∧ (a == sysModules) = false ∧
    ∃ xs, KT H kvs xs ∧ h.DictOfH (tupleKind (mixKind P w)) a xs := by
  obtain ⟨z, y, xs, r, o, es, ep, h1, h2, h3, h4, h5⟩ := (show ObjOk P w H h a (.dT kvs) from rd_of ok e)
  refine ⟨z, y, xs, r, o, es, ep, h1, h2, h3, h4, fun x hx => ?_, h5⟩
  have all : ∀ {l : List (List Key × V)} {m : List (List Key × Addr × Value)}, KT H l m → ∀ x ∈ m, (tupleKind (mixKind P w)).is h x.1 x.2.1 := by
    intro l m q
    induction q with
    | nil => intro x hx; exact nomatch hx
    | @cons p q ps qs hq t ih =>
      intro x hx
      rcases List.mem_cons.mp hx with e | hx
      · subst e
        exact key_of ok (by rw [← hq.1]; exact hq.2.1)
      · exact ih x hx
  exact all r x hx
theorem dt_of {kvs : List (List Key × V)} (ok : HOk P w H h) (e : H a = some (.dT kvs)) : kvs.length ≤ sizeLine ∧ (a == sysModules) = false ∧
    ∃ xs, KT H kvs xs ∧ h.DictOfH (tupleKind (mixKind P w)) a xs := dt_rd ok (.inl e)
end
def DGet (H : Hp) (a : Addr) (y : V) (r : Option V) : Prop :=
  (∃ kvs k, Rd H a (.dK kvs) ∧ y = kV k ∧ r = valV kvs k) ∨ ∃ kvs k b, Rd H a (.dT kvs) ∧ y = .ref b ∧ H b = some (.tup (k.map kV)) ∧ r = valV kvs k
def DPut (H : Hp) (a : Addr) (y v : V) (H' : Hp) : Prop :=
  (∃ kvs k, H a = some (.dK kvs) ∧ y = kV k ∧ kvs.length < sizeLine ∧ H' = upd H a (.dK (putK kvs k v))) ∨
  ∃ kvs k b, H a = some (.dT kvs) ∧ y = .ref b ∧ H b = some (.tup (k.map kV)) ∧ kvs.length < sizeLine ∧ H' = upd H a (.dT (putK kvs k v))
theorem DGet.k {H : Hp} {a : Addr} {kvs : List (Key × V)} {k : Key} (e : H a = some (.dK kvs)) : DGet H a (kV k) (valV kvs k) := .inl ⟨kvs, k, .inl e, rfl, rfl⟩
theorem DGet.t {H : Hp} {a b : Addr} {kvs : List (List Key × V)} {k : List Key} (e : H a = some (.dT kvs)) (eb : H b = some (.tup (k.map kV))) : DGet H a (.ref b) (valV kvs k) := .inr ⟨kvs, k, b, .inl e, rfl, eb, rfl⟩
theorem DPut.k {H : Hp} {a : Addr} {kvs : List (Key × V)} {k : Key} {v : V} (e : H a = some (.dK kvs)) (hl : kvs.length < sizeLine) : DPut H a (kV k) v (upd H a (.dK (putK kvs k v))) := .inl ⟨kvs, k, e, rfl, hl, rfl⟩
theorem DPut.t {H : Hp} {a b : Addr} {kvs : List (List Key × V)} {k : List Key} {v : V} (e : H a = some (.dT kvs)) (eb : H b = some (.tup (k.map kV))) (hl : kvs.length < sizeLine) :
    DPut H a (.ref b) v (upd H a (.dT (putK kvs k v))) := .inr ⟨kvs, k, b, e, rfl, eb, hl, rfl⟩
section
variable {X : Cx} {pins : List (Addr × Obj)} {σ : St} {H : Hp} {s : Shared} {a : Addr} {y v : V} {u r : Value} {o : Option V} {A : Around} {E : Value → Shared → Prop}
theorem Inv.big (I : Inv X pins σ H s) : sysModules < s.heap.objs.size := by
  have h : mainGlobals < s.heap.objs.size := (I.mod.glob.keeps I.bk).lt
  exact Nat.lt_trans (by decide) h
theorem d_getItem {Q : Value → Shared → Prop} (hu : A.units + 1 < cLine) (I : Inv X pins σ H s) (g : DGet H a y (some v)) (ry : RelV y u) (h : ∀ w' s', Inv X pins σ H s' → RelV v w' → Q w' s') :
    wpAny (model X.prog X.w) A (getItem (.ref a) u) Q E s := by
  rcases g with ⟨kvs, k, e, ey, l⟩ | ⟨kvs, k, b, e, ey, eb, l⟩
  · subst ey
    obtain ⟨z, hd, vs, rel, dd⟩ := dk_rd I.hok e
    obtain ⟨w', hw, rw'⟩ := RelO.some_of (v := v) (o := valueAt vs k) (by rw [l]; exact rel.val k)
    exact wpAny_getItem_of (kV_is ry) dd.mapOf hw (h w' _ (I.tok _) rw')
  · subst ey
    cases (show u = Value.ref b from ry)
    obtain ⟨z, hd, xs, rel, dd⟩ := dt_rd I.hok e
    obtain ⟨w', hw, rw'⟩ := RelO.some_of (v := v) (o := (atKey xs k).map (·.2)) (by rw [l]; exact rel.val k)
    obtain ⟨p, hp, hp2⟩ := Option.map_eq_some_iff.mp hw
    refine wpAny_getItem_heap (tupleKind_room_in1 hu) (key_of I.hok eb) dd hp ?_
    rw [hp2]
    exact h w' _ (I.tok _) rw'
theorem d_in {Q : Value → Shared → Prop} (hu : A.units + 1 < cLine) (I : Inv X pins σ H s) (g : DGet H a y o) (ry : RelV y u) (h : ∀ s', Inv X pins σ H s' → Q (.bool o.isSome) s') :
    wpAny (model X.prog X.w) A (compareOp .In u (.ref a)) Q E s := by
  rcases g with ⟨kvs, k, e, ey, l⟩ | ⟨kvs, k, b, e, ey, eb, l⟩
  · subst ey
    obtain ⟨z, hd, vs, rel, dd⟩ := dk_rd I.hok e
    refine wpAny_in_of (kV_is ry) hd dd.mapOf ?_
    rw [← (rel.val k).isSome_eq, ← l]
    exact h _ (I.tok _)
  · subst ey
    cases (show u = Value.ref b from ry)
    obtain ⟨z, hd, xs, rel, dd⟩ := dt_rd I.hok e
    refine wpAny_in_heap (tupleKind_room_in1 hu) (key_of I.hok eb) hd dd ?_
    have q := (rel.val k).isSome_eq
    rw [Option.isSome_map] at q
    rw [← q, ← l]
    exact h _ (I.tok _)
theorem d_notIn {Q : Value → Shared → Prop} (hu : A.units + 1 < cLine) (I : Inv X pins σ H s) (g : DGet H a y o) (ry : RelV y u) (h : ∀ s', Inv X pins σ H s' → Q (.bool (!o.isSome)) s') :
    wpAny (model X.prog X.w) A (compareOp .NotIn u (.ref a)) Q E s := by
  rcases g with ⟨kvs, k, e, ey, l⟩ | ⟨kvs, k, b, e, ey, eb, l⟩
  · subst ey
    obtain ⟨z, hd, vs, rel, dd⟩ := dk_rd I.hok e
    refine wpAny_notIn_of (kV_is ry) hd dd.mapOf ?_
    rw [← (rel.val k).isSome_eq, ← l]
    exact h _ (I.tok _)
  · subst ey
    cases (show u = Value.ref b from ry)
    obtain ⟨z, hd, xs, rel, dd⟩ := dt_rd I.hok e
    refine wpAny_notIn_heap (tupleKind_room_in1 hu) (key_of I.hok eb) hd dd ?_
    have q := (rel.val k).isSome_eq
    rw [Option.isSome_map] at q
    rw [← q, ← l]
    exact h _ (I.tok _)
theorem d_write {h' : Heap} {t' : Nat} {ob : HO} (I : Inv X pins σ H s) (mu : Mut (H a)) (hs : Heap.SameBut a s.heap h') (he : ∃ q, h'.get? a = some q) (new : ObjOk X.prog X.w (upd H a ob) h' a ob) :
    Inv X pins σ (upd H a ob) { s with heap := h', toks := t' } :=
  I.write (x := a) (e := a) mu (.inl rfl) (fun b q hb z => (hs.2 b hb).trans z) he new
theorem dk_new {P : Program} {w : World} {H' : Hp} {h' : Heap} {kvs : List (Key × V)} {vs : List (Key × Value)} (z : kvs.length ≤ sizeLine) (hd : (a == sysModules) = false) (rel : KV kvs vs) (dd : h'.DictOf (mixKind P w) a vs) :
    ObjOk P w H' h' a (.dK kvs) := ⟨z, hd, vs, rel, dd⟩
theorem d_setItem {H' : Hp} {Q : Unit → Shared → Prop} (hu : A.units + 1 < cLine) (I : Inv X pins σ H s) (g : DPut H a y v H') (ry : RelV y u) (rv : RelV v r) (h : ∀ s', Inv X pins σ H' s' → Q () s') :
    wpAny (model X.prog X.w) A (setItem (.ref a) u r) Q E s := by
  rcases g with ⟨kvs, k, e, ey, l, eH⟩ | ⟨kvs, k, b, e, ey, eb, l, eH⟩
  · subst ey eH
    obtain ⟨z, hd, vs, rel, dd⟩ := dk_of I.hok e
    have hz : vs.length ≤ sizeLine := by rw [← rel.length]; exact z
    have hl : (putK kvs k v).length ≤ sizeLine := by have := length_putK kvs k v; omega
    refine wpAny_setItem_pairs (hsz := hz) (kV_is ry) dd fun h' dd' hs => h _ ?_
    have he : ∃ q, h'.get? a = some q := let ⟨q, _, _, hq, _⟩ := dd'; ⟨q, hq⟩
    exact d_write I (by rw [e]; exact True.intro) hs he (dk_new hl hd (rel.put k rv) dd')
  · subst ey eH
    cases (show u = Value.ref b from ry)
    obtain ⟨z, hd, xs, rel, dd⟩ := dt_of I.hok e
    have hz : xs.length ≤ sizeLine := by rw [← Paired.length rel]; exact z
    have hl : (putK kvs k v).length ≤ sizeLine := by have := length_putK kvs k v; omega
    refine wpAny_setItem_heap (hsz := hz) (tupleKind_room_in1 hu) (key_of I.hok eb) dd fun h' dd' hs => h _ ?_
    obtain ⟨q, es, ep, hq, h2, h3, h4, _, h5⟩ := dd'
    refine d_write I (by rw [e]; exact True.intro) hs ⟨q, hq⟩ ⟨hl, hd, _, (rel.put k eb rv).keeps fun c ys ec => ?_, q, es, ep, hq, h2, h3, h4, h5⟩
    rw [upd_ne (ne_of ec e (fun z => nomatch z))]
    exact ec
end
section
variable {X : Cx} {pins : List (Addr × Obj)} {σ : St} {H : Hp} {s : Shared} {a : Addr} {kvs : List (Key × V)} {k : Key} {u : Value} {A : Around} {E : Value → Shared → Prop}
end
def NoSl (i : Expr) : Prop := ∀ ov iv, subscripted i false ov iv = operate [ov, iv] (getItem ov iv)
theorem subD_of {prog : Program} {w : World} {A : Around} {E : Value → Shared → Prop} {s : Shared} {env : Env} {value slice : Expr} {pos : Pos} {T id : String} {Q : Value → Shared → Prop}
    (hl : typeLookup (.type T) "__getitem__" = pure (some (.builtin id))) (hs : NoSl slice)
    (h : wpAny (model prog w) A (eval value env) (fun o s₁ => wpAny (model prog w) A (eval slice env) (fun i s₂ => s₂.TypeIs o T ∧ wpAny (model prog w) A (getItem o i) Q E s₂) E s₁) E s) :
    wpAny (model prog w) A (eval (.Subscript value slice pos) env) Q E s := by
  refine Subscript_ (wpAny_mono h (fun o s₁ h₁ => wpAny_mono h₁ (fun i s₂ h₂ => ?_) fun _ _ x => x) fun _ _ x => x)
  obtain ⟨hT, h₂⟩ := h₂
  unfold subscriptTail
  refine wpAny_bind ?_
  rw [getitemInPython_of_ne hT.not_modules]
  refine wpAny_bind (wpAny_specialOf hT hl ?_)
  have fin : wpAny (model prog w) A (subscripted slice false o i) (fun r s₃ => wpAny (model prog w) A (letTemporaryGo value o r >>= fun _ => pure r) Q E s₃) E s₂ := by
    rw [hs o i]
    exact wpAny_operating (wpAny_mono h₂ (fun r s₃ h₃ => wpAny_bind (wpAny_letTemporaryGo (wpAny_pure h₃))) fun _ _ x => x)
  first
    | exact wpAny_pure (wpAny_bind fin)
    | exact wpAny_bind (wpAny_pure (wpAny_bind fin))
    | exact wpAny_bind fin
theorem dict_typeIs {X : Cx} {pins : List (Addr × Obj)} {σ : St} {H : Hp} {s : Shared} {a : Addr} {y : V} {o : Option V} (I : Inv X pins σ H s) (g : DGet H a y o) : s.TypeIs (.ref a) "dict" := by
  rcases g with ⟨kvs, k, e, _, _⟩ | ⟨kvs, k, b, e, _, _, _⟩
  · obtain ⟨_, _, vs, _, dd⟩ := dk_rd I.hok e
    exact dd.typeIs
  · obtain ⟨_, _, xs, _, dd⟩ := dt_rd I.hok e
    exact dd.typeIs
def tDGet (td ty : TE) : TE := fun σ H Q => td σ H fun x H1 => ty σ H1 fun y H2 => ∃ a v, x = .ref a ∧ DGet H2 a y (some v) ∧ Q v H2
def tDIn (ty td : TE) : TE := fun σ H Q => ty σ H fun y H1 => td σ H1 fun x H2 => ∃ a o, x = .ref a ∧ DGet H2 a y o ∧ Q (.bl o.isSome) H2
def tDNotIn (ty td : TE) : TE := fun σ H Q => ty σ H fun y H1 => td σ H1 fun x H2 => ∃ a o, x = .ref a ∧ DGet H2 a y o ∧ Q (.bl (!o.isSome)) H2
def sDPut (td ty tv : TE) : TS := fun D σ H => tv σ H fun v H1 => td σ H1 fun x H2 => ty σ H2 fun y H3 => ∃ a H4, x = .ref a ∧ DPut H3 a y v H4 ∧ D.nx σ H4
section
variable {X : Cx} {o i e value : Expr} {pos pos' tpos : Pos} {td ty tv : TE}
theorem pe_dget (hu : X.A.units + 1 < cLine) (ho : PE X o td) (hi : PE X i ty) (hs : NoSl i) : PE X (.Subscript o i pos) (tDGet td ty) := by
  intro pins s σ H Q I h
  refine subD_of PySem.F.slot_dict_getitem.lookup hs (thn (ho pins s σ H _ I h) fun u s1 ⟨x, H1, I1, rx, q1⟩ => thn (hi pins s1 σ H1 _ I1 q1) fun iv s2 ⟨y, H2, I2, ry, a, v, ex, g, q2⟩ => ?_)
  subst ex
  obtain rfl : u = Value.ref a := rx
  exact ⟨dict_typeIs I2 g, d_getItem hu I2 g ry fun w' s3 I3 rw' => ⟨v, H2, I3, rw', q2⟩⟩
theorem pc_din (hu : X.A.units + 1 < cLine) (hi : PE X i ty) (ho : PE X o td) : PC X .In i o (tDIn ty td) := by
  intro pins s σ H Q I h
  refine thn (hi pins s σ H _ I h) fun iv s1 ⟨y, H1, I1, ry, q1⟩ => thn (ho pins s1 σ H1 _ I1 q1) fun u s2 ⟨x, H2, I2, rx, a, ov, ex, g, q2⟩ => ?_
  subst ex
  obtain rfl : u = Value.ref a := rx
  exact d_in hu I2 g ry fun s3 I3 => ⟨.bl ov.isSome, H2, I3, rfl, q2⟩
theorem pc_dnotin (hu : X.A.units + 1 < cLine) (hi : PE X i ty) (ho : PE X o td) : PC X .NotIn i o (tDNotIn ty td) := by
  intro pins s σ H Q I h
  refine thn (hi pins s σ H _ I h) fun iv s1 ⟨y, H1, I1, ry, q1⟩ => thn (ho pins s1 σ H1 _ I1 q1) fun u s2 ⟨x, H2, I2, rx, a, ov, ex, g, q2⟩ => ?_
  subst ex
  obtain rfl : u = Value.ref a := rx
  exact d_notIn hu I2 g ry fun s3 I3 => ⟨.bl (!ov.isSome), H2, I3, rfl, q2⟩
theorem ps_dput (hu : X.A.units + 1 < cLine) (ho : PE X o td) (hi : PE X i ty) (hv : PE X value tv) (hs : swapsWith value (some (.Subscript o i pos')) pos.line X.env = pure false) :
    PS X (.Assign [.Subscript o i pos'] value pos) (sDPut td ty tv) := by
  intro pins s σ H D I h
  refine wpAny_Assign_Subscript (thn (hv pins s σ H _ I h) fun r s1 ⟨v, H1, I1, rv, q1⟩ => thn (ho pins s1 σ H1 _ I1 q1) fun u s2 ⟨x, H2, I2, rx, q2⟩ => thn (hi pins s2 σ H2 _ I2 q2) fun iv s3 ⟨y, H3, I3, ry, a, H4, ex, g, q3⟩ => ?_) hs
  subst ex
  obtain rfl : u = Value.ref a := rx
  exact d_setItem hu I3 g ry rv fun s4 I4 => ⟨σ, H4, I4, q3⟩
end
theorem dk_empty {P : Program} {w : World} {H : Hp} (h : Heap) (hb : sysModules < h.objs.size) : ObjOk P w H (h.push { cls := .type "dict", data := .dict #[] }) h.objs.size (.dK []) :=
  ⟨Nat.zero_le _, beq_eq_false_iff_ne.mpr (Ne.symm (Nat.ne_of_lt hb)), [], .nil, Heap.DictOf.new h⟩
theorem dt_empty {P : Program} {w : World} {H : Hp} (h : Heap) (hb : sysModules < h.objs.size) : ObjOk P w H (h.push { cls := .type "dict", data := .dict #[] }) h.objs.size (.dT []) :=
  ⟨Nat.zero_le _, beq_eq_false_iff_ne.mpr (Ne.symm (Nat.ne_of_lt hb)), [], .nil, _, #[], 0, Heap.get?_push_size _ rfl, ⟨rfl, rfl, rfl⟩, rfl, rfl, List.nodup_nil⟩
def tDNewK : TE := fun _ H Q => ∀ p, H p = none → Q (.ref p) (upd H p (.dK []))
def tDNewT : TE := fun _ H Q => ∀ p, H p = none → Q (.ref p) (upd H p (.dT []))
section
variable {X : Cx} {pos : Pos}
theorem pe_dnewK : PE X (.Dict [] [] pos) tDNewK := fun pins s σ H Q I h =>
  wpAny_Dict_empty ⟨.ref s.heap.objs.size, _, I.laid (a := s.heap.objs.size) (o := .dK []) (t' := s.toks) (fun _ _ q => Heap.get?_push_of_some _ q) (Nat.le_refl _) (dk_empty s.heap I.big), rfl, h _ (I.hok.fresh (Nat.le_refl _))⟩
theorem pe_dnewT : PE X (.Dict [] [] pos) tDNewT := fun pins s σ H Q I h =>
  wpAny_Dict_empty ⟨.ref s.heap.objs.size, _, I.laid (a := s.heap.objs.size) (o := .dT []) (t' := s.toks) (fun _ _ q => Heap.get?_push_of_some _ q) (Nat.le_refl _) (dt_empty s.heap I.big), rfl, h _ (I.hok.fresh (Nat.le_refl _))⟩
end
def mergeK (kvs more : List (Key × V)) : List (Key × V) := more.foldl (fun acc kv => putK acc kv.1 kv.2) kvs
theorem KV.merge : ∀ {more : List (Key × V)} {rs : List (Key × Value)} {kvs : List (Key × V)} {vs : List (Key × Value)}, KV more rs → KV kvs vs → KV (mergeK kvs more) (merged vs rs) := by
  intro more rs kvs vs r
  unfold KV at r
  induction r generalizing kvs vs with
  | nil => intro q; exact q
  | @cons p q ps qs h t ih =>
    intro r0
    have e : KV (putK kvs p.1 p.2) (stored vs q.1 q.2) := by
      have := r0.put p.1 h.2
      rw [← h.1]; exact this
    exact ih e
theorem length_mergeK : ∀ (more kvs : List (Key × V)), (mergeK kvs more).length ≤ kvs.length + more.length
  | [], kvs => by show kvs.length ≤ kvs.length + 0; omega
  | p :: r, kvs => by
    have h1 := length_mergeK r (putK kvs p.1 p.2)
    have h2 := length_putK kvs p.1 p.2
    show (mergeK (putK kvs p.1 p.2) r).length ≤ _
    rw [List.length_cons]; omega
structure M2 (X : Cx) (o : Expr) (m : Str) (apos : Pos) (e f : Expr) (cpos : Pos) : Prop where
  base : attributeBase o m X.env (eval o X.env) = eval o X.env
  few : ((backTo cpos (starEach [e, f] X.env)).all (fun x => !x.1) && (backToKw cpos (keywordEach [] X.env)).all (fun x => x.1.isSome)
    && decide (([e, f] : List Expr).length + ([] : List Keyword).length + (if ([] : List Keyword).isEmpty then 0 else 1) < 30)) = true
  line : (apos.endLine == cpos.line) = true
  trees : backTo cpos (starEach [e, f] X.env) = [(false, eval e X.env), (false, eval f X.env)]
def IsD (H : Hp) (a : Addr) : Prop := (∃ kvs, Rd H a (.dK kvs)) ∨ ∃ kvs, Rd H a (.dT kvs)
theorem isD_at {X : Cx} {pins : List (Addr × Obj)} {σ : St} {H : Hp} {s : Shared} {a : Addr} (I : Inv X pins σ H s) (d : IsD H a) :
    s.TypeIs (.ref a) "dict" ∧ (∀ b, Value.ref a = .ref b → ∃ ob, s.heap.get? b = some ob ∧ ob.dict = none) ∧ (a == sysModules) = false := by
  rcases d with ⟨kvs, e⟩ | ⟨kvs, e⟩
  · obtain ⟨_, hd, vs, _, dd⟩ := dk_rd I.hok e
    refine ⟨dd.typeIs, fun b q => ?_, hd⟩
    cases q
    obtain ⟨ob, _, _, h1, h2, _⟩ := dd
    exact ⟨ob, h1, h2.2.1⟩
  · obtain ⟨_, hd, xs, _, dd⟩ := dt_rd I.hok e
    refine ⟨dd.typeIs, fun b q => ?_, hd⟩
    cases q
    obtain ⟨ob, _, _, h1, h2, _⟩ := dd
    exact ⟨ob, h1, h2.2.1⟩
section
variable {X : Cx} {pins : List (Addr × Obj)} {σ : St} {H : Hp} {s : Shared} {a : Addr} {y d : V} {u r : Value} {o : Option V} {A : Around} {E : Value → Shared → Prop}
theorem d_get2 {Q : Value → Shared → Prop} (hu : A.units + 1 < cLine) (I : Inv X pins σ H s) (g : DGet H a y o) (ry : RelV y u) (rd : RelV d r) (h : ∀ w' s', Inv X pins σ H s' → RelV (o.getD d) w' → Q w' s') :
    wpAny (model X.prog X.w) A (call (.builtin "dict.get") [.ref a, u, r]) Q E s := by
  rcases g with ⟨kvs, k, e, ey, l⟩ | ⟨kvs, k, b, e, ey, eb, l⟩
  · subst ey
    obtain ⟨z, hd, vs, rel, dd⟩ := dk_rd I.hok e
    refine call_meetsIn PySem.F.slot_dict_get dd.typeIs PySem.F.entry_dict_get (PySem.F.args_dict_get_3 _ _ _) (meets_dict_get_default (mixKind X.prog X.w) a (kV_is ry) hd r) ⟨_, dd.mapOf, h _ _ (I.tok _) ?_⟩
    rw [l]
    exact (rel.val k).getD rd
  · subst ey
    cases (show u = Value.ref b from ry)
    obtain ⟨z, hd, xs, rel, dd⟩ := dt_rd I.hok e
    refine call_meetsIn PySem.F.slot_dict_get dd.typeIs PySem.F.entry_dict_get (PySem.F.args_dict_get_3 _ _ _) (meetsH_dict_get_default (tupleKind (mixKind X.prog X.w)) a b hd r) ⟨tupleKind_room_in1 hu, k, xs, key_of I.hok eb, dd, h _ _ (I.tok _) ?_⟩
    rw [l]
    exact (rel.val k).getD rd
end
def tDGet2 (td ty tx : TE) : TE := fun σ H Q => td σ H fun x H1 => ∃ a, x = .ref a ∧ IsD H1 a ∧ ty σ H1 fun y H2 => tx σ H2 fun z H3 => ∃ o, DGet H3 a y o ∧ Q (o.getD z) H3
section
variable {X : Cx} {o e f : Expr} {apos cpos : Pos} {td ty tx : TE}
theorem pe_dget2 (hu : X.A.units + 1 < cLine) (ho : PE X o td) (he : PE X e ty) (hf : PE X f tx) (m : M2 X o "get" apos e f cpos) : PE X (.Call (.Attribute o "get" apos) [e, f] [] cpos) (tDGet2 td ty tx) := by
  intro pins s σ H Q I h
  refine wpAny_Call_method m.base m.few m.line PySem.F.plainAttrs_dict PySem.F.slot_dict_get PySem.F.type_dict_get (thn (ho pins s σ H _ I h) fun u s1 ⟨x, H1, I1, rx, a, ex, d, q1⟩ => ?_)
  subst ex
  obtain rfl : u = Value.ref a := rx
  obtain ⟨t1, t2, _⟩ := isD_at I1 d
  refine ⟨t1, t2, ?_⟩
  rw [m.trees]
  refine Calls.callWith_builtin rfl (Calls.evalArgs_plain (Calls.spliced_cons (thn (he pins s1 σ H1 _ I1 q1) fun iv s2 ⟨y, H2, I2, ry, q2⟩ =>
    Calls.spliced_cons (thn (hf pins s2 σ H2 _ I2 q2) fun fv s3 ⟨z, H3, I3, rz, ov, g, q3⟩ => Calls.spliced_nil ?_))))
  exact d_get2 hu I3 g ry rz fun w' s4 I4 rw' => ⟨_, H3, I4, rw', q3⟩
end
section
variable {X : Cx} {pins : List (Addr × Obj)} {σ : St} {H : Hp} {s : Shared} {a : Addr} {kvs : List (Key × V)} {A : Around} {E : Value → Shared → Prop}
end
section
variable {X : Cx} {pins : List (Addr × Obj)} {σ : St} {H : Hp} {s : Shared} {a : Addr} {y : V} {u : Value} {A : Around} {E : Value → Shared → Prop}
end
end L2
set_option maxHeartbeats 4000000
namespace L2
open PySem
end L2
namespace L2
open PySem PySem.Spec PyProof.Rows
def cxComp (X : Cx) (scope : Scope) (x : Str) (C : Addr) (s : Shared) (H : Hp) (fp : List Addr) : Cx :=
  { X with
    N := [x]
    s₀ := s
    H₀ := H
    env := { scope := scope, locals := C, globals := X.env.globals, cells := [], qual := X.env.qual, func := none, code := X.env.code, frame := X.env.frame, builtins := X.env.builtins }
    outer := X.stack
    stack := X.stack
    ex := fp
    fn := fun _ => true
    pn := []
    xe := fun _ _ => False }
def tComp (wi : TI) (te : TE) : TE := fun σ H Q => wi σ H fun J H1 => ∀ D, H1 D = none → ∃ W : Nat → Nat → List V → Hp → Prop,
  (∃ m, W 0 m [] (upd H1 D (.lst []))) ∧ ∀ i m ys H2, W i m ys H2 → H2 D = some (.lst ys) ∧
    ((J.stop i H2 ∧ Q (.ref D) H2) ∨ (J.go i H2 ∧ ∀ x H3, J.yld i H2 x H3 → te [some x] H3 fun y H4 => H4 D = some (.lst ys) ∧ ys.length < sizeLine ∧ ∃ m', m' < m ∧ W (i + 1) m' (ys ++ [y]) (upd H4 D (.lst (ys ++ [y])))))
section
variable {X : Cx}
theorem pe_comp {elt iter : Expr} {x : Str} {px pos : Pos} {scope : Scope} {wi : TI} {te : TE} (hc : X.calm = true)
    (hfree : ∀ nk ∈ scope.names, nk.2 ≠ .free) (hcell : ∀ nk ∈ scope.names, nk.2 ≠ .cell) (hkind : scope.kind = .function)
    (hnames : ∀ nk ∈ scope.names, nk.2 = .local → scope.names.lookup nk.1 = some .local) (hx : scope.names.lookup x = some .local)
    (hi : PI X (.Name x px) iter wi) (he : ∀ C s H fp, PE (cxComp X scope x C s H fp) elt te)
    (hs : ∀ v, foldedSetIterable iter X.env v = pure v := by intro _; rfl) : PE X (.ListComp elt [⟨.Name x px, iter, [], 0⟩] scope pos) (tComp wi te) := by
  intro pins s σ H Q I h
  refine wpAny_ListComp hfree hkind hnames (thn (hi pins s σ H _ I h) fun v s1 h1 => thn h1 fun itv s2 h2 => ?_) hs
  obtain ⟨it, fp, tn, J, H2, e, I2, T, st2, f2, hR⟩ := h2
  subst e
  have hD0 : H2 s2.heap.objs.size = none := I2.fresh
  obtain ⟨W, ⟨m0, w0⟩, turnW⟩ := hR _ hD0
  have I3 : Inv X pins σ (upd H2 s2.heap.objs.size (.lst [])) { s2 with heap := s2.heap.push { cls := .type "list", data := .seq ([] : List Value).toArray } } := I2.lnew (t' := s2.toks) .nil (Nat.zero_le _)
  refine wpAny_newObj_type (wpAny_newFunctionEnv hcell (fun nk hnk => by simp at hnk) (fun h₁ hns₁ hsb₁ => ?_) hkind)
  dsimp only at hns₁ hsb₁ ⊢
  generalize hs3 : ({ s2 with heap := s2.heap.push { cls := .type "list", data := .seq ([] : List Value).toArray } } : Shared) = s3 at I3
  have eh3 : s3.heap = s2.heap.push { cls := .type "list", data := .seq ([] : List Value).toArray } := by rw [← hs3]
  have hC : s3.heap.objs.size = s2.heap.objs.size + 1 := by rw [eh3, Heap.size_push]
  have old : ∀ b o, s3.heap.get? b = some o → h₁.get? b = some o := fun b o e => by
    have hb : b ≠ s3.heap.objs.size := Nat.ne_of_lt (Heap.lt_size e)
    rw [eh3] at e hb
    exact hsb₁.extBut b o hb (Heap.get?_push_of_some _ e)
  have fpl : ∀ b ∈ fp, b < s2.heap.objs.size := fun b hb => let ⟨o, e, _⟩ := T.obj _ _ st2 b hb; Heap.lt_size e
  have fps : ∀ b ∈ fp, b ∉ frs X.stack := fun b hb z => (List.mem_cons.mp (I2.stkSub b z)).elim (f2 b hb).2.1 (f2 b hb).2.2.1
  let X' : Cx := cxComp X scope x s3.heap.objs.size s3 (upd H2 s2.heap.objs.size (.lst [])) fp
  have noc : ∀ (y : Str) (c : Addr), ¬ (([] : List (Str × Addr)).lookup y = some c) := fun y c e => by cases e
  have okX : X'.Ok := by
    refine ⟨I2.ok.mod, hkind, I2.ok.glob, I2.ok.blt, Nat.le_refl _, fun y z c e => absurd e (noc y c), fun y hy => ?_, fun y c _ e => absurd e (noc y c), I2.ok.hd, I2.ok.frames, .inl rfl, fun b hb => ⟨?_, fun y c e => absurd e (noc y c)⟩,
      I3.bs, Nat.le_trans I3.ok.bsz I3.sz, fun b o e hb => ?_, fps, I3.stack, I3.stkFree⟩
    · have hy' : scope.names.lookup y = some .cell ∨ scope.names.lookup y = some .free := hy
      rcases hy' with q | q
      · exact absurd rfl (hcell _ (PySem.mem_of_lookup q))
      · exact absurd rfl (hfree _ (PySem.mem_of_lookup q))
    · exact Nat.ne_of_lt (Nat.lt_of_lt_of_le (fpl b hb) (by show s2.heap.objs.size ≤ s3.heap.objs.size; rw [hC]; exact Nat.le_succ _))
    · rcases (f2 b hb).2.2.2.1 with z | z
      · exact I2.ok.noex b o e z
      · exact absurd (Nat.lt_of_lt_of_le (Heap.lt_size (I2.ok.bs b o e).1) z) (Nat.lt_irrefl _)
  have stat : ∀ {H' : Hp}, (∀ b ∈ fp, H' b = none) → ∀ b ∈ fp, FpOk X' [] H' b := fun hn b hb => by
    refine ⟨hn b hb, ?_, fps b hb, .inl hb, fun y c e => absurd e (noc y c), fun p hp => absurd (show p ∈ ([] : List (Addr × Obj)) from hp) (by simp)⟩
    exact Nat.ne_of_lt (Nat.lt_of_lt_of_le (fpl b hb) (by show s2.heap.objs.size ≤ s3.heap.objs.size; rw [hC]; exact Nat.le_succ _))
  have I4 : ∀ tk : Nat, Inv X' [] [none] (upd H2 s2.heap.objs.size (.lst [])) { s3 with heap := h₁, toks := tk } := fun tk => by
    refine ⟨okX, rfl, I3.bare, Un.kept old, ⟨_, by rw [← eh3] at hns₁; exact hns₁, fun i y v _ e2 _ => ?_⟩, fun y c e => absurd e (noc y c), I3.hok.fresh (Nat.le_refl _), fun y c e => absurd e (noc y c), fun p hp => absurd (show p ∈ ([] : List (Addr × Obj)) from hp) (by simp), I3.hok.kept old, rfl⟩
    cases i with
    | zero => simp at e2
    | succ i => simp at e2
  have fr0 : ∀ b ∈ fp, (upd H2 s2.heap.objs.size (.lst []) : Hp) b = none := fun b hb => by rw [upd_ne (Nat.ne_of_lt (fpl b hb))]; exact (f2 b hb).1
  have st4 : tn 0 h₁ := T.keep 0 _ _ st2 fun b hb o e => old b o (by rw [eh3]; exact Heap.get?_push_of_some _ e)
  have fin : ∀ {v0 : Option V} {H' : Hp} {s5 : Shared} {h' : Heap}, Inv X' [] [v0] H' s5 → Heap.SameBut s3.heap.objs.size s5.heap h' → Q (.ref s2.heap.objs.size) H' → EP X pins σ Q (.ref s2.heap.objs.size) { s5 with heap := h' } := by
    intro v0 H' s5 h' I5 sb q
    obtain ⟨hh, g, d, t, os'⟩ := s5
    have eo : os' = s3.os := I5.os
    subst eo
    have keepC : ∀ b o, b ≠ s3.heap.objs.size → hh.get? b = some o → h'.get? b = some o := fun b o hb e => sb.extBut b o hb e
    have ne3 : ∀ b o, s3.heap.get? b = some o → b ≠ s3.heap.objs.size := fun b o e => Nat.ne_of_lt (Heap.lt_size e)
    have u : Un (frs X.stack) fp (upd H2 s2.heap.objs.size (.lst [])) H' s3.heap hh := I5.base
    have un : Un (frs X.stack) fp (upd H2 s2.heap.objs.size (.lst [])) H' s3.heap h' :=
      ⟨fun b o e n hb hx => keepC b o (ne3 b o e) (u.keep b o e n hb hx), fun b o e n hb hx => let ⟨sl, q⟩ := u.slot b o e n hb hx; ⟨sl, keepC b _ (ne3 b o e) q⟩, u.free, fun b o e hx => let ⟨o', q⟩ := u.there b o e hx; ⟨o', keepC b o' (ne3 b o e) q⟩, u.tups, u.frzs, u.tbls⟩
    have hfree' : H' s3.heap.objs.size = none := I5.free
    have hok' : HOk X.prog X.w H' h' := fun b u e => by
      refine (I5.hok b u e).stay (fun c v hc q => keepC c v ?_ q) (fun _ q => q) fun _ _ q => q
      rcases hc with z | z
      · rw [z]; intro z2; rw [z2, hfree'] at e; cases e
      · intro z2; rw [z2, hfree'] at z; cases z
    have J := I3.call (h' := h') (g' := g) (d' := d) (t' := t) (ch := fp) un hok' I5.bare (fun b hb => let ⟨_, h1, _, h2, h3, h4⟩ := f2 b hb; ⟨h2, h1, h3, h4⟩)
    exact ⟨.ref s2.heap.objs.size, H', J, rfl, q⟩
  have loop : ∀ s4 : Shared, s4.heap = h₁ → (∃ tk, s4 = { s3 with heap := h₁, toks := tk }) →
      codeAny (model X.prog X.w) X.A (.compLoop (.ListComp elt [⟨.Name x px, iter, [], 0⟩] scope pos) 0 (.ref it) (.ref s2.heap.objs.size) X'.env)
        (fun r s' => ∃ m, s'.heap.Ns s3.heap.objs.size m ∧ ∀ h', Heap.SameBut s3.heap.objs.size s'.heap h' →
          match r with | .ok _ => EP X pins σ Q (.ref s2.heap.objs.size) { s' with heap := h' } | .error x => wpAny (model X.prog X.w) X.A (passOn "comprehension.variables-let-go" x X'.env) (EP X pins σ Q) X.xe { s' with heap := h' }) s4 := by
    rintro s4 e4 ⟨tk, rfl⟩
    refine codeAny_compLoop_list (fun n s' => ∃ i ys v0 H', Inv X' [] [v0] H' s' ∧ tn i s'.heap ∧ (∀ b ∈ fp, H' b = none) ∧ W i n ys H') ?_ m0 ⟨0, [], none, _, I4 tk, st4, fr0, w0⟩
    rintro n s5 ⟨i, ys, v0, H5, I5, st5, fr5, w5⟩
    obtain ⟨hD5, ⟨js, q⟩ | ⟨jg, step⟩⟩ := turnW i n ys H5 w5
    · refine wpAny_mono (T.done X' rfl rfl rfl hc i [] s5 _ H5 (fun _ _ => False) I5 (stat fr5) st5 js) (fun r s6 hr => ?_) fun _ _ z => z.elim
      obtain ⟨rfl, I6⟩ := hr
      obtain ⟨m, hn, _⟩ := I6.loc
      exact ⟨m, hn, fun h' sb => fin I6 sb q⟩
    · refine wpAny_mono (T.item X' rfl rfl rfl hc i [] s5 _ H5 (fun _ _ => False) I5 (stat fr5) st5 jg) (fun r s6 hr => ?_) fun _ _ z => z.elim
      obtain ⟨u, rfl, h6⟩ := hr
      show wpAny _ _ (letOwnedTupleGo (.Name x px) (.ref it) u >>= fun _ => assign (.Name x px) X'.env u) _ _ s6
      refine wpAny_bind (wpAny_mono h6 (fun _ s7 h7 => ?_) fun _ _ z => z.elim)
      obtain ⟨xv, H7, I7, r7, y7, st7, fr7⟩ := h7
      have I7' := I7.pinned (stat fr7) (T.obj _ _ st7)
      have nd : X'.N.Nodup := by show ([x] : List Str).Nodup; simp
      refine wpAny_mono (pg_name (X := X') (pos := px) (i := 0) (x := x) nd rfl (.inl hx) (.inl rfl) _ s7 [v0] H7 xv u (fun σ' H' => σ' = [some xv] ∧ H' = H7) I7' r7 ⟨rfl, rfl⟩) (fun _ s8 h8 => ?_) fun _ _ z => z.elim
      obtain ⟨σ8, H8, I8, rfl, rfl⟩ := h8
      refine wpAny_mono (he s3.heap.objs.size s3 (upd H2 s2.heap.objs.size (.lst [])) fp _ s8 [some xv] H8 _ I8 (step xv H8 y7)) (fun y s9 h9 => ?_) fun _ _ z => z.elim
      obtain ⟨yv, H9, I9, r9, hD9, hl9, m', lt, w9⟩ := h9
      refine wpAny_mono (mt_append (X := X') _ s9 [some xv] H9 (.ref s2.heap.objs.size) [yv] (.ref s2.heap.objs.size) [y] (fun _ H' => H' = upd H9 s2.heap.objs.size (.lst (ys ++ [yv]))) I9 rfl (.cons r9 .nil) ⟨_, ys, yv, rfl, rfl, hD9, hl9, rfl⟩) (fun _ s10 h10 => ?_) fun _ _ z => z.elim
      obtain ⟨_, H10, I10, _, rfl⟩ := h10
      refine ⟨m', lt, i + 1, ys ++ [yv], some xv, _, I10.unpinned, T.keep _ _ _ st7 fun b hb o e => (I10.pin (b, o) (List.mem_append_right _ (List.mem_append_right _ (mem_pinsAt hb e)))).1, fun b hb => ?_, w9⟩
      obtain ⟨o, e, d⟩ := T.obj _ _ st7 b hb
      exact (I10.pin (b, o) (List.mem_append_right _ (List.mem_append_right _ (mem_pinsAt hb e)))).2.1
  have L := loop { s3 with heap := h₁, toks := s2.toks + ([] : List (Str × Value)).length } rfl ⟨_, rfl⟩
  subst hs3
  exact codeAny_compStart_list L (T.self _ 0 _ _ _ st4 L)
end
def Its (z : Str) : It := ⟨fun i _ => i < z.length, fun i H x H' => H' = H ∧ ∃ c, z.cps[i]? = some c ∧ x = .str ⟨#[c]⟩, fun i _ => i = z.length⟩
theorem turn_str {P : Program} {w : World} {K : PySem.W.Frag} {tg : Expr} (it : Addr) (z : Str) (t : Tok) (ty : String)
    (W : ∀ A : Around, A.handled = none → Walks P w A it [it] [it] z.cps.size (SignAt z) (fun i h => h.IsStrIter it ty z t i))
    (hn : ["enumerate", "zip", "dict_itemiterator", "dict_reverseitemiterator", "odict_iterator", "itertools.zip_longest", "itertools.pairwise"].contains ty = false)
    (hself : ∀ (A : Around) (i : Nat) (s : Shared) (Q : Value → Shared → Prop) (E : Value → Shared → Prop), s.heap.IsStrIter it ty z t i → Q (.ref it) s → wpAny (model P w) A (pyIter (.ref it)) Q E s) :
    Turn P w K tg (Its z) [it] it (fun i h => h.IsStrIter it ty z t i) where
  mem := by simp
  obj := fun i h st b hb => by
    have e : b = it := by simpa using hb
    subst e
    obtain ⟨o, e, c, d⟩ := st
    exact ⟨o, e, fun v z => by rw [d] at z; cases z⟩
  keep := fun i h h' st k => by
    obtain ⟨o, e, r⟩ := st
    exact ⟨o, k it (by simp) o e, r⟩
  item := by
    intro X hP hw hK hc i pins s σ H E I hf st hg
    subst hP hw hK
    obtain ⟨f0, f1, f2, f3, f4, f5⟩ := hf it (by simp)
    refine (W X.A (I.ok.hd hc)).item i s _ _ hg st fun v h' tk hv st' kk => ?_
    obtain ⟨c, u, hcx, rfl⟩ := hv
    have I1 : Inv X pins σ H { s with heap := h', toks := tk } := I.turned (fun b o hb e => kk b o (by simpa using hb) e) f0 f1 f3 f4 f5
    obtain ⟨o, e, cl, d⟩ := id st'
    exact ⟨_, rfl, go_of (s := { s with heap := h', toks := tk }) e cl d hn ⟨.str ⟨#[c]⟩, H, I1, ⟨u, rfl⟩, ⟨rfl, c, hcx, rfl⟩, st', fun b hb => (hf b hb).1⟩⟩
  done := by
    intro X hP hw hK hc i pins s σ H E I hf st hg
    subst hP hw hK
    obtain ⟨f0, f1, f2, f3, f4, f5⟩ := hf it (by simp)
    have hi : i = z.length := hg
    subst hi
    exact (W X.A (I.ok.hd hc)).done s _ _ st fun h' tk kk => ⟨rfl, I.turned (fun b o hb e => kk b o (by simpa using hb) e) f0 f1 f3 f4 f5⟩
  self := fun A i s Q E st h => hself A i s Q E st h
section
variable {X : Cx} {tg : Expr}
def iStr (tl : TE) : TI := fun σ H R => tl σ H fun x H1 => ∃ z, x = .str z ∧ R (Its z) H1
theorem pi_str {l : Expr} {tl : TE} (hl : PE X l tl) : PI X tg l (iStr tl) := by
  intro pins s σ H R I h
  refine thn (hl pins s σ H _ I h) fun v s1 ⟨x, H1, I1, r1, q1⟩ => ?_
  obtain ⟨z, e, q⟩ := q1
  subst e
  obtain ⟨t, rfl⟩ := r1
  have fp0 : ∀ b ∈ [s1.heap.objs.size], FpOk X pins H1 b := fun b hb => by
    have e : b = s1.heap.objs.size := by simpa using hb
    subst e
    exact I1.fpOk (Nat.le_refl _) (I1.hok.fresh (Nat.le_refl _))
  cases ha : z.cps.all (· < 128)
  · refine wpAny_pyIter_wide ha ?_
    exact ⟨s1.heap.objs.size, [s1.heap.objs.size], _, _, H1, rfl, I1.kept (t' := s1.toks) fun b o e => Heap.get?_push_of_some _ e, turn_str _ z t "str_iterator" (fun A hA => Walks.strWide hA _ z t) (by decide) (fun A i s Q E st h => wpAny_pyIter_striter_wide st h), ⟨_, Heap.get?_push_size _ rfl, rfl, rfl⟩, fp0, q⟩
  · refine wpAny_pyIter_ascii ha ?_
    exact ⟨s1.heap.objs.size, [s1.heap.objs.size], _, _, H1, rfl, I1.kept (t' := s1.toks) fun b o e => Heap.get?_push_of_some _ e, turn_str _ z t "str_ascii_iterator" (fun A hA => Walks.strAscii hA _ z t) (by decide) (fun A i s Q E st h => wpAny_pyIter_striter_ascii st h), ⟨_, Heap.get?_push_size _ rfl, rfl, rfl⟩, fp0, q⟩
end
theorem for_str {z : Str} {g : TG} {tb : TS} {D : Ends} {σ : St} {H : Hp} (Pv : Nat → St → Hp → Prop) (h0 : Pv 0 σ H)
    (hs : ∀ i c σ H, z.cps[i]? = some c → Pv i σ H → g (.str ⟨#[c]⟩) σ H fun σ2 H2 => tb { D with nx := Pv (i + 1), ct := Pv (i + 1), bk := D.nx } σ2 H2) (hd : ∀ σ H, Pv z.length σ H → D.nx σ H) :
    ∃ W : Nat → Nat → St → Hp → Prop, (∃ m, W 0 m σ H) ∧ ∀ i m σ H, W i m σ H →
      ((Its z).stop i H ∧ D.nx σ H) ∨ ((Its z).go i H ∧ ∃ N : St → Hp → Prop, (∀ σ' H', N σ' H' → ∃ m', m' < m ∧ W (i + 1) m' σ' H') ∧ ∀ x H', (Its z).yld i H x H' → g x σ H' fun σ2 H2 => tb { D with nx := N, ct := N, bk := D.nx } σ2 H2) := by
  refine ⟨fun i m σ H => m = z.length - i ∧ i ≤ z.length ∧ Pv i σ H, ⟨z.length, by simp, Nat.zero_le _, h0⟩, ?_⟩
  rintro i m σ H ⟨rfl, hi, p⟩
  by_cases hlt : i < z.length
  · refine .inr ⟨hlt, Pv (i + 1), fun σ' H' p' => ⟨z.length - (i + 1), by omega, rfl, hlt, p'⟩, fun x H' y => ?_⟩
    obtain ⟨e, c, hc, rfl⟩ := y
    subst e
    exact hs i c σ _ hc p
  · have e : i = z.length := by omega
    subst e
    exact .inl ⟨rfl, hd σ H p⟩
theorem Same.new {H : Hp} {p : Addr} (h : H p = none) (o : HO) : Same H (upd H p o) := fun b u q => by rw [upd_ne (ne_of_none q h)]; exact q
theorem Same.put {H H' : Hp} {p : Addr} {o o' : HO} (e : Same (upd H p o) H') (h : H p = none) : Same H (upd H' p o') := fun b u q => by
  have hb : b ≠ p := ne_of_none q h
  rw [upd_ne hb]
  exact e b u (by rw [upd_ne hb]; exact q)
theorem comp_list {K : PySem.W.Frag} {a : Addr} {xs : List V} {te : TE} {H1 : Hp} {QD : Hp → Prop} {f : V → V} (D : Addr) (hD : H1 D = none) (hq : SqL K H1 a xs) (hz : xs.length < sizeLine)
    (he : ∀ x H R, x ∈ xs → (∀ H', Same H H' → R (f x) H') → te [some x] H R)
    (hd : ∀ H', Same H1 H' → H' D = some (.lst (xs.map f)) → QD H') :
    ∃ W : Nat → Nat → List V → Hp → Prop, (∃ m, W 0 m [] (upd H1 D (.lst []))) ∧ ∀ i m ys H2, W i m ys H2 → H2 D = some (.lst ys) ∧
      (((Itl K a).stop i H2 ∧ QD H2) ∨ ((Itl K a).go i H2 ∧ ∀ x H3, (Itl K a).yld i H2 x H3 → te [some x] H3 fun y H4 => H4 D = some (.lst ys) ∧ ys.length < sizeLine ∧ ∃ m', m' < m ∧ W (i + 1) m' (ys ++ [y]) (upd H4 D (.lst (ys ++ [y]))))) := by
  refine ⟨fun i m ys H2 => m = xs.length - i ∧ i ≤ xs.length ∧ ys = (xs.take i).map f ∧ H2 D = some (.lst ys) ∧ Same H1 H2, ⟨xs.length, by simp, Nat.zero_le _, by simp, upd_same, Same.new hD _⟩, ?_⟩
  rintro i m ys H2 ⟨rfl, hi, rfl, hD2, sm⟩
  refine ⟨hD2, ?_⟩
  have q2 := sm.seq hq
  by_cases hlt : i < xs.length
  · refine .inr ⟨⟨xs, xs[i], q2, by simp [hlt]⟩, fun x H3 y => ?_⟩
    obtain ⟨rfl, y⟩ := y
    have hx := y xs q2
    refine he x H3 _ (List.mem_of_getElem? hx) fun H' sm' => ?_
    have hl : ((xs.take i).map f).length = i := by rw [List.length_map, List.length_take]; omega
    refine ⟨sm' _ _ hD2, by rw [hl]; omega, xs.length - (i + 1), by omega, rfl, hlt, ?_, upd_same, ?_⟩
    · rw [← List.map_singleton, ← List.map_append]
      congr 1
      rw [List.take_succ, hx]
      rfl
    · intro b o e
      have hb : b ≠ D := ne_of_none e hD
      rw [upd_ne hb]
      exact sm' _ _ (sm _ _ e)
  · have e : i = xs.length := by omega
    subst e
    rw [List.take_length] at hD2
    exact .inl ⟨⟨xs, q2, Nat.le_refl _⟩, hd H2 sm hD2⟩
theorem vals_strs : ∀ l : List (Str × Tok), Vals (l.map fun p => V.str p.1) (strValues l)
  | [] => .nil
  | p :: r => .cons ⟨p.2, rfl⟩ (vals_strs r)
theorem vals_strs' {l : List (Str × Tok)} {ts : List Str} (h : l.map (·.1) = ts) : Vals (ts.map V.str) (strValues l) := by
  subst h
  rw [List.map_map]
  exact vals_strs l
theorem strsAre_vals : ∀ {ts : List Str} {us : List Value}, Vals (ts.map V.str) us → StrsAre us ts
  | [], _, .nil => .nil
  | t :: ts, _, .cons ⟨k, e⟩ r => by
    subst e
    exact .cons t k (strsAre_vals r)
section
variable {X : Cx}
theorem Inv.strs {pins : List (Addr × Obj)} {σ : St} {H : Hp} {s : Shared} (I : Inv X pins σ H s) {l : List (Str × Tok)} {ts : List Str} (h : l.map (·.1) = ts) (hz : ts.length ≤ sizeLine) (k : Nat) :
    Inv X pins σ (upd H s.heap.objs.size (.lst (ts.map V.str))) { s with heap := s.heap.push { cls := .type "list", data := .seq (strValues l).toArray }, toks := k } :=
  I.lnew (vals_strs' h) (by rw [List.length_map]; exact hz)
def tJoin2 (ta tb : TE) : TE := fun σ H Q => ta σ H fun x H1 => ∃ a, x = .str a ∧ (Str.empty ++ a).length ≤ sizeLine ∧ tb σ H1 fun y H2 => ∃ b, y = .str b ∧ (Str.empty ++ a ++ b).length ≤ sizeLine ∧ Q (.str (Str.empty ++ a ++ b)) H2
theorem pe_join2 {a b : Expr} {ta tb : TE} {pos : Pos} (ha : PE X a ta) (hb : PE X b tb) : PE X (.JoinedStr [a, b] pos) (tJoin2 ta tb) := by
  intro pins s σ H Q I h
  refine wpAny_JoinedStr ?_
  show wpAny _ _ (eval a X.env) _ _ s
  refine thn (ha pins s σ H _ I h) fun v s1 ⟨x, H1, I1, r1, q1⟩ => ?_
  obtain ⟨y, rfl, hy, q1⟩ := q1
  obtain ⟨t, rfl⟩ := r1
  refine ⟨y, t, rfl, hy, ?_⟩
  show wpAny _ _ (eval b X.env) _ _ s1
  refine thn (hb pins s1 σ H1 _ I1 q1) fun v s2 ⟨x, H2, I2, r2, q2⟩ => ?_
  obtain ⟨y2, rfl, hy2, q2⟩ := q2
  obtain ⟨t2, rfl⟩ := r2
  exact ⟨y2, t2, rfl, hy2, hy2, .str _, H2, I2.tok _, ⟨_, rfl⟩, q2⟩
theorem Same.tup {K : PySem.W.Frag} {H H' : Hp} {a : Addr} {xs : List V} (e : Same H H') (h : SqT K H a xs) : SqT K H' a xs := by
  rcases h with (h | ⟨o, h⟩) | h
  · exact .inl (.inl (e _ _ h))
  · exact .inl (.inr ⟨o, e _ _ h⟩)
  · exact .inr h
end
end L2
namespace L2
open PySem PySem.Spec PyProof.Rows
theorem runs_toks {M : Model} {Γ : PySem.Ctx} {p : Pos} {t : Sem Fin} {fs : List Frame} {s s' : Shared} {e : End} (h : Runs M Γ p t fs s e s') : s.toks ≤ s'.toks := by
  induction h with
  | done => exact Nat.le_refl _
  | raise => exact Nat.le_refl _
  | yield => exact Nat.le_refl _
  | fresh _ ih => exact Nat.le_trans (Nat.le_succ _) ih
  | call _ _ a b => exact Nat.le_trans a b
  | resumeFresh _ _ _ _ a b => exact Nat.le_trans a b
  | resumeSuspended _ _ _ _ a b => exact Nat.le_trans a b
  | segRet _ _ a b => exact Nat.le_trans a b
  | segGen _ _ a b => exact Nat.le_trans a b
  | segSuspGen _ _ _ _ a b => exact Nat.le_trans a b
  | again _ _ ih => exact ih
  | rule _ ih => exact ih
  | «at» _ ih => exact ih
  | load _ _ ih => exact ih
  | update _ _ ih => exact ih
  | loadIfAlive _ ih => exact ih
  | point _ ih => exact ih
  | alloc _ ih => exact ih
  | ask _ ih => exact ih
  | choose _ _ ih => exact ih
  | os _ ih => exact ih
  | handled _ ih => exact ih
  | genState _ _ ih => exact ih
  | stack _ ih => exact ih
  | thread _ ih => exact ih
  | newGen _ ih => exact ih
  | callSusp _ ih => exact ih
  | resumeJustStarted _ _ _ ih => exact ih
  | resumeThrowFresh _ _ ih => exact ih
  | resumeRunning _ _ ih => exact ih
  | resumeFinished _ _ ih => exact ih
  | segSuspOut _ _ ih => exact ih
theorem wakes_toks {M : Model} {Γ : PySem.Ctx} {p : Pos} {g : Nat} {r : Resume} {s s' : Shared} {res : GenResult} (h : Wakes M Γ p g r s res s') : s.toks ≤ s'.toks := by
  unfold Wakes at h
  split at h
  · exact h.elim
  · split at h
    · obtain ⟨e1, s1, hr, _, _, rfl⟩ := h
      have := runs_toks hr
      exact this
    · obtain ⟨_, rfl⟩ := h; exact Nat.le_refl _
    · obtain ⟨_, rfl⟩ := h; exact Nat.le_refl _
  · obtain ⟨e1, s1, hr, _, _, rfl⟩ := h
    have := runs_toks hr
    exact this
  · obtain ⟨_, rfl⟩ := h; exact Nat.le_refl _
  · obtain ⟨_, rfl⟩ := h; exact Nat.le_refl _
theorem wp_toks {α : Type} {M : Model} {Γ : PySem.Ctx} (n : Nat) (t : Sem α) {Q : α → Pos → Shared → Prop} {E : Value → Pos → Shared → Prop} {p : Pos} {s : Shared} (hn : n ≤ s.toks) (h : Sem.wp M Γ t Q E p s) :
    Sem.wp M Γ t (fun a p' s' => Q a p' s' ∧ n ≤ s'.toks) E p s := by
  induction t generalizing p s with
  | pure a => exact ⟨h, hn⟩
  | raise v => exact h
  | unsupported => exact h
  | finish => exact h
  | yield => exact h
  | fork => exact h
  | await => exact h
  | register => exact h
  | rule _ k ih => exact ih _ hn h
  | «at» _ k ih => exact ih _ hn h
  | alloc _ k ih => exact ih _ hn h
  | loadIfAlive _ k ih => exact ih _ hn h
  | point _ k ih => exact ih _ hn h
  | fresh k ih => exact ih _ (Nat.le_succ_of_le hn) h
  | ask k ih => exact ih _ hn h
  | os _ _ k ih => exact ih _ hn h
  | handled _ k ih => exact ih _ hn h
  | newGen _ k ih => exact ih _ hn h
  | stack k ih => exact ih _ hn h
  | thread k ih => exact ih _ hn h
  | load a _ k ih => obtain ⟨o, ho, h⟩ := h; exact ⟨o, ho, ih _ hn h⟩
  | genState a k ih => obtain ⟨o, ho, h⟩ := h; exact ⟨o, ho, ih _ hn h⟩
  | update a _ f k ih => obtain ⟨ha, h⟩ := h; exact ⟨ha, ih _ hn h⟩
  | choose _ _ k ih => obtain ⟨ha, h⟩ := h; exact ⟨ha, ih _ hn h⟩
  | call c hh g l k ih => obtain ⟨r, s', hr, h⟩ := h; exact ⟨r, s', hr, ih r (Nat.le_trans hn (runs_toks hr)) h⟩
  | resume g r l k ih => obtain ⟨res, s', hw, h⟩ := h; exact ⟨res, s', hw, ih _ (Nat.le_trans hn (wakes_toks hw)) h⟩
theorem tk {α : Type} {M : Model} {A : Around} {t : Sem α} {Q : α → Shared → Prop} {E : Value → Shared → Prop} {s : Shared} (h : wpAny M A t Q E s) : wpAny M A t (fun a s' => Q a s' ∧ s.toks ≤ s'.toks) E s :=
  fun Γ p hΓ => wp_toks s.toks t (Nat.le_refl _) (h Γ p hΓ)
end L2
namespace L2
open PySem PySem.Spec PyProof.Rows
def PSk (X : Cx) (st : Stmt) (t : TS) : Prop :=
  ∀ (pins : List (Addr × Obj)) (s : Shared) (σ : St) (H : Hp) (D : Ends), 0 < s.toks → Inv X pins σ H s → t D σ H → wpAny (model X.prog X.w) X.A (exec st X.env) (SP X pins D) X.xe s
def PSsk (X : Cx) (st : List Stmt) (t : TS) : Prop :=
  ∀ (pins : List (Addr × Obj)) (s : Shared) (σ : St) (H : Hp) (D : Ends), 0 < s.toks → Inv X pins σ H s → t D σ H → wpAny (model X.prog X.w) X.A (execs st X.env) (SP X pins D) X.xe s
section
variable {X : Cx} {st : Stmt} {rest : List Stmt} {t u : TS} {e : Expr} {te : TE} {pos : Pos} {tg : Expr}
theorem PS.k (h : PS X st t) : PSk X st t := fun pins s σ H D _ I hw => h pins s σ H D I hw
theorem PSs.k (h : PSs X rest t) : PSsk X rest t := fun pins s σ H D _ I hw => h pins s σ H D I hw
end
end L2
namespace L2
open PySem PySem.Spec PyProof.Rows
section
variable {prog : Program} {w : World} {A : Around} {R : Result → Shared → Prop} {s : Shared}
theorem comp_turns {elt target iter : Expr} {ifs : List Expr} {scope : Scope} {pos : Pos} {it acc : Value} {env : Env} (I : Nat → Shared → Prop)
    (turn : ∀ n s, I n s → wpAny (model prog w) A (pyNext it) (fun r s1 => match r with
      | none => R (.ok .next) s1
      | some v => wpAny (model prog w) A (letOwnedTupleGo target it v) (fun _ s1' => wpAny (model prog w) A (assign target env v) (fun _ s2 =>
          wpAny (model prog w) A (forIn ifs true fun c r => if r = true then do let ok ← isTrue c env (eval c env); pure (ForInStep.yield ok) else pure (ForInStep.yield r)) (fun ok s3 =>
            if ok = true then wpAny (model prog w) A (eval elt env) (fun x s4 => wpAny (model prog w) A (call (.builtin "list.append") [acc, x]) (fun _ s5 => ∃ m, m < n ∧ I m s5) (fun _ _ => False) s4) (fun _ _ => False) s3
            else ∃ m, m < n ∧ I m s3) (fun _ _ => False) s2) (fun _ _ => False) s1') (fun _ _ => False) s1) (fun _ _ => False) s)
    (n : Nat) (h : I n s) : codeAny (model prog w) A (.compLoop (.ListComp elt [⟨target, iter, ifs, 0⟩] scope pos) 0 it acc env) R s := by
  refine codeAny_loop rfl I (fun n s hI => ?_) n h
  show wpAny _ A ((compTurn (.ListComp elt [⟨target, iter, ifs, 0⟩] scope pos) 0 it acc env).onRaise (fun x => do noteFrame x env; theTreesLotGoes x)) _ _ s
  refine wpAny_noted ?_
  rw [compTurn_list]
  refine wpAny_bind (wpAny_standAt (wpAny_bind (wpAny_mono (turn n s hI) (fun r s1 h1 => ?_) fun _ _ z => z.elim)))
  cases r with
  | none => exact wpAny_pure h1
  | some v =>
    refine wpAny_bind (wpAny_mono h1 (fun _ s1' h1' => wpAny_bind (wpAny_mono h1' (fun _ s2 h2 => wpAny_bind (wpAny_mono h2 (fun ok s3 h3 => ?_) fun _ _ z => z.elim)) fun _ _ z => z.elim)) fun _ _ z => z.elim)
    cases ok with
    | false => exact wpAny_pure ⟨rfl, h3⟩
    | true => exact wpAny_bind (wpAny_bind (wpAny_mono h3 (fun x s4 h4 => wpAny_bind (wpAny_mono h4 (fun _ s5 h5 => wpAny_pure (wpAny_pure ⟨rfl, h5⟩)) fun _ _ z => z.elim)) fun _ _ z => z.elim))
end
theorem clos_of {env : Env} : ∀ (names : List (Str × NameKind)) (acc : List (Str × Addr)), (∀ nk ∈ names, nk.2 = .free → ∃ c, env.cells.lookup nk.1 = some c) → (∀ y c, acc.lookup y = some c → env.cells.lookup y = some c) →
    ∃ cl, (forIn names acc (fun (x : Str × NameKind) (r : List (Str × Addr)) => (if x.2 == .free then do let a ← cellOf env x.1; pure (ForInStep.yield ((x.1, a) :: r)) else pure (ForInStep.yield r) : Sem (ForInStep (List (Str × Addr)))))) = (pure cl : Sem _) ∧
      (∀ y c, cl.lookup y = some c → env.cells.lookup y = some c) ∧ (∀ y c, acc.lookup y = some c → ∃ c, cl.lookup y = some c) ∧ ∀ y, names.lookup y = some .free → ∃ c, cl.lookup y = some c
  | [], acc, _, ha => ⟨acc, rfl, ha, fun y c e => ⟨c, e⟩, fun y e => by simp at e⟩
  | (n, k) :: names, acc, hf, ha => by
    cases hk : k == NameKind.free with
    | false =>
      obtain ⟨cl, e, h1, h2, h3⟩ := clos_of names acc (fun nk h => hf nk (List.mem_cons_of_mem _ h)) ha
      refine ⟨cl, ?_, h1, h2, fun y hy => ?_⟩
      · rw [List.forIn_cons]
        simp only [hk, Bool.false_eq_true, if_false]
        exact e
      · rw [List.lookup_cons] at hy
        cases hyn : y == n with
        | true => rw [hyn] at hy; cases hy; cases hk
        | false => rw [hyn] at hy; exact h3 y hy
    | true =>
      have ek : k = .free := eq_of_beq hk
      obtain ⟨c, hc⟩ := hf (n, k) (List.mem_cons_self ..) ek
      have ha' : ∀ y c', ((n, c) :: acc).lookup y = some c' → env.cells.lookup y = some c' := fun y c' e => by
        rw [List.lookup_cons] at e
        cases hyn : y == n with
        | true => rw [hyn] at e; cases e; rw [eq_of_beq hyn]; exact hc
        | false => rw [hyn] at e; exact ha y c' e
      obtain ⟨cl, e, h1, h2, h3⟩ := clos_of names ((n, c) :: acc) (fun nk h => hf nk (List.mem_cons_of_mem _ h)) ha'
      have in_acc : ∀ y c', acc.lookup y = some c' → ∃ c'', ((n, c) :: acc).lookup y = some c'' := fun y c' e => by
        rw [List.lookup_cons]
        cases hyn : y == n with
        | true => exact ⟨c, rfl⟩
        | false => exact ⟨c', e⟩
      refine ⟨cl, ?_, h1, fun y c' e' => let ⟨c'', e''⟩ := in_acc y c' e'; h2 y c'' e'', fun y hy => ?_⟩
      · have e0 : cellOf env n = pure c := by unfold cellOf; rw [hc]
        rw [List.forIn_cons]
        simp only [hk, if_true, e0]
        exact e
      · rw [List.lookup_cons] at hy
        cases hyn : y == n with
        | true => exact h2 y c (by rw [List.lookup_cons, hyn])
        | false => rw [hyn] at hy; exact h3 y hy
theorem closure_of {scope : Scope} {env : Env} (hf : ∀ nk ∈ scope.names, nk.2 = .free → ∃ c, env.cells.lookup nk.1 = some c) :
    ∃ cl, closureFor scope env = pure cl ∧ (∀ y c, cl.lookup y = some c → env.cells.lookup y = some c) ∧ ∀ y, scope.names.lookup y = some .free → ∃ c, cl.lookup y = some c := by
  obtain ⟨cl, e, h1, _, h3⟩ := clos_of (env := env) scope.names [] hf (fun y c e => by simp at e)
  refine ⟨cl, ?_, h1, h3⟩
  unfold closureFor
  simp only [bind_pure]
  exact e
theorem relab_free {env : Env} : ∀ {names : List (Str × NameKind)} {y : Str}, names.lookup y = some .free →
    (names.map fun (n, k) => if (k == NameKind.free && env.scope.kind == .function && env.kindOf n == some .cell) then (n, NameKind.cell) else (n, k)).lookup y = some .cell ∨
    (names.map fun (n, k) => if (k == NameKind.free && env.scope.kind == .function && env.kindOf n == some .cell) then (n, NameKind.cell) else (n, k)).lookup y = some .free
  | [], _, h => by simp at h
  | (n, k) :: r, y, h => by
    have ih := @relab_free env r y
    show List.lookup y ((if (k == NameKind.free && env.scope.kind == .function && env.kindOf n == some .cell) = true then (n, NameKind.cell) else (n, k)) :: _) = _ ∨ List.lookup y ((if (k == NameKind.free && env.scope.kind == .function && env.kindOf n == some .cell) = true then (n, NameKind.cell) else (n, k)) :: _) = _
    cases hx : y == n with
    | true =>
      simp only [List.lookup_cons, hx] at h
      cases h
      by_cases hc : (NameKind.free == NameKind.free && env.scope.kind == .function && env.kindOf n == some .cell) = true
      · rw [if_pos hc]; simp only [List.lookup_cons, hx]; exact .inl trivial
      · rw [if_neg hc]; simp only [List.lookup_cons, hx]; exact .inr trivial
    | false =>
      simp only [List.lookup_cons, hx] at h
      by_cases hc : (k == NameKind.free && env.scope.kind == .function && env.kindOf n == some .cell) = true
      · rw [if_pos hc]; simp only [List.lookup_cons, hx]; exact ih h
      · rw [if_neg hc]; simp only [List.lookup_cons, hx]; exact ih h
theorem relab_inv {env : Env} : ∀ {names : List (Str × NameKind)} {y : Str}, (∀ nk ∈ names, nk.2 ≠ .cell) →
    ((names.map fun (n, k) => if (k == NameKind.free && env.scope.kind == .function && env.kindOf n == some .cell) then (n, NameKind.cell) else (n, k)).lookup y = some .cell ∨
    (names.map fun (n, k) => if (k == NameKind.free && env.scope.kind == .function && env.kindOf n == some .cell) then (n, NameKind.cell) else (n, k)).lookup y = some .free) → names.lookup y = some .free
  | [], _, _, h => by simp at h
  | (n, k) :: r, y, hn, h => by
    have ih := @relab_inv env r y (fun nk h => hn nk (List.mem_cons_of_mem _ h))
    have h' : List.lookup y ((if (k == NameKind.free && env.scope.kind == .function && env.kindOf n == some .cell) = true then (n, NameKind.cell) else (n, k)) :: r.map fun (n, k) => if (k == NameKind.free && env.scope.kind == .function && env.kindOf n == some .cell) then (n, NameKind.cell) else (n, k)) = some .cell ∨ List.lookup y ((if (k == NameKind.free && env.scope.kind == .function && env.kindOf n == some .cell) = true then (n, NameKind.cell) else (n, k)) :: r.map fun (n, k) => if (k == NameKind.free && env.scope.kind == .function && env.kindOf n == some .cell) then (n, NameKind.cell) else (n, k)) = some .free := h
    cases hx : y == n with
    | true =>
      simp only [List.lookup_cons, hx]
      by_cases hc : (k == NameKind.free && env.scope.kind == .function && env.kindOf n == some .cell) = true
      · have : (k == NameKind.free) = true := by
          cases hk : k == NameKind.free with
          | true => rfl
          | false => rw [hk] at hc; simp at hc
        rw [eq_of_beq this]
      · rw [if_neg hc] at h'
        simp only [List.lookup_cons, hx] at h'
        rcases h' with h' | h'
        · cases h'; exact absurd rfl (hn (n, .cell) (List.mem_cons_self ..))
        · exact h'
    | false =>
      simp only [List.lookup_cons, hx]
      by_cases hc : (k == NameKind.free && env.scope.kind == .function && env.kindOf n == some .cell) = true
      · rw [if_pos hc] at h'; simp only [List.lookup_cons, hx] at h'; exact ih h'
      · rw [if_neg hc] at h'; simp only [List.lookup_cons, hx] at h'; exact ih h'
def cxCF (X : Cx) (scope : Scope) (cl : List (Str × Addr)) (Ns : List Str) (C : Addr) (s : Shared) (H : Hp) (fp : List Addr) : Cx :=
  { X with
    N := Ns
    s₀ := s
    H₀ := H
    env := compEnvC scope cl C X.env
    outer := X.stack
    stack := X.stack
    ex := fp
    fn := fun _ => false
    pn := []
    xe := fun _ _ => False }
def frOf (σ : St) (js : List Nat) : St := js.map fun j => (σ[j]?).join
def tCompF (wi : TI) (g : TG) (n : Nat) (js : List Nat) (tt : TT) (te : TE) : TE := fun σ H Q => wi σ H fun J H1 => ∀ D, H1 D = none → ∃ W : Nat → Nat → List V → Hp → Prop,
  (∃ m, W 0 m [] (upd H1 D (.lst []))) ∧ ∀ i m ys H2, W i m ys H2 → H2 D = some (.lst ys) ∧
    ((J.stop i H2 ∧ Q (.ref D) H2) ∨ (J.go i H2 ∧ ∀ x H3, J.yld i H2 x H3 → ∀ pre : St, pre.length = n → g x (pre ++ frOf σ js) H3 fun σ4 H4 => (∃ pre' : St, pre'.length = n ∧ σ4 = pre' ++ frOf σ js) ∧
      tt σ4 H4 fun b H5 => if b = true then te σ4 H5 (fun y H6 => H6 D = some (.lst ys) ∧ ys.length < sizeLine ∧ ∃ m', m' < m ∧ W (i + 1) m' (ys ++ [y]) (upd H6 D (.lst (ys ++ [y])))) else ∃ m', m' < m ∧ W (i + 1) m' ys H5))
def PTs (X : Cx) (ifs : List Expr) (t : TT) : Prop :=
  ∀ (pins : List (Addr × Obj)) (s : Shared) (σ : St) (H : Hp) (Q : Bool → Hp → Prop), Inv X pins σ H s → t σ H Q →
    wpAny (model X.prog X.w) X.A (forIn ifs true fun c r => if r = true then do let ok ← isTrue c X.env (eval c X.env); pure (ForInStep.yield ok) else pure (ForInStep.yield r)) (TP X pins σ Q) X.xe s
def tTrue : TT := fun _ H Q => Q true H
theorem pts_nil {X : Cx} : PTs X [] tTrue := fun _ _ _ H _ I h => wpAny_tests_nil ⟨H, I, h⟩
theorem pts_one {X : Cx} {c : Expr} {t : TT} (h : PT X c t) : PTs X [c] t := fun pins s σ H Q I hw => wpAny_tests_one (h pins s σ H Q I hw)
def FreeOk (X : Cx) (scope : Scope) : List Str → List Nat → Prop
  | [], [] => True
  | y :: ys, j :: js => X.N[j]? = some y ∧ (X.env.kindOf y = some .cell ∨ X.env.kindOf y = some .free) ∧ scope.names.lookup y = some .free ∧ FreeOk X scope ys js
  | _, _ => False
theorem FreeOk.at {X : Cx} {scope : Scope} : ∀ {ys : List Str} {js : List Nat}, FreeOk X scope ys js → ys.length = js.length ∧ ∀ (k : Nat) (y : Str), ys[k]? = some y → ∃ j, js[k]? = some j ∧ X.N[j]? = some y ∧ (X.env.kindOf y = some .cell ∨ X.env.kindOf y = some .free) ∧ scope.names.lookup y = some .free
  | [], [], _ => ⟨rfl, fun k y e => by simp at e⟩
  | [], _ :: _, h => h.elim
  | _ :: _, [], h => h.elim
  | y :: ys, j :: js, h => by
    obtain ⟨h1, h2, h3, h4⟩ := h
    obtain ⟨l, ih⟩ := FreeOk.at h4
    refine ⟨by simp [l], fun k y' e => ?_⟩
    cases k with
    | zero => simp at e; subst e; exact ⟨j, rfl, h1, h2, h3⟩
    | succ k => simpa using ih k y' (by simpa using e)
section
variable {X : Cx}
theorem pe_compF {elt iter target : Expr} {ifs : List Expr} {xs ys : List Str} {js : List Nat} {pos : Pos} {scope : Scope} {wi : TI} {g : TG} {tt : TT} {te : TE} (hc : X.calm = true)
    (hfree : ∀ nk ∈ scope.names, nk.2 = .free → nk.1 ∈ ys) (hcell : ∀ nk ∈ scope.names, nk.2 ≠ .cell) (hkind : scope.kind = .function)
    (hnames : ∀ nk ∈ scope.names, nk.2 = .local → scope.names.lookup nk.1 = some .local) (hfo : FreeOk X scope ys js)
    (hi : PI X target iter wi) (hg : ∀ cl C s H fp, PG (cxCF X scope cl (xs ++ ys) C s H fp) target g) (ht : ∀ cl C s H fp, PTs (cxCF X scope cl (xs ++ ys) C s H fp) ifs tt)
    (he : ∀ cl C s H fp, PE (cxCF X scope cl (xs ++ ys) C s H fp) elt te)
    (hs : ∀ v, foldedSetIterable iter X.env v = pure v := by intro _; rfl) : PE X (.ListComp elt [⟨target, iter, ifs, 0⟩] scope pos) (tCompF wi g xs.length js tt te) := by
  intro pins s σ H Q I h
  obtain ⟨ylen, yat⟩ := hfo.at
  have hkd : ∀ nk ∈ scope.names, nk.2 = .free → X.env.kindOf nk.1 = some .cell ∨ X.env.kindOf nk.1 = some .free := fun nk hnk hf => by
    obtain ⟨k, hk, e⟩ := List.mem_iff_getElem.mp (hfree nk hnk hf)
    obtain ⟨_, _, _, hk2, _⟩ := yat k nk.1 (by rw [List.getElem?_eq_getElem hk, e])
    exact hk2
  obtain ⟨cl, hclos, hsub, hhas⟩ := closure_of (scope := scope) (env := X.env) fun nk hnk hf => I.ok.has _ (hkd nk hnk hf)
  rw [eval_ListComp]
  refine wpAny_comprehension_free (use := none) rfl hs hclos hkind hnames (thn (hi pins s σ H _ I h) fun v s1 h1 => thn h1 fun itv s2 h2 => ?_)
  obtain ⟨it, fp, tn, J, H2, e, I2, T, st2, f2, hR⟩ := h2
  subst e
  have hD0 : H2 s2.heap.objs.size = none := I2.fresh
  obtain ⟨W, ⟨m0, w0⟩, turnW⟩ := hR _ hD0
  have I3 : Inv X pins σ (upd H2 s2.heap.objs.size (.lst [])) { s2 with heap := s2.heap.push { cls := .type "list", data := .seq ([] : List Value).toArray } } := I2.lnew (t' := s2.toks) .nil (Nat.zero_le _)
  refine wpAny_newObj_type (wpAny_newFunctionEnv hcell (fun nk hnk => by simp at hnk) (fun h₁ hns₁ hsb₁ => ?_) hkind)
  dsimp only at hns₁ hsb₁ ⊢
  generalize hs3 : ({ s2 with heap := s2.heap.push { cls := .type "list", data := .seq ([] : List Value).toArray } } : Shared) = s3 at I3
  have eh3 : s3.heap = s2.heap.push { cls := .type "list", data := .seq ([] : List Value).toArray } := by rw [← hs3]
  have hC : s3.heap.objs.size = s2.heap.objs.size + 1 := by rw [eh3, Heap.size_push]
  have old : ∀ b o, s3.heap.get? b = some o → h₁.get? b = some o := fun b o e => by
    have hb : b ≠ s3.heap.objs.size := Nat.ne_of_lt (Heap.lt_size e)
    rw [eh3] at e hb
    exact hsb₁.extBut b o hb (Heap.get?_push_of_some _ e)
  have fpl : ∀ b ∈ fp, b < s2.heap.objs.size := fun b hb => let ⟨o, e, _⟩ := T.obj _ _ st2 b hb; Heap.lt_size e
  have fps : ∀ b ∈ fp, b ∉ frs X.stack := fun b hb z => (List.mem_cons.mp (I2.stkSub b z)).elim (f2 b hb).2.1 (f2 b hb).2.2.1
  have fpc : ∀ b ∈ fp, ∀ y c, cl.lookup y = some c → c ≠ b := fun b hb y c e => (f2 b hb).2.2.2.2.1 y c (hsub y c e)
  have cne : ∀ y c, cl.lookup y = some c → c ≠ s3.heap.objs.size := fun y c e z => by
    obtain ⟨v, q⟩ := I3.cell y c (hsub y c e)
    exact absurd q.lt (by rw [z]; exact Nat.lt_irrefl _)
  let X' : Cx := cxCF X scope cl (xs ++ ys) s3.heap.objs.size s3 (upd H2 s2.heap.objs.size (.lst [])) fp
  have okX : X'.Ok := by
    refine ⟨I2.ok.mod, hkind, I2.ok.glob, I2.ok.blt, Nat.le_refl _, fun y z c e1 e2 => I2.ok.inj y z c (hsub _ _ e1) (hsub _ _ e2), fun y hy => hhas y (relab_inv hcell hy), fun y c z _ => absurd z (by simp [X', cxCF]), I2.ok.hd, I2.ok.frames, .inl rfl, fun b hb => ⟨?_, fun y c e => fpc b hb y c e⟩,
      I3.bs, Nat.le_trans I3.ok.bsz I3.sz, fun b o e hb => ?_, fps, I3.stack, I3.stkFree⟩
    · exact Nat.ne_of_lt (Nat.lt_of_lt_of_le (fpl b hb) (by show s2.heap.objs.size ≤ s3.heap.objs.size; rw [hC]; exact Nat.le_succ _))
    · rcases (f2 b hb).2.2.2.1 with z | z
      · exact I2.ok.noex b o e z
      · exact absurd (Nat.lt_of_lt_of_le (Heap.lt_size (I2.ok.bs b o e).1) z) (Nat.lt_irrefl _)
  have stat : ∀ {H' : Hp}, (∀ b ∈ fp, H' b = none) → ∀ b ∈ fp, FpOk X' [] H' b := fun hn b hb => by
    refine ⟨hn b hb, ?_, fps b hb, .inl hb, fun y c e => fpc b hb y c e, fun p hp => absurd (show p ∈ ([] : List (Addr × Obj)) from hp) (by simp)⟩
    exact Nat.ne_of_lt (Nat.lt_of_lt_of_le (fpl b hb) (by show s2.heap.objs.size ≤ s3.heap.objs.size; rw [hC]; exact Nat.le_succ _))
  have I4 : ∀ tk : Nat, Inv X' [] (List.replicate xs.length none ++ frOf σ js) (upd H2 s2.heap.objs.size (.lst [])) { s3 with heap := h₁, toks := tk } := fun tk => by
    refine ⟨okX, rfl, I3.bare, Un.kept old, ⟨_, by rw [← eh3] at hns₁; exact hns₁, fun i y v e1 e2 _ => ?_⟩, fun y c e => let ⟨v, q⟩ := I3.cell y c (hsub y c e); let ⟨o, q1, q2⟩ := q; ⟨v, o, old c o q1, q2⟩, I3.hok.fresh (Nat.le_refl _), fun y c e => I3.freeC y c (hsub y c e), fun p hp => absurd (show p ∈ ([] : List (Addr × Obj)) from hp) (by simp), I3.hok.kept old, by simp [X', cxCF, frOf, ylen]⟩
    by_cases hlt : i < xs.length
    · rw [List.getElem?_append_left (by simpa using hlt), List.getElem?_replicate, if_pos hlt] at e2
      cases e2
    · have hge : xs.length ≤ i := Nat.le_of_not_lt hlt
      have e1' : (xs ++ ys)[i]? = some y := e1
      rw [List.getElem?_append_right hge] at e1'
      rw [List.getElem?_append_right (by simpa using hge), List.length_replicate] at e2
      obtain ⟨j, hj, hN, hk, hfr⟩ := yat _ y e1'
      have e3 : (σ[j]?).join = some v := by
        unfold frOf at e2
        rw [List.getElem?_map, hj] at e2
        exact Option.some.inj e2
      have e4 : σ[j]? = some (some v) := by
        cases q : σ[j]? with
        | none => rw [q] at e3; cases e3
        | some w => rw [q] at e3; have : w = some v := e3; rw [this]
      obtain ⟨m3, _, hl3⟩ := I3.loc
      obtain ⟨u, ru, lk⟩ := hl3 j y v hN e4 (by rcases hk with z | z; exact .inr (.inl z); exact .inr (.inr z))
      refine ⟨u, ru, .inr ⟨relab_free hfr, ?_⟩⟩
      rcases lk with ⟨z, _⟩ | ⟨_, c, hc1, hc2⟩
      · rcases hk with z2 | z2 <;> rw [z] at z2 <;> cases z2
      · obtain ⟨c', hc'⟩ := hhas y hfr
        have : c' = c := by have := hsub y c' hc'; rw [hc1] at this; exact (Option.some.inj this).symm
        subst this
        obtain ⟨o, q1, q2⟩ := hc2
        exact ⟨c', hc', o, old c' o q1, q2⟩
  have fr0 : ∀ b ∈ fp, (upd H2 s2.heap.objs.size (.lst []) : Hp) b = none := fun b hb => by rw [upd_ne (Nat.ne_of_lt (fpl b hb))]; exact (f2 b hb).1
  have st4 : tn 0 h₁ := T.keep 0 _ _ st2 fun b hb o e => old b o (by rw [eh3]; exact Heap.get?_push_of_some _ e)
  have fin : ∀ {σ5 : St} {H' : Hp} {s5 : Shared} {h' : Heap}, Inv X' [] σ5 H' s5 → Heap.SameBut s3.heap.objs.size s5.heap h' → Q (.ref s2.heap.objs.size) H' → EP X pins σ Q (.ref s2.heap.objs.size) { s5 with heap := h' } := by
    intro σ5 H' s5 h' I5 sb q
    obtain ⟨hh, gg, d, t, os'⟩ := s5
    have eo : os' = s3.os := I5.os
    subst eo
    have keepC : ∀ b o, b ≠ s3.heap.objs.size → hh.get? b = some o → h'.get? b = some o := fun b o hb e => sb.extBut b o hb e
    have ne3 : ∀ b o, s3.heap.get? b = some o → b ≠ s3.heap.objs.size := fun b o e => Nat.ne_of_lt (Heap.lt_size e)
    have u : Un (frs X.stack) fp (upd H2 s2.heap.objs.size (.lst [])) H' s3.heap hh := I5.base
    have un : Un (frs X.stack) fp (upd H2 s2.heap.objs.size (.lst [])) H' s3.heap h' :=
      ⟨fun b o e n hb hx => keepC b o (ne3 b o e) (u.keep b o e n hb hx), fun b o e n hb hx => let ⟨sl, q⟩ := u.slot b o e n hb hx; ⟨sl, keepC b _ (ne3 b o e) q⟩, u.free, fun b o e hx => let ⟨o', q⟩ := u.there b o e hx; ⟨o', keepC b o' (ne3 b o e) q⟩, u.tups, u.frzs, u.tbls⟩
    have hfree' : H' s3.heap.objs.size = none := I5.free
    have hok' : HOk X.prog X.w H' h' := fun b u e => by
      refine (I5.hok b u e).stay (fun c v hc q => keepC c v ?_ q) (fun _ q => q) fun _ _ q => q
      rcases hc with z | z
      · rw [z]; intro z2; rw [z2, hfree'] at e; cases e
      · intro z2; rw [z2, hfree'] at z; cases z
    have J := I3.call (h' := h') (g' := gg) (d' := d) (t' := t) (ch := fp) un hok' I5.bare (fun b hb => let ⟨_, h1, _, h2, h3, h4⟩ := f2 b hb; ⟨h2, h1, h3, h4⟩)
    exact ⟨.ref s2.heap.objs.size, H', J, rfl, q⟩
  have loop : ∀ s4 : Shared, (∃ tk, s4 = { s3 with heap := h₁, toks := tk }) →
      codeAny (model X.prog X.w) X.A (.compLoop (.ListComp elt [⟨target, iter, ifs, 0⟩] scope pos) 0 (.ref it) (.ref s2.heap.objs.size) X'.env)
        (compPost (model X.prog X.w) X.A X.xe none (EP X pins σ Q) (.ref s2.heap.objs.size) s3.heap.objs.size) s4 := by
    rintro s4 ⟨tk, rfl⟩
    refine comp_turns (fun n s' => ∃ i ys' pre H', Inv X' [] (pre ++ frOf σ js) H' s' ∧ pre.length = xs.length ∧ tn i s'.heap ∧ (∀ b ∈ fp, H' b = none) ∧ W i n ys' H') ?_ m0 ⟨0, [], List.replicate xs.length none, _, I4 tk, by simp, st4, fr0, w0⟩
    rintro n s5 ⟨i, ys', pre, H5, I5, hpre, st5, fr5, w5⟩
    obtain ⟨hD5, ⟨js5, q⟩ | ⟨jg, step⟩⟩ := turnW i n ys' H5 w5
    · refine wpAny_mono (T.done X' rfl rfl rfl hc i [] s5 _ H5 (fun _ _ => False) I5 (stat fr5) st5 js5) (fun r s6 hr => ?_) fun _ _ z => z.elim
      obtain ⟨rfl, I6⟩ := hr
      obtain ⟨m, hn, _⟩ := I6.loc
      exact ⟨m, hn, fun h' sb => fin I6 sb q⟩
    · refine wpAny_mono (T.item X' rfl rfl rfl hc i [] s5 _ H5 (fun _ _ => False) I5 (stat fr5) st5 jg) (fun r s6 hr => ?_) fun _ _ z => z.elim
      obtain ⟨u, rfl, h6⟩ := hr
      refine wpAny_mono h6 (fun _ s7 h7 => ?_) fun _ _ z => z.elim
      obtain ⟨xv, H7, I7, r7, y7, st7, fr7⟩ := h7
      have I7' := I7.pinned (stat fr7) (T.obj _ _ st7)
      refine wpAny_mono (hg cl s3.heap.objs.size s3 (upd H2 s2.heap.objs.size (.lst [])) fp _ s7 _ H7 xv u _ I7' r7 (step xv H7 y7 pre hpre)) (fun _ s8 h8 => ?_) fun _ _ z => z.elim
      obtain ⟨σ8, H8, I8, ⟨pre', hpre', e8⟩, q8⟩ := h8
      subst e8
      refine wpAny_mono (ht cl s3.heap.objs.size s3 (upd H2 s2.heap.objs.size (.lst [])) fp _ s8 _ H8 _ I8 q8) (fun ok s9 h9 => ?_) fun _ _ z => z.elim
      obtain ⟨H9, I9, q9⟩ := h9
      have stay : ∀ {H' : Hp} {s' : Shared}, Inv X' ([] ++ pinsAt fp s7.heap) (pre' ++ frOf σ js) H' s' → tn (i + 1) s'.heap ∧ ∀ b ∈ fp, H' b = none := fun {H' s'} I' => by
        refine ⟨T.keep _ _ _ st7 fun b hb o e => (I'.pin (b, o) (List.mem_append_right _ (List.mem_append_right _ (mem_pinsAt hb e)))).1, fun b hb => ?_⟩
        obtain ⟨o, e, d⟩ := T.obj _ _ st7 b hb
        exact (I'.pin (b, o) (List.mem_append_right _ (List.mem_append_right _ (mem_pinsAt hb e)))).2.1
      cases ok with
      | false =>
        obtain ⟨m', lt, w9⟩ := (show ∃ m', m' < n ∧ W (i + 1) m' ys' H9 by simpa using q9)
        obtain ⟨k1, k2⟩ := stay I9
        exact ⟨m', lt, i + 1, ys', pre', H9, I9.unpinned, hpre', k1, k2, w9⟩
      | true =>
        have q9' : te (pre' ++ frOf σ js) H9 (fun y H6 => H6 s2.heap.objs.size = some (.lst ys') ∧ ys'.length < sizeLine ∧ ∃ m', m' < n ∧ W (i + 1) m' (ys' ++ [y]) (upd H6 s2.heap.objs.size (.lst (ys' ++ [y])))) := by simpa using q9
        refine wpAny_mono (he cl s3.heap.objs.size s3 (upd H2 s2.heap.objs.size (.lst [])) fp _ s9 _ H9 _ I9 q9') (fun y s10 h10 => ?_) fun _ _ z => z.elim
        obtain ⟨yv, H10, I10, r10, hD10, hl10, m', lt, w10⟩ := h10
        refine wpAny_mono (mt_append (X := X') _ s10 _ H10 (.ref s2.heap.objs.size) [yv] (.ref s2.heap.objs.size) [y] (fun _ H' => H' = upd H10 s2.heap.objs.size (.lst (ys' ++ [yv]))) I10 rfl (.cons r10 .nil) ⟨_, ys', yv, rfl, rfl, hD10, hl10, rfl⟩) (fun _ s11 h11 => ?_) fun _ _ z => z.elim
        obtain ⟨_, H11, I11, _, rfl⟩ := h11
        obtain ⟨k1, k2⟩ := stay I11
        exact ⟨m', lt, i + 1, ys' ++ [yv], pre', _, I11.unpinned, hpre', k1, k2, w10⟩
  have L := loop { s3 with heap := h₁, toks := s2.toks + ([] : List (Str × Value)).length } ⟨_, rfl⟩
  subst hs3
  exact codeAny_compStart_list L (T.self _ 0 _ _ _ st4 L)
end
structure Tells (J : It) (H1 : Hp) (xs : List V) : Prop where
  go : ∀ H2 i, Same H1 H2 → i < xs.length → J.go i H2
  yld : ∀ H2 i x H3, Same H1 H2 → J.yld i H2 x H3 → H3 = H2 ∧ xs[i]? = some x
  stop : ∀ H2, Same H1 H2 → J.stop xs.length H2
theorem tells_tup {K : PySem.W.Frag} {H1 : Hp} {a : Addr} {xs : List V} (h : SqT K H1 a xs) : Tells (Itt K a) H1 xs :=
  ⟨fun H2 i sm hi => ⟨xs, xs[i], sm.tup h, by simp [hi]⟩, fun H2 i x H3 sm y => by obtain ⟨e, y⟩ := y; exact ⟨e, y xs (sm.tup h)⟩, fun H2 sm => ⟨xs, sm.tup h, Nat.le_refl _⟩⟩
theorem tells_list {K : PySem.W.Frag} {H1 : Hp} {a : Addr} {xs : List V} (h : SqL K H1 a xs) : Tells (Itl K a) H1 xs :=
  ⟨fun H2 i sm hi => ⟨xs, xs[i], sm.seq h, by simp [hi]⟩, fun H2 i x H3 sm y => by obtain ⟨e, y⟩ := y; exact ⟨e, y xs (sm.seq h)⟩, fun H2 sm => ⟨xs, sm.seq h, Nat.le_refl _⟩⟩
theorem compF_all {J : It} {xs : List V} {tt : TT} {te : TE} {fr : St} {H1 : Hp} {QD : Hp → Prop} {f : V → V} {p : V → Bool} (D : Addr) (hD : H1 D = none) (T : Tells J H1 xs) (hz : xs.length < sizeLine)
    (ht : ∀ x H R, x ∈ xs → Same H1 H → (∀ H', Same H H' → R (p x) H') → tt (some x :: fr) H R)
    (he : ∀ x H R, x ∈ xs → p x = true → Same H1 H → (∀ H', Same H H' → R (f x) H') → te (some x :: fr) H R)
    (hd : ∀ H', Same H1 H' → H' D = some (.lst ((xs.filter p).map f)) → QD H') :
    ∃ W : Nat → Nat → List V → Hp → Prop, (∃ m, W 0 m [] (upd H1 D (.lst []))) ∧ ∀ i m ys H2, W i m ys H2 → H2 D = some (.lst ys) ∧
      ((J.stop i H2 ∧ QD H2) ∨ (J.go i H2 ∧ ∀ x H3, J.yld i H2 x H3 → ∀ pre : St, pre.length = 1 → gName 0 x (pre ++ fr) H3 fun σ4 H4 => (∃ pre' : St, pre'.length = 1 ∧ σ4 = pre' ++ fr) ∧
        tt σ4 H4 fun b H5 => if b = true then te σ4 H5 (fun y H6 => H6 D = some (.lst ys) ∧ ys.length < sizeLine ∧ ∃ m', m' < m ∧ W (i + 1) m' (ys ++ [y]) (upd H6 D (.lst (ys ++ [y])))) else ∃ m', m' < m ∧ W (i + 1) m' ys H5)) := by
  refine ⟨fun i m ys H2 => m = xs.length - i ∧ i ≤ xs.length ∧ ys = ((xs.take i).filter p).map f ∧ H2 D = some (.lst ys) ∧ Same H1 H2, ⟨xs.length, by simp, Nat.zero_le _, by simp, upd_same, Same.new hD _⟩, ?_⟩
  rintro i m ys H2 ⟨rfl, hi, rfl, hD2, sm⟩
  refine ⟨hD2, ?_⟩
  by_cases hlt : i < xs.length
  · refine .inr ⟨T.go H2 i sm hlt, fun x H3 y pre hpre => ?_⟩
    obtain ⟨rfl, hx⟩ := T.yld H2 i x H3 sm y
    obtain ⟨v0, rfl⟩ : ∃ v0, pre = [v0] := by
      cases pre with
      | nil => simp at hpre
      | cons v r => cases r with
        | nil => exact ⟨v, rfl⟩
        | cons _ _ => simp at hpre
    have hm := List.mem_of_getElem? hx
    refine ⟨⟨[some x], rfl, rfl⟩, ?_⟩
    refine ht x H3 _ hm sm fun H5 s5 => ?_
    have htk : (xs.take (i + 1)).filter p = (xs.take i).filter p ++ (if p x = true then [x] else []) := by
      rw [List.take_add_one, hx, List.filter_append]
      cases hp : p x <;> simp [hp]
    cases hp : p x with
    | false =>
      simp only [Bool.false_eq_true, if_false]
      rw [hp] at htk
      simp only [Bool.false_eq_true, if_false, List.append_nil] at htk
      exact ⟨xs.length - (i + 1), by omega, rfl, hlt, by rw [htk], s5 _ _ hD2, sm.trans s5⟩
    | true =>
      simp only [if_true]
      rw [hp] at htk
      simp only [if_true] at htk
      refine he x H5 _ hm hp (sm.trans s5) fun H6 s6 => ?_
      have hl : (((xs.take i).filter p).map f).length ≤ i := by
        rw [List.length_map]
        refine Nat.le_trans (List.length_filter_le _ _) ?_
        rw [List.length_take]; omega
      refine ⟨s6 _ _ (s5 _ _ hD2), by omega, xs.length - (i + 1), by omega, rfl, hlt, ?_, upd_same, ?_⟩
      · rw [htk, List.map_append]; rfl
      · intro b o e
        have hb : b ≠ D := ne_of_none e hD
        rw [upd_ne hb]
        exact s6 _ _ (s5 _ _ (sm _ _ e))
  · have e : i = xs.length := by omega
    subst e
    rw [List.take_length] at hD2
    exact .inl ⟨T.stop H2 sm, hd H2 sm hD2⟩
end L2
namespace HT
open PySem PySem.Spec PyProof.Rows PySem.Builtin
section
variable {prog : Program} {w : World} {A : Around} {E : Value → Shared → Prop} {s : Shared}
end
end HT
namespace L2
open PySem PySem.Spec PyProof.Rows
section
variable {X : Cx}
end
theorem sIx_nat (n d : Nat) (k : Nat) : HT.sIx n d (some (k : Int)) = min k n := by
  show (if ((k : Int)) < 0 then (((k : Int)) + (n : Int)).toNat else min ((k : Int)).toNat n) = _
  rw [if_neg (by omega)]
  simp
theorem cut_to (xs : List V) (k : Nat) : cutV xs none (some (k : Int)) = xs.take k := by
  unfold cutV
  rw [sIx_nat]
  show (xs.drop 0).take (min k xs.length - 0) = _
  rw [List.drop_zero, Nat.sub_zero]
  by_cases h : k ≤ xs.length
  · rw [Nat.min_eq_left h]
  · rw [Nat.min_eq_right (by omega), List.take_length, List.take_of_length_le (by omega)]
theorem cut_from (xs : List V) (k : Nat) : cutV xs (some (k : Int)) none = xs.drop k := by
  unfold cutV
  rw [sIx_nat]
  show (xs.drop (min k xs.length)).take (xs.length - min k xs.length) = _
  rw [List.take_of_length_le (by rw [List.length_drop]; exact Nat.le_refl _)]
  by_cases h : k ≤ xs.length
  · rw [Nat.min_eq_left h]
  · rw [Nat.min_eq_right (by omega), List.drop_length, List.drop_of_length_le (by omega)]
end L2
namespace L2
open PySem PySem.Spec PyProof.Rows
section
variable {X : Cx}
theorem boot_enumerate : bootBuiltins (Str.ofString "enumerate") = some (Value.type "enumerate") := by decide +kernel
variable {e : Expr} {es : List Expr} {te : TE} {t : TA} {tg : Expr}
end
end L2
namespace L2
open PySem PySem.Spec PyProof.Rows
section
variable {X : Cx}
theorem ps_compF {ix : Nat} {yn : Str} {py spos : Pos} {elt iter target : Expr} {ifs : List Expr} {xs ys : List Str} {js : List Nat} {pos : Pos} {scope : Scope} {wi : TI} {g : TG} {tt : TT} {te : TE} (hc : X.calm = true)
    (hfree : ∀ nk ∈ scope.names, nk.2 = .free → nk.1 ∈ ys) (hcell : ∀ nk ∈ scope.names, nk.2 ≠ .cell) (hkind : scope.kind = .function)
    (hnames : ∀ nk ∈ scope.names, nk.2 = .local → scope.names.lookup nk.1 = some .local) (hfo : FreeOk X scope ys js)
    (hi : PI X target iter wi) (hg : ∀ cl C s H fp, PG (cxCF X scope cl (xs ++ ys) C s H fp) target g) (ht : ∀ cl C s H fp, PTs (cxCF X scope cl (xs ++ ys) C s H fp) ifs tt)
    (he : ∀ cl C s H fp, PE (cxCF X scope cl (xs ++ ys) C s H fp) elt te)
    (hN : X.N.Nodup) (hix : X.N[ix]? = some yn) (hyn : Loc X.env.scope yn)
    (hs : ∀ v, foldedSetIterable iter X.env v = pure v := by intro _; rfl) (hsw : swapsWith (.ListComp elt [⟨target, iter, ifs, 0⟩] scope pos) (some (.Name yn py)) spos.line X.env = pure true := by rfl)
    (hf : X.fn yn = true ∨ X.env.scope.names.lookup yn = some .local := by first | exact .inl rfl | exact .inr rfl | assumption) :
    PS X (.Assign [.Name yn py] (.ListComp elt [⟨target, iter, ifs, 0⟩] scope pos) spos) (tAsg (tCompF wi g xs.length js tt te) (gName ix)) := by
  intro pins s σ H D0 I h
  obtain ⟨Q, hQ⟩ : ∃ Q : VK, Q = fun x H1 => gName ix x σ H1 D0.nx := ⟨_, rfl⟩
  have h : tCompF wi g xs.length js tt te σ H Q := by rw [hQ]; exact h
  obtain ⟨ylen, yat⟩ := hfo.at
  have hkd : ∀ nk ∈ scope.names, nk.2 = .free → X.env.kindOf nk.1 = some .cell ∨ X.env.kindOf nk.1 = some .free := fun nk hnk hf => by
    obtain ⟨k, hk, e⟩ := List.mem_iff_getElem.mp (hfree nk hnk hf)
    obtain ⟨_, _, _, hk2, _⟩ := yat k nk.1 (by rw [List.getElem?_eq_getElem hk, e])
    exact hk2
  obtain ⟨cl, hclos, hsub, hhas⟩ := closure_of (scope := scope) (env := X.env) fun nk hnk hf => I.ok.has _ (hkd nk hnk hf)
  rw [exec_Assign_Name_used _ _ _ _ hsw]
  refine wpAny_bind (wpAny_standAt (wpAny_bind ?_))
  show wpAny _ X.A (do let _ ← comprehension (.ListComp elt [⟨target, iter, ifs, 0⟩] scope pos) scope X.env _ (newList []) false (eval iter X.env) (some (assign (.Name yn py) X.env))) _ _ s
  refine wpAny_bind (wpAny_mono (wpAny_comprehension_free (use := some (assign (.Name yn py) X.env)) (Q := fun _ s' => SP X pins D0 .next s') rfl hs hclos hkind hnames (thn (hi pins s σ H _ I h) fun v s1 h1 => thn h1 fun itv s2 h2 => ?_)) (fun _ s' hq => wpAny_pure (wpAny_pure hq)) fun _ _ e => e)
  obtain ⟨it, fp, tn, J, H2, e, I2, T, st2, f2, hR⟩ := h2
  subst e
  have hD0 : H2 s2.heap.objs.size = none := I2.fresh
  obtain ⟨W, ⟨m0, w0⟩, turnW⟩ := hR _ hD0
  have I3 : Inv X pins σ (upd H2 s2.heap.objs.size (.lst [])) { s2 with heap := s2.heap.push { cls := .type "list", data := .seq ([] : List Value).toArray } } := I2.lnew (t' := s2.toks) .nil (Nat.zero_le _)
  refine wpAny_newObj_type (wpAny_newFunctionEnv hcell (fun nk hnk => by simp at hnk) (fun h₁ hns₁ hsb₁ => ?_) hkind)
  dsimp only at hns₁ hsb₁ ⊢
  generalize hs3 : ({ s2 with heap := s2.heap.push { cls := .type "list", data := .seq ([] : List Value).toArray } } : Shared) = s3 at I3
  have eh3 : s3.heap = s2.heap.push { cls := .type "list", data := .seq ([] : List Value).toArray } := by rw [← hs3]
  have hC : s3.heap.objs.size = s2.heap.objs.size + 1 := by rw [eh3, Heap.size_push]
  have old : ∀ b o, s3.heap.get? b = some o → h₁.get? b = some o := fun b o e => by
    have hb : b ≠ s3.heap.objs.size := Nat.ne_of_lt (Heap.lt_size e)
    rw [eh3] at e hb
    exact hsb₁.extBut b o hb (Heap.get?_push_of_some _ e)
  have fpl : ∀ b ∈ fp, b < s2.heap.objs.size := fun b hb => let ⟨o, e, _⟩ := T.obj _ _ st2 b hb; Heap.lt_size e
  have fps : ∀ b ∈ fp, b ∉ frs X.stack := fun b hb z => (List.mem_cons.mp (I2.stkSub b z)).elim (f2 b hb).2.1 (f2 b hb).2.2.1
  have fpc : ∀ b ∈ fp, ∀ y c, cl.lookup y = some c → c ≠ b := fun b hb y c e => (f2 b hb).2.2.2.2.1 y c (hsub y c e)
  have cne : ∀ y c, cl.lookup y = some c → c ≠ s3.heap.objs.size := fun y c e z => by
    obtain ⟨v, q⟩ := I3.cell y c (hsub y c e)
    exact absurd q.lt (by rw [z]; exact Nat.lt_irrefl _)
  let X' : Cx := cxCF X scope cl (xs ++ ys) s3.heap.objs.size s3 (upd H2 s2.heap.objs.size (.lst [])) fp
  have okX : X'.Ok := by
    refine ⟨I2.ok.mod, hkind, I2.ok.glob, I2.ok.blt, Nat.le_refl _, fun y z c e1 e2 => I2.ok.inj y z c (hsub _ _ e1) (hsub _ _ e2), fun y hy => hhas y (relab_inv hcell hy), fun y c z _ => absurd z (by simp [X', cxCF]), I2.ok.hd, I2.ok.frames, .inl rfl, fun b hb => ⟨?_, fun y c e => fpc b hb y c e⟩,
      I3.bs, Nat.le_trans I3.ok.bsz I3.sz, fun b o e hb => ?_, fps, I3.stack, I3.stkFree⟩
    · exact Nat.ne_of_lt (Nat.lt_of_lt_of_le (fpl b hb) (by show s2.heap.objs.size ≤ s3.heap.objs.size; rw [hC]; exact Nat.le_succ _))
    · rcases (f2 b hb).2.2.2.1 with z | z
      · exact I2.ok.noex b o e z
      · exact absurd (Nat.lt_of_lt_of_le (Heap.lt_size (I2.ok.bs b o e).1) z) (Nat.lt_irrefl _)
  have stat : ∀ {H' : Hp}, (∀ b ∈ fp, H' b = none) → ∀ b ∈ fp, FpOk X' [] H' b := fun hn b hb => by
    refine ⟨hn b hb, ?_, fps b hb, .inl hb, fun y c e => fpc b hb y c e, fun p hp => absurd (show p ∈ ([] : List (Addr × Obj)) from hp) (by simp)⟩
    exact Nat.ne_of_lt (Nat.lt_of_lt_of_le (fpl b hb) (by show s2.heap.objs.size ≤ s3.heap.objs.size; rw [hC]; exact Nat.le_succ _))
  have I4 : ∀ tk : Nat, Inv X' [] (List.replicate xs.length none ++ frOf σ js) (upd H2 s2.heap.objs.size (.lst [])) { s3 with heap := h₁, toks := tk } := fun tk => by
    refine ⟨okX, rfl, I3.bare, Un.kept old, ⟨_, by rw [← eh3] at hns₁; exact hns₁, fun i y v e1 e2 _ => ?_⟩, fun y c e => let ⟨v, q⟩ := I3.cell y c (hsub y c e); let ⟨o, q1, q2⟩ := q; ⟨v, o, old c o q1, q2⟩, I3.hok.fresh (Nat.le_refl _), fun y c e => I3.freeC y c (hsub y c e), fun p hp => absurd (show p ∈ ([] : List (Addr × Obj)) from hp) (by simp), I3.hok.kept old, by simp [X', cxCF, frOf, ylen]⟩
    by_cases hlt : i < xs.length
    · rw [List.getElem?_append_left (by simpa using hlt), List.getElem?_replicate, if_pos hlt] at e2
      cases e2
    · have hge : xs.length ≤ i := Nat.le_of_not_lt hlt
      have e1' : (xs ++ ys)[i]? = some y := e1
      rw [List.getElem?_append_right hge] at e1'
      rw [List.getElem?_append_right (by simpa using hge), List.length_replicate] at e2
      obtain ⟨j, hj, hN, hk, hfr⟩ := yat _ y e1'
      have e3 : (σ[j]?).join = some v := by
        unfold frOf at e2
        rw [List.getElem?_map, hj] at e2
        exact Option.some.inj e2
      have e4 : σ[j]? = some (some v) := by
        cases q : σ[j]? with
        | none => rw [q] at e3; cases e3
        | some w => rw [q] at e3; have : w = some v := e3; rw [this]
      obtain ⟨m3, _, hl3⟩ := I3.loc
      obtain ⟨u, ru, lk⟩ := hl3 j y v hN e4 (by rcases hk with z | z; exact .inr (.inl z); exact .inr (.inr z))
      refine ⟨u, ru, .inr ⟨relab_free hfr, ?_⟩⟩
      rcases lk with ⟨z, _⟩ | ⟨_, c, hc1, hc2⟩
      · rcases hk with z2 | z2 <;> rw [z] at z2 <;> cases z2
      · obtain ⟨c', hc'⟩ := hhas y hfr
        have : c' = c := by have := hsub y c' hc'; rw [hc1] at this; exact (Option.some.inj this).symm
        subst this
        obtain ⟨o, q1, q2⟩ := hc2
        exact ⟨c', hc', o, old c' o q1, q2⟩
  have fr0 : ∀ b ∈ fp, (upd H2 s2.heap.objs.size (.lst []) : Hp) b = none := fun b hb => by rw [upd_ne (Nat.ne_of_lt (fpl b hb))]; exact (f2 b hb).1
  have st4 : tn 0 h₁ := T.keep 0 _ _ st2 fun b hb o e => old b o (by rw [eh3]; exact Heap.get?_push_of_some _ e)
  have fin : ∀ {σ5 : St} {H' : Hp} {s5 : Shared} {h' : Heap}, Inv X' [] σ5 H' s5 → Heap.SameBut s3.heap.objs.size s5.heap h' → Inv X pins σ H' { s5 with heap := h' } := by
    intro σ5 H' s5 h' I5 sb
    obtain ⟨hh, gg, d, t, os'⟩ := s5
    have eo : os' = s3.os := I5.os
    subst eo
    have keepC : ∀ b o, b ≠ s3.heap.objs.size → hh.get? b = some o → h'.get? b = some o := fun b o hb e => sb.extBut b o hb e
    have ne3 : ∀ b o, s3.heap.get? b = some o → b ≠ s3.heap.objs.size := fun b o e => Nat.ne_of_lt (Heap.lt_size e)
    have u : Un (frs X.stack) fp (upd H2 s2.heap.objs.size (.lst [])) H' s3.heap hh := I5.base
    have un : Un (frs X.stack) fp (upd H2 s2.heap.objs.size (.lst [])) H' s3.heap h' :=
      ⟨fun b o e n hb hx => keepC b o (ne3 b o e) (u.keep b o e n hb hx), fun b o e n hb hx => let ⟨sl, q⟩ := u.slot b o e n hb hx; ⟨sl, keepC b _ (ne3 b o e) q⟩, u.free, fun b o e hx => let ⟨o', q⟩ := u.there b o e hx; ⟨o', keepC b o' (ne3 b o e) q⟩, u.tups, u.frzs, u.tbls⟩
    have hfree' : H' s3.heap.objs.size = none := I5.free
    have hok' : HOk X.prog X.w H' h' := fun b u e => by
      refine (I5.hok b u e).stay (fun c v hc q => keepC c v ?_ q) (fun _ q => q) fun _ _ q => q
      rcases hc with z | z
      · rw [z]; intro z2; rw [z2, hfree'] at e; cases e
      · intro z2; rw [z2, hfree'] at z; cases z
    have J := I3.call (h' := h') (g' := gg) (d' := d) (t' := t) (ch := fp) un hok' I5.bare (fun b hb => let ⟨_, h1, _, h2, h3, h4⟩ := f2 b hb; ⟨h2, h1, h3, h4⟩)
    exact J
  have loop : ∀ s4 : Shared, (∃ tk, s4 = { s3 with heap := h₁, toks := tk }) →
      codeAny (model X.prog X.w) X.A (.compLoop (.ListComp elt [⟨target, iter, ifs, 0⟩] scope pos) 0 (.ref it) (.ref s2.heap.objs.size) X'.env)
        (compPost (model X.prog X.w) X.A X.xe (some (assign (.Name yn py) X.env)) (fun _ s' => SP X pins D0 .next s') (.ref s2.heap.objs.size) s3.heap.objs.size) s4 := by
    rintro s4 ⟨tk, rfl⟩
    refine comp_turns (fun n s' => ∃ i ys' pre H', Inv X' [] (pre ++ frOf σ js) H' s' ∧ pre.length = xs.length ∧ tn i s'.heap ∧ (∀ b ∈ fp, H' b = none) ∧ W i n ys' H') ?_ m0 ⟨0, [], List.replicate xs.length none, _, I4 tk, by simp, st4, fr0, w0⟩
    rintro n s5 ⟨i, ys', pre, H5, I5, hpre, st5, fr5, w5⟩
    obtain ⟨hD5, ⟨js5, q⟩ | ⟨jg, step⟩⟩ := turnW i n ys' H5 w5
    · refine wpAny_mono (T.done X' rfl rfl rfl hc i [] s5 _ H5 (fun _ _ => False) I5 (stat fr5) st5 js5) (fun r s6 hr => ?_) fun _ _ z => z.elim
      obtain ⟨rfl, I6⟩ := hr
      obtain ⟨m, hn, _⟩ := I6.loc
      have J6 : Inv X pins σ H5 s6 := fin I6 (Heap.SameBut.refl _ _)
      have fpC : FpOk X pins H5 s3.heap.objs.size := I3.fpOk (Nat.le_refl _) I6.free
      obtain ⟨oC, esC, epC, goC, gdC, restC⟩ := id hn
      have J7 := J6.pinned (fp := [s3.heap.objs.size]) (fun b hb => by rw [List.mem_singleton.mp hb]; exact fpC) (fun b hb => by rw [List.mem_singleton.mp hb]; exact ⟨oC, goC, fun v z => by rw [gdC] at z; cases z⟩)
      show wpAny _ X.A (assign (.Name yn py) X.env (.ref s2.heap.objs.size)) _ _ s6
      refine wpAny_mono (pg_name (X := X) (pos := py) (i := ix) hN hix hyn hf _ s6 σ H5 (.ref s2.heap.objs.size) (.ref s2.heap.objs.size) (fun σ' H'' => σ' = σ.set ix (some (.ref s2.heap.objs.size)) ∧ H'' = H5) J7 rfl ⟨rfl, rfl⟩) (fun _ s7 h7 => ?_) fun _ _ z => z
      obtain ⟨σ7, H7, I7, rfl, rfl⟩ := h7
      have g7 : s7.heap.get? s3.heap.objs.size = some oC := (I7.pin (s3.heap.objs.size, oC) (List.mem_append_right _ (List.mem_append_right _ (mem_pinsAt (List.mem_singleton.mpr rfl) goC)))).1
      refine ⟨m, ⟨oC, esC, epC, g7, gdC, restC⟩, fun h'' sb => ⟨_, _, I7.unpinned.turned (t' := s7.toks) (fun b o hb e => sb.extBut b o hb e) fpC.1 fpC.2.1 fpC.2.2.2.1 fpC.2.2.2.2.1 fpC.2.2.2.2.2, ?_⟩⟩
      rw [hQ] at q
      exact q
    · refine wpAny_mono (T.item X' rfl rfl rfl hc i [] s5 _ H5 (fun _ _ => False) I5 (stat fr5) st5 jg) (fun r s6 hr => ?_) fun _ _ z => z.elim
      obtain ⟨u, rfl, h6⟩ := hr
      refine wpAny_mono h6 (fun _ s7 h7 => ?_) fun _ _ z => z.elim
      obtain ⟨xv, H7, I7, r7, y7, st7, fr7⟩ := h7
      have I7' := I7.pinned (stat fr7) (T.obj _ _ st7)
      refine wpAny_mono (hg cl s3.heap.objs.size s3 (upd H2 s2.heap.objs.size (.lst [])) fp _ s7 _ H7 xv u _ I7' r7 (step xv H7 y7 pre hpre)) (fun _ s8 h8 => ?_) fun _ _ z => z.elim
      obtain ⟨σ8, H8, I8, ⟨pre', hpre', e8⟩, q8⟩ := h8
      subst e8
      refine wpAny_mono (ht cl s3.heap.objs.size s3 (upd H2 s2.heap.objs.size (.lst [])) fp _ s8 _ H8 _ I8 q8) (fun ok s9 h9 => ?_) fun _ _ z => z.elim
      obtain ⟨H9, I9, q9⟩ := h9
      have stay : ∀ {H' : Hp} {s' : Shared}, Inv X' ([] ++ pinsAt fp s7.heap) (pre' ++ frOf σ js) H' s' → tn (i + 1) s'.heap ∧ ∀ b ∈ fp, H' b = none := fun {H' s'} I' => by
        refine ⟨T.keep _ _ _ st7 fun b hb o e => (I'.pin (b, o) (List.mem_append_right _ (List.mem_append_right _ (mem_pinsAt hb e)))).1, fun b hb => ?_⟩
        obtain ⟨o, e, d⟩ := T.obj _ _ st7 b hb
        exact (I'.pin (b, o) (List.mem_append_right _ (List.mem_append_right _ (mem_pinsAt hb e)))).2.1
      cases ok with
      | false =>
        obtain ⟨m', lt, w9⟩ := (show ∃ m', m' < n ∧ W (i + 1) m' ys' H9 by simpa using q9)
        obtain ⟨k1, k2⟩ := stay I9
        exact ⟨m', lt, i + 1, ys', pre', H9, I9.unpinned, hpre', k1, k2, w9⟩
      | true =>
        have q9' : te (pre' ++ frOf σ js) H9 (fun y H6 => H6 s2.heap.objs.size = some (.lst ys') ∧ ys'.length < sizeLine ∧ ∃ m', m' < n ∧ W (i + 1) m' (ys' ++ [y]) (upd H6 s2.heap.objs.size (.lst (ys' ++ [y])))) := by simpa using q9
        refine wpAny_mono (he cl s3.heap.objs.size s3 (upd H2 s2.heap.objs.size (.lst [])) fp _ s9 _ H9 _ I9 q9') (fun y s10 h10 => ?_) fun _ _ z => z.elim
        obtain ⟨yv, H10, I10, r10, hD10, hl10, m', lt, w10⟩ := h10
        refine wpAny_mono (mt_append (X := X') _ s10 _ H10 (.ref s2.heap.objs.size) [yv] (.ref s2.heap.objs.size) [y] (fun _ H' => H' = upd H10 s2.heap.objs.size (.lst (ys' ++ [yv]))) I10 rfl (.cons r10 .nil) ⟨_, ys', yv, rfl, rfl, hD10, hl10, rfl⟩) (fun _ s11 h11 => ?_) fun _ _ z => z.elim
        obtain ⟨_, H11, I11, _, rfl⟩ := h11
        obtain ⟨k1, k2⟩ := stay I11
        exact ⟨m', lt, i + 1, ys' ++ [yv], pre', _, I11.unpinned, hpre', k1, k2, w10⟩
  have L := loop { s3 with heap := h₁, toks := s2.toks + ([] : List (Str × Value)).length } ⟨_, rfl⟩
  subst hs3
  exact codeAny_compStart_list L (T.self _ 0 _ _ _ st4 L)
end
end L2
namespace L2
open PySem PySem.Spec PyProof.Rows
inductive Dat where
  | non
  | int (i : Int)
  | str (x : Str)
  | tup (ds : List Dat)
mutual
def Dat.beq : Dat → Dat → Bool
  | .non, .non => true
  | .int i, .int j => i == j
  | .str x, .str y => x == y
  | .tup ds, .tup es => Dat.beqs ds es
  | _, _ => false
def Dat.beqs : List Dat → List Dat → Bool
  | [], [] => true
  | d :: ds, e :: es => Dat.beq d e && Dat.beqs ds es
  | _, _ => false
end
mutual
def Dat.deep : Dat → Nat
  | .tup ds => Dat.deeps ds + 1
  | _ => 0
def Dat.deeps : List Dat → Nat
  | [] => 0
  | d :: ds => max (Dat.deep d) (Dat.deeps ds)
end
mutual
def IsDat (K : PySem.W.Frag) (H : Hp) : Dat → V → Prop
  | .non, x => x = .non
  | .int i, x => x = .int i
  | .str z, x => x = .str z
  | .tup ds, x => ∃ a xs, x = .ref a ∧ SqT K H a xs ∧ AreDat K H ds xs
def AreDat (K : PySem.W.Frag) (H : Hp) : List Dat → List V → Prop
  | [], xs => xs = []
  | d :: ds, xs => ∃ y ys, xs = y :: ys ∧ IsDat K H d y ∧ AreDat K H ds ys
end
mutual
theorem IsDat.same {K : PySem.W.Frag} {H H' : Hp} (s : Same H H') : ∀ {d : Dat} {x : V}, IsDat K H d x → IsDat K H' d x
  | .non, _, h => h
  | .int _, _, h => h
  | .str _, _, h => h
  | .tup _, _, ⟨a, xs, e, hq, hs⟩ => ⟨a, xs, e, s.tup hq, AreDat.same s hs⟩
theorem AreDat.same {K : PySem.W.Frag} {H H' : Hp} (s : Same H H') : ∀ {ds : List Dat} {xs : List V}, AreDat K H ds xs → AreDat K H' ds xs
  | [], _, h => h
  | _ :: _, _, ⟨y, ys, e, h1, h2⟩ => ⟨y, ys, e, IsDat.same s h1, AreDat.same s h2⟩
end
theorem AreDat.length {K : PySem.W.Frag} {H : Hp} : ∀ {ds : List Dat} {xs : List V}, AreDat K H ds xs → xs.length = ds.length
  | [], _, h => by rw [show _ = [] from h]; rfl
  | _ :: _, _, ⟨y, ys, e, _, h2⟩ => by rw [e, List.length_cons, List.length_cons, AreDat.length h2]
theorem AreDat.get {K : PySem.W.Frag} {H : Hp} : ∀ {ds : List Dat} {xs : List V} {j : Nat} {d : Dat}, AreDat K H ds xs → ds[j]? = some d → ∃ x, xs[j]? = some x ∧ IsDat K H d x
  | [], _, _, _, _, e => by simp at e
  | d :: ds, _, j, d', ⟨y, ys, e, h1, h2⟩, he => by
    subst e
    cases j with
    | zero => simp at he; subst he; exact ⟨y, rfl, h1⟩
    | succ j => simpa using AreDat.get h2 (by simpa using he)
theorem deep_at : ∀ {ds : List Dat} {d : Dat}, d ∈ ds → Dat.deep d ≤ Dat.deeps ds
  | d' :: ds, d, h => by
    show _ ≤ max _ _
    rcases List.mem_cons.mp h with rfl | h
    · exact Nat.le_max_left _ _
    · exact Nat.le_trans (deep_at h) (Nat.le_max_right _ _)
theorem beqs_all : ∀ (ds es : List Dat), Dat.beqs ds es = ((List.range (min ds.length es.length)).all (fun j => Dat.beq (ds.getD j .non) (es.getD j .non)) && ds.length == es.length)
  | [], [] => by simp [Dat.beqs]
  | [], e :: es => by simp [Dat.beqs]
  | d :: ds, [] => by simp [Dat.beqs]
  | d :: ds, e :: es => by
    have ih := beqs_all ds es
    have hm : min (d :: ds).length (e :: es).length = min ds.length es.length + 1 := by simp only [List.length_cons]; omega
    rw [hm, List.range_succ_eq_map, List.all_cons, List.all_map]
    show (Dat.beq d e && Dat.beqs ds es) = _
    rw [ih]
    simp only [List.length_cons, List.getD_cons_zero, Function.comp_def, List.getD_cons_succ, Nat.add_right_cancel_iff, Bool.and_assoc]
    congr 2
    by_cases h : ds.length = es.length <;> simp [h]
mutual
theorem beq_refl : ∀ d : Dat, Dat.beq d d = true
  | .non => rfl
  | .int _ => by simp [Dat.beq]
  | .str _ => by simp [Dat.beq]
  | .tup ds => beqs_refl ds
theorem beqs_refl : ∀ ds : List Dat, Dat.beqs ds ds = true
  | [] => rfl
  | d :: ds => by show (Dat.beq d d && Dat.beqs ds ds) = true; rw [beq_refl d, beqs_refl ds]; rfl
end
end L2
namespace L2
open PySem PySem.Spec PyProof.Rows
section
variable {X : Cx} {pins : List (Addr × Obj)} {σ : St} {H : Hp} {s : Shared}
mutual
theorem dat_det (I : Inv X pins σ H s) : ∀ {d e : Dat} {x : V}, IsDat X.K H d x → IsDat X.K H e x → Dat.beq d e = true
  | .non, .non, _, _, _ => rfl
  | .int i, .int j, _, h1, h2 => by
    have : V.int i = V.int j := (show _ = V.int i from h1).symm.trans h2
    injection this with this
    simp [Dat.beq, this]
  | .str i, .str j, _, h1, h2 => by
    have : V.str i = V.str j := (show _ = V.str i from h1).symm.trans h2
    injection this with this
    simp [Dat.beq, this]
  | .tup ds, .tup es, _, ⟨a, xs, e1, q1, h1⟩, ⟨b, ys, e2, q2, h2⟩ => by
    have e : V.ref a = V.ref b := e1.symm.trans e2
    injection e with e
    subst e
    have := I.tuple_inj q1 q2
    subst this
    exact dats_det I h1 h2
  | .non, .int j, _, h1, h2 => by have : V.non = V.int j := (show _ = V.non from h1).symm.trans h2; cases this
  | .non, .str j, _, h1, h2 => by have : V.non = V.str j := (show _ = V.non from h1).symm.trans h2; cases this
  | .non, .tup es, _, h1, ⟨b, ys, e2, _⟩ => by have : V.non = V.ref b := (show _ = V.non from h1).symm.trans e2; cases this
  | .int i, .non, _, h1, h2 => by have : V.int i = V.non := (show _ = V.int i from h1).symm.trans h2; cases this
  | .int i, .str j, _, h1, h2 => by have : V.int i = V.str j := (show _ = V.int i from h1).symm.trans h2; cases this
  | .int i, .tup es, _, h1, ⟨b, ys, e2, _⟩ => by have : V.int i = V.ref b := (show _ = V.int i from h1).symm.trans e2; cases this
  | .str i, .non, _, h1, h2 => by have : V.str i = V.non := (show _ = V.str i from h1).symm.trans h2; cases this
  | .str i, .int j, _, h1, h2 => by have : V.str i = V.int j := (show _ = V.str i from h1).symm.trans h2; cases this
  | .str i, .tup es, _, h1, ⟨b, ys, e2, _⟩ => by have : V.str i = V.ref b := (show _ = V.str i from h1).symm.trans e2; cases this
  | .tup ds, .non, _, ⟨a, xs, e1, _⟩, h2 => by have : V.ref a = V.non := e1.symm.trans h2; cases this
  | .tup ds, .int j, _, ⟨a, xs, e1, _⟩, h2 => by have : V.ref a = V.int j := e1.symm.trans h2; cases this
  | .tup ds, .str j, _, ⟨a, xs, e1, _⟩, h2 => by have : V.ref a = V.str j := e1.symm.trans h2; cases this
theorem dats_det (I : Inv X pins σ H s) : ∀ {ds es : List Dat} {xs : List V}, AreDat X.K H ds xs → AreDat X.K H es xs → Dat.beqs ds es = true
  | [], [], _, _, _ => rfl
  | [], e :: es, _, h1, ⟨y, ys, e2, _⟩ => by have : ([] : List V) = y :: ys := (show _ = [] from h1).symm.trans e2; cases this
  | d :: ds, [], _, ⟨y, ys, e1, _⟩, h2 => by have : y :: ys = ([] : List V) := e1.symm.trans h2; cases this
  | d :: ds, e :: es, _, ⟨y, ys, e1, a1, b1⟩, ⟨z, zs, e2, a2, b2⟩ => by
    have e' : y :: ys = z :: zs := e1.symm.trans e2
    injection e' with h1 h2
    subst h1 h2
    show (Dat.beq d e && Dat.beqs ds es) = true
    rw [dat_det I a1 a2, dats_det I b1 b2]
    rfl
end
end
end L2
namespace L2
open PySem PySem.Spec PyProof.Rows
section
variable {X : Cx} {pins : List (Addr × Obj)} {σ : St} {H : Hp} {s : Shared}
theorem dat_at {A : Around} {ds : List Dat} {xs : List V} {its : List Value} {j : Nat} (h : AreDat X.K H ds xs) (r : Vals xs its) (hj : j < its.toArray.size) :
    ∃ x, IsDat X.K H (ds.getD j .non) x ∧ RelV x its.toArray[j] ∧ ds.getD j .non ∈ ds := by
  have hl := h.length
  have hr := r.length
  have hj' : j < its.length := by simpa using hj
  have hd : j < ds.length := by omega
  have e : ds[j]? = some (ds.getD j .non) := by rw [List.getD_eq_getElem?_getD, List.getElem?_eq_getElem hd]; rfl
  obtain ⟨x, hx, hi⟩ := h.get e
  obtain ⟨u, hu, ru⟩ := r.get hx
  refine ⟨x, hi, ?_, List.mem_of_getElem? e⟩
  have : its.toArray[j] = u := by
    rw [List.getElem?_eq_getElem hj'] at hu
    have := Option.some.inj hu
    simpa using this
  rw [this]
  exact ru
theorem dat_eqAt (I : Inv X pins σ H s) : ∀ (n : Nat) (A : Around) {d e : Dat} {x y : V} {u v : Value}, Dat.deep d ≤ n → A.units + n < cLine → IsDat X.K H d x → IsDat X.K H e y → RelV x u → RelV y v → SeqAt.EqAt A s u v (Dat.beq d e) := by
  intro n
  induction n with
  | zero =>
    intro A d e x y u v hn hu hd he rx ry
    cases d with
    | tup ds => exact absurd hn (by simp [Dat.deep])
    | non =>
      cases (show x = .non from hd)
      cases e with
      | non => cases (show y = .non from he); exact eqAt_V rx ry rfl rfl
      | int j => cases (show y = .int j from he); exact eqAt_V rx ry rfl rfl
      | str j => cases (show y = .str j from he); exact eqAt_V rx ry rfl rfl
      | tup es =>
        obtain ⟨b, ys, rfl, q2, _⟩ := he
        obtain ⟨its2, r2, p2, _⟩ := I.tuple q2
        cases rx; cases ry
        exact SeqAt.EqAt.none_tuple p2 (by omega)
    | int i =>
      cases (show x = .int i from hd)
      cases e with
      | non => cases (show y = .non from he); exact eqAt_V rx ry rfl rfl
      | int j => cases (show y = .int j from he); exact eqAt_V rx ry rfl rfl
      | str j => cases (show y = .str j from he); exact eqAt_V rx ry rfl rfl
      | tup es =>
        obtain ⟨b, ys, rfl, q2, _⟩ := he
        obtain ⟨its2, r2, p2, _⟩ := I.tuple q2
        obtain ⟨t, rfl⟩ := rx; cases ry
        exact SeqAt.EqAt.int_tuple i t p2 (by omega)
    | str i =>
      cases (show x = .str i from hd)
      cases e with
      | non => cases (show y = .non from he); exact eqAt_V rx ry rfl rfl
      | int j => cases (show y = .int j from he); exact eqAt_V rx ry rfl rfl
      | str j => cases (show y = .str j from he); exact eqAt_V rx ry rfl rfl
      | tup es =>
        obtain ⟨b, ys, rfl, q2, _⟩ := he
        obtain ⟨its2, r2, p2, _⟩ := I.tuple q2
        obtain ⟨t, rfl⟩ := rx; cases ry
        exact SeqAt.EqAt.str_tuple i t p2 (by omega)
  | succ n ih =>
    intro A d e x y u v hn hu hd he rx ry
    cases d with
    | non => exact ih A (Nat.zero_le _) (by omega) hd he rx ry
    | int i => exact ih A (Nat.zero_le _) (by omega) hd he rx ry
    | str i => exact ih A (Nat.zero_le _) (by omega) hd he rx ry
    | tup ds =>
      obtain ⟨a, xs, rfl, q1, h1⟩ := hd
      obtain ⟨its, r1, p1, _⟩ := I.tuple q1
      cases rx
      cases e with
      | non => cases (show y = .non from he); cases ry; exact SeqAt.EqAt.tuple_none p1 (by omega)
      | int j => cases (show y = .int j from he); obtain ⟨t, rfl⟩ := ry; exact SeqAt.EqAt.tuple_int j t p1 (by omega)
      | str j => cases (show y = .str j from he); obtain ⟨t, rfl⟩ := ry; exact SeqAt.EqAt.tuple_str j t p1 (by omega)
      | tup es =>
        obtain ⟨b, ys, rfl, q2, h2⟩ := he
        obtain ⟨its2, r2, p2, _⟩ := I.tuple q2
        cases ry
        by_cases hab : a = b
        · subst hab
          have := I.tuple_inj q1 q2
          subst this
          have e : Dat.beq (.tup ds) (.tup es) = true := dats_det I h1 h2
          rw [e]
          exact SeqAt.EqAt.same _
        · have l1 := h1.length
          have l2 := h2.length
          have s1 : its.toArray.size = ds.length := by rw [List.size_toArray, ← r1.length, l1]
          have s2 : its2.toArray.size = es.length := by rw [List.size_toArray, ← r2.length, l2]
          have key := SeqAt.RcAt.tuples (e := fun j => Dat.beq (ds.getD j .non) (es.getD j .non)) p1 p2 (by omega : A.units < cLine) fun j j1 j2 => by
            obtain ⟨x', d1, rx', m1⟩ := dat_at (A := A) h1 r1 j1
            obtain ⟨y', d2, ry', _⟩ := dat_at (A := A) h2 r2 j2
            have hdp : Dat.deep (ds.getD j .non) ≤ n := by
              have h3 := deep_at m1
              have h4 : Dat.deeps ds + 1 ≤ n + 1 := hn
              omega
            exact ih A.in1 hdp (by show A.units + 1 + n < cLine; omega) d1 d2 rx' ry'
          rw [s1, s2, ← beqs_all] at key
          exact SeqAt.EqAt.of_refs hab key
end
end L2
namespace HL
open PySem PySem.SeqAt
open AutoSeq1 (wpAny_loadPart')
open MeetsSeq MeetsSeq2 MeetsSeq3
def LtAt (A : Around) (s : Shared) (y x : Value) (b : Bool) : Prop :=
  ∀ (prog : Program) (w : World) (E : Value → Shared → Prop) (Q : Value → Shared → Prop), Q (.bool b) s → wpAny (model prog w) A (richCompare .Lt y x) Q E s
def lexB (e g : Nat → Bool) (fin : Bool) : List Nat → Bool
  | [] => fin
  | j :: r => if e j = true then lexB e g fin r else g j
theorem tuple_ltAt (p q : Addr) (xs ys : Array Value) (n n2 : Nat) (dp dq : Option Addr) (sp sq : Array (Option Value)) (e g : Nat → Bool) :
    Meets (Builtin.«tuple.__lt__» ⟨[.ref p, .ref q], []⟩)
      (fun A R s => s.heap.get? p = some { cls := .type "tuple", dict := dp, data := .seq xs n, slots := sp } ∧ s.heap.get? q = some { cls := .type "tuple", dict := dq, data := .seq ys n2, slots := sq } ∧
        (∀ j (h1 : j < xs.size) (h2 : j < ys.size), EqAt A.in1 s xs[j] ys[j] (e j)) ∧ (∀ j (h1 : j < xs.size) (h2 : j < ys.size), e j = false → LtAt A.in1 s xs[j] ys[j] (g j)) ∧
        R (.ok (.ret (.bool (lexB e g (decide (xs.size < ys.size)) (List.range (min xs.size ys.size)))))) s) :=
  .of_wp fun prog w A R s h => by
    obtain ⟨hp, gs, d, tk, os⟩ := s; obtain ⟨g1, g2, he, hg, h⟩ := h
    have sub := AutoSeq1.sub_tuple_tuple
    have hZ : (xs.toList.zip ys.toList).length = min xs.size ys.size := by simp
    wp_walk using wpAny_loadPart' g1, wpAny_loadPart' g2, wpAny_forIn_list _ (fun rest b s' => b.1 = none ∧ s' = ⟨hp, gs, d, tk, os⟩ ∧ ∃ i, rest = (xs.toList.zip ys.toList).drop i ∧
      R (.ok (.ret (.bool (lexB e g (decide (xs.size < ys.size)) ((List.range (min xs.size ys.size)).drop i))))) ⟨hp, gs, d, tk, os⟩) _
    case turn =>
      rintro ⟨y, x⟩ rest b s' ⟨hb', rfl, i, hz, hR⟩
      have hlt : i < (xs.toList.zip ys.toList).length := Nat.lt_of_not_le fun z => by rw [List.drop_of_length_le z] at hz; cases hz
      have hm : i < min xs.size ys.size := hZ ▸ hlt
      have h1 : i < xs.size := by omega
      have h2 : i < ys.size := by omega
      rw [List.drop_eq_getElem_cons hlt] at hz
      injection hz with hyx hrest
      obtain rfl : y = xs[i] := by simpa using congrArg Prod.fst hyx
      obtain rfl : x = ys[i] := by simpa using congrArg Prod.snd hyx
      have hd : (List.range (min xs.size ys.size)).drop i = i :: (List.range (min xs.size ys.size)).drop (i + 1) := by simp [List.drop_eq_getElem_cons, hm]
      rw [hd] at hR
      have step : lexB e g (decide (xs.size < ys.size)) (i :: (List.range (min xs.size ys.size)).drop (i + 1)) = if e i = true then lexB e g (decide (xs.size < ys.size)) ((List.range (min xs.size ys.size)).drop (i + 1)) else g i := rfl
      rw [step] at hR
      refine wpAny_bind (he i h1 h2 prog w _ _ ?_)
      cases hy : e i with
      | true =>
        rw [hy] at hR
        wp_walk
        exact ⟨rfl, rfl, i + 1, hrest, by simpa using hR⟩
      | false =>
        rw [hy] at hR
        have hg' := hg i h1 h2 hy
        simp only [Bool.not_false, if_true]
        exact wpAny_bind (wpAny_rule (wpAny_bind (hg' prog w _ _ (wpAny_bind (wpAny_pure (wpAny_pure (wpAny_pure ⟨_, rfl, by simpa using hR⟩)))))))
    case fin =>
      rintro ⟨b1, b2⟩ s' ⟨hb', rfl, i, hz, hR⟩
      simp only at hb'
      subst hb'
      have hge : min xs.size ys.size ≤ i := Nat.le_of_not_lt fun z => by
        rw [List.drop_eq_getElem_cons (hZ.symm ▸ z)] at hz; cases hz
      rw [List.drop_of_length_le (by simpa using hge)] at hR
      wp_walk
      exact ⟨_, rfl, by simpa [Builtin.Tuple.tupleCompareSizes, lexB] using hR⟩
    case h =>
      exact ⟨rfl, rfl, 0, rfl, by simpa using h⟩
section
variable {A : Around} {s : Shared}
theorem LtAt.tuples {p q : Addr} {xs ys : Array Value} {e g : Nat → Bool} (hp : s.heap.IsTuple p xs) (hq : s.heap.IsTuple q ys) (hu : A.units < cLine)
    (he : ∀ j (h1 : j < xs.size) (h2 : j < ys.size), EqAt A.in1 s xs[j] ys[j] (e j)) (hg : ∀ j (h1 : j < xs.size) (h2 : j < ys.size), e j = false → LtAt A.in1 s xs[j] ys[j] (g j)) :
    LtAt A s (.ref p) (.ref q) (lexB e g (decide (xs.size < ys.size)) (List.range (min xs.size ys.size))) := fun prog w E Q h => by
  obtain ⟨⟨c1, d1, da1, s1⟩, o1, k1, n1, e1⟩ := id hp
  obtain ⟨⟨c2, d2, da2, s2⟩, o2, k2, n2, e2⟩ := id hq
  simp only at k1 e1 k2 e2
  subst k1 e1 k2 e2
  exact richCompare_meets_room (op := .Lt) ⟨_, o1, rfl⟩ ⟨_, o2, rfl⟩ F.slot_tuple_lt F.entry_tuple_lt (F.args_tuple_lt_2 _ _) (tuple_ltAt p q xs ys n1 n2 d1 d2 s1 s2 e g)
    ⟨o1, o2, he, hg, show Value.bool (lexB e g (decide (xs.size < ys.size)) (List.range (min xs.size ys.size))) ≠ Value.notImplemented ∧ Q _ s from ⟨(fun x => nomatch x), h⟩⟩ hu
theorem LtAt.int (a : Int) (t : Tok) (b : Int) (u : Tok) : LtAt A s (.int a t) (.int b u) (decide (a < b)) := fun _ _ _ _ h => PyProof.Rows.lt_int h
theorem LtAt.str (a : Str) (t : Tok) (b : Str) (u : Tok) : LtAt A s (.str a t) (.str b u) (decide (a.cps.toList < b.cps.toList)) := fun _ _ _ _ h => PyProof.Rows.lt_str h
end
end HL
namespace L2
open PySem PySem.Spec PyProof.Rows HL
mutual
def Dat.lt : Dat → Dat → Bool
  | .int i, .int j => decide (i < j)
  | .str x, .str y => decide (x.cps.toList < y.cps.toList)
  | .tup ds, .tup es => Dat.lts ds es
  | _, _ => false
def Dat.lts : List Dat → List Dat → Bool
  | _, [] => false
  | [], _ :: _ => true
  | d :: ds, e :: es => if Dat.beq d e = true then Dat.lts ds es else Dat.lt d e
end
mutual
def Dat.cmp : Dat → Dat → Bool
  | .int _, .int _ => true
  | .str _, .str _ => true
  | .tup ds, .tup es => Dat.cmps ds es
  | _, _ => false
def Dat.cmps : List Dat → List Dat → Bool
  | _, [] => true
  | [], _ :: _ => true
  | d :: ds, e :: es => Dat.cmp d e && Dat.cmps ds es
end
section
variable {X : Cx} {pins : List (Addr × Obj)} {σ : St} {H : Hp} {s : Shared}
end
end L2
namespace HX
open PySem
def Tb (h : Heap) (e T : Addr) (cls fl : Value) : Prop :=
  ∃ oe vs oT ts, T ≠ e ∧ h.get? e = some oe ∧ oe.cls = cls ∧ oe.data = .fields vs ∧ vs[1]? = some (.ref T) ∧ h.get? T = some oT ∧ oT.data = .fields ts ∧ ts[3]? = some fl
structure Mvd (S ch : List Addr) (h h' : Heap) : Prop where
  size : h.objs.size ≤ h'.objs.size
  keep : ∀ b o, b ∉ S → b ∉ ch → h.get? b = some o → h'.get? b = some o
  slot : ∀ b o, b ∉ ch → h.get? b = some o → ∃ sl, h'.get? b = some { o with slots := sl }
theorem Mvd.trans {S ch ch2 : List Addr} {h h1 h2 : Heap} (x : Mvd S ch h h1) (y : Mvd S ch2 h1 h2) (hs : ∀ b ∈ ch2, b ∈ ch ∨ h.get? b = none) : Mvd S ch h h2 where
  size := Nat.le_trans x.size y.size
  keep := fun b o n1 n2 e => y.keep b o n1 (fun z => (hs b z).elim n2 fun k => by rw [k] at e; cases e) (x.keep b o n1 n2 e)
  slot := fun b o n e => by
    obtain ⟨s1, e1⟩ := x.slot b o n e
    obtain ⟨s2, e2⟩ := y.slot b _ (fun z => (hs b z).elim n fun k => by rw [k] at e; cases e) e1
    exact ⟨s2, e2⟩
section
variable {M : Model} {A : Around} {E : Value → Shared → Prop} {s : Shared} {base : Heap} {env : Env} {outer : List Env} {L e T : Addr} {cls fl : Value}
theorem tb_notFrame (hl : s.heap.FunFrames base (env :: outer)) {oe : Obj} {vs : Array Value} (he : s.heap.get? e = some oe) (hd : oe.data = .fields vs) : e ∉ (env :: outer).filterMap (·.frame) := fun hm => by
  obtain ⟨_, o, ho, hnf⟩ := hl.mem hm
  rw [he] at ho
  cases ho
  exact hnf vs hd
theorem entry {oe : Obj} {vs : Array Value} {head : Value} {hadNext : Bool} {Q : Unit → Shared → Prop} (hfr : A.frames = some (env :: outer)) (hl : s.heap.FunFrames base (env :: outer)) (hf : env.frame = some L)
    (he : s.heap.get? e = some oe) (hd : oe.data = .fields vs) (hsz : 1 < vs.size)
    (h : ∀ h', Mvd ((env :: outer).filterMap (·.frame)) [e] s.heap h' → Tb h' e s.heap.objs.size oe.cls (rawInt L) → Q () { s with heap := h' }) :
    wpAny M A (do let a ← frameOf env; let pl ← entryPlaceOf L hadNext; let b ← EntryCells.newEntry head a .none (rawInt L) .none pl; setField (.ref e) 1 b) Q E s := by
  have ne := tb_notFrame hl he hd
  refine wpAny_bind (wpAny_frameOf_fun hfr hl hf fun g1 m1 => ?_)
  refine wpAny_bind (wpAny_entryPlaceOf fun pp hpp => ?_)
  unfold EntryCells.newEntry
  unfold newFields
  refine wpAny_bind (wpAny_newObj_type ?_ (hpp.sizeOk5 _ _ _ _ _))
  obtain ⟨tb, htb⟩ : ∃ tb : Obj, tb = { cls := .type "traceback", dict := none, data := .fields ([head, .ref L, .none, rawInt L, .none] ++ (if pp.isEmpty then List.replicate 6 Value.none else pp)).toArray } := ⟨_, rfl⟩
  have e1 : g1.get? e = some oe := (m1.2.1 e ne).trans he
  have e2 : (g1.push tb).get? e = some oe := Heap.get?_push_of_some _ e1
  have hT : g1.objs.size = s.heap.objs.size := m1.1
  have hTe : g1.objs.size ≠ e := Nat.ne_of_gt (Heap.lt_size e1)
  rw [← htb]
  refine wpAny_setField e2 hd hsz (h _ ⟨?_, fun b o b1 b2 eb => ?_, fun b o b2 eb => ?_⟩ ?_)
  · rw [Heap.size_after_update]
    show _ ≤ (g1.push tb).objs.size
    rw [PyProof.Rows.size_push', hT]
    exact Nat.le_succ _
  · have hb : b ≠ e := fun z => b2 (by simp [z])
    rw [Heap.get?_update_other _ _ (Ne.symm hb)]
    exact Heap.get?_push_of_some _ ((m1.2.1 b b1).trans eb)
  · have hb : b ≠ e := fun z => b2 (by simp [z])
    obtain ⟨sl, q⟩ := m1.2.2 b o eb
    rw [Heap.get?_update_other _ _ (Ne.symm hb)]
    exact ⟨sl, Heap.get?_push_of_some _ q⟩
  · have d3 := Obj.data_mapFields hd (·.setIfInBounds 1 (Value.ref g1.objs.size))
    have e3 := Heap.get?_update_self (Obj.mapFields (·.setIfInBounds 1 (Value.ref g1.objs.size))) e2 (Obj.isFreed_of_fields d3)
    have t3 : ((g1.push tb).update e (Obj.mapFields (·.setIfInBounds 1 (Value.ref g1.objs.size)))).get? g1.objs.size = some tb := by
      rw [Heap.get?_update_other _ _ (Ne.symm hTe)]
      exact Heap.get?_push_size _ (by rw [htb]; rfl)
    rw [← hT]
    refine ⟨_, _, tb, _, hTe, e3, Obj.cls_mapFields _ _, d3, by simp [hsz], t3, by rw [htb], ?_⟩
    rcases hpp with rfl | ⟨_, _, _, _, _, _, _, rfl⟩ <;> simp
theorem setNone {Q : Unit → Shared → Prop} (t : Tb s.heap e T cls fl) (h : ∀ h', Mvd [] [T] s.heap h' → Tb h' e T cls .none → Q () { s with heap := h' }) : wpAny M A (setFlight (.ref e) none) Q E s := by
  obtain ⟨oe, vs, oT, ts, hTe, he, hc, hd, h1, hT, hdT, h3⟩ := t
  have z3 : 3 < ts.size := (Array.getElem?_eq_some_iff.mp h3).1
  unfold setFlight
  refine wpAny_bind (wpAny_field he hd h1 ?_)
  rw [if_pos (show (Value.ref T != Value.none) = true by simp)]
  refine wpAny_setField hT hdT z3 (h _ ⟨?_, fun b o _ b2 eb => ?_, fun b o b2 eb => ?_⟩ ?_)
  · rw [Heap.size_after_update]; exact Nat.le_refl _
  · rw [Heap.get?_update_other _ _ fun z => b2 (by simp [z])]; exact eb
  · exact ⟨o.slots, by rw [Heap.get?_update_other _ _ fun z => b2 (by simp [z])]; exact eb⟩
  · have d3 := Obj.data_mapFields hdT (·.setIfInBounds 3 ((none : Option Addr).elim Value.none fun f => rawInt f))
    exact ⟨oe, vs, _, _, hTe, by rw [Heap.get?_update_other _ _ hTe]; exact he, hc, hd, h1, Heap.get?_update_self _ hT (Obj.isFreed_of_fields d3), d3, by simp [z3]⟩
theorem note_first {oe : Obj} {vs : Array Value} {Q : Unit → Shared → Prop} (hfr : A.frames = some (env :: outer)) (hl : s.heap.FunFrames base (env :: outer)) (hf : env.frame = some L)
    (he : s.heap.get? e = some oe) (hd : oe.data = .fields vs) (h1 : vs[1]? = some .none)
    (h : ∀ h', Mvd ((env :: outer).filterMap (·.frame)) [e] s.heap h' → Tb h' e s.heap.objs.size oe.cls (rawInt L) → Q () { s with heap := h' }) : wpAny M A (noteFrame (.ref e) env) Q E s := by
  unfold noteFrame
  simp only [hf]
  refine wpAny_bind (wpAny_field he hd h1 ?_)
  rw [if_neg (by decide)]
  exact entry hfr hl hf he hd (Array.getElem?_eq_some_iff.mp h1).1 h
theorem note_next {Q : Unit → Shared → Prop} (hfr : A.frames = some (env :: outer)) (hl : s.heap.FunFrames base (env :: outer)) (hf : env.frame = some L) (t : Tb s.heap e T cls .none)
    (h : ∀ h', Mvd ((env :: outer).filterMap (·.frame)) [e, T] s.heap h' → Tb h' e s.heap.objs.size cls (rawInt L) → Q () { s with heap := h' }) : wpAny M A (noteFrame (.ref e) env) Q E s := by
  obtain ⟨oe, vs, oT, ts, hTe, he, hc, hd, h1, hT, hdT, h3⟩ := t
  subst hc
  unfold noteFrame
  simp only [hf]
  refine wpAny_bind (wpAny_field he hd h1 ?_)
  rw [if_pos (show (Value.ref T != Value.none) = true by simp)]
  refine wpAny_bind (wpAny_field hT hdT h3 ?_)
  rw [if_neg (show ¬ ((Value.none == rawInt L) = true) by simp [rawInt])]
  refine wpAny_bind (wpAny_setField hT hdT (Array.getElem?_eq_some_iff.mp h3).1 ?_)
  have oth : ∀ b, b ≠ T → (s.heap.update T (Obj.mapFields (·.setIfInBounds 3 Value.none))).get? b = s.heap.get? b := fun b hb => Heap.get?_update_other _ _ (Ne.symm hb)
  have hz : (s.heap.update T (Obj.mapFields (·.setIfInBounds 3 Value.none))).objs.size = s.heap.objs.size := Heap.size_after_update ..
  have nT : ∀ b o, s.heap.get? b = some o → (∀ vs, o.data ≠ .fields vs) → b ≠ T := fun b o hb hnf q => by
    rw [q, hT] at hb
    cases hb
    exact hnf ts hdT
  refine entry (s := { s with heap := s.heap.update T (Obj.mapFields (·.setIfInBounds 3 Value.none)) }) hfr (hl.of_keeps fun b o hb hnf => ⟨o, (oth b (nT b o hb hnf)).trans hb, rfl⟩) hf ((oth e (Ne.symm hTe)).trans he) hd (Array.getElem?_eq_some_iff.mp h1).1 fun h' m t' => h h' ?_ ?_
  · exact ⟨by have := m.size; rw [hz] at this; exact this, fun b o b1 b2 eb => m.keep b o b1 (fun z => b2 (by rw [List.mem_singleton.mp z]; simp)) ((oth b fun z => b2 (by simp [z])).trans eb),
      fun b o b2 eb => m.slot b o (fun z => b2 (by rw [List.mem_singleton.mp z]; simp)) ((oth b fun z => b2 (by simp [z])).trans eb)⟩
  · have : Tb h' e (s.heap.update T (Obj.mapFields (·.setIfInBounds 3 Value.none))).objs.size oe.cls (rawInt L) := t'
    rw [hz] at this
    exact this
theorem leave_first {oe : Obj} {vs : Array Value} {Q : Unit → Shared → Prop} (hfr : A.frames = some (env :: outer)) (hl : s.heap.FunFrames base (env :: outer)) (hf : env.frame = some L)
    (he : s.heap.get? e = some oe) (hd : oe.data = .fields vs) (h1 : vs[1]? = some .none)
    (h : ∀ h', Mvd ((env :: outer).filterMap (·.frame)) [e] s.heap h' → Tb h' e s.heap.objs.size oe.cls .none → Q () { s with heap := h' }) : wpAny M A (leaving env (.ref e)) Q E s := by
  unfold leaving
  refine wpAny_bind (note_first hfr hl hf he hd h1 fun h1' m1 t1 => setNone t1 fun h2 m2 t2 => h h2 (m1.trans ⟨m2.size, fun b o _ b2 => m2.keep b o (by simp) b2, m2.slot⟩ fun b hb => .inr (by rw [List.mem_singleton.mp hb]; exact Heap.get?_none_of_le (Nat.le_refl _))) t2)
end
end HX
namespace L2
open PySem PySem.Spec PyProof.Rows
def CXE (P : Program) (w : World) : CXT := fun outer H s E ev s' => ∃ e T cls H', ev = .ref e ∧ HX.Tb s'.heap e T cls .none ∧ s.heap.get? e = none ∧ s.heap.get? T = none ∧ H' e = none ∧ H' T = none ∧
  s'.os = s.os ∧ AllBare s'.gens ∧ Un (frs outer) [] H H' s.heap s'.heap ∧ HOk P w H' s'.heap ∧ E cls none H'
theorem un_moved {fs S ch : List Addr} {H H1 : Hp} {h h1 h2 : Heap} (u : Un fs [] H H1 h h1) (m : HX.Mvd S ch h1 h2) (hS : ∀ b, b < h.objs.size → b ∈ S → b ∈ fs) (hch : ∀ b ∈ ch, h.get? b = none) : Un fs [] H H1 h h2 := by
  have nc : ∀ {b o}, h.get? b = some o → b ∉ ch := fun {b o} e z => by rw [hch b z] at e; cases e
  refine ⟨fun b o e n nf nx => m.keep b o (fun z => nf (hS b (Heap.lt_size e) z)) (nc e) (u.keep b o e n nf nx), fun b o e n nf nx => ?_, u.free, fun b o e nx => ?_, u.tups, u.frzs, u.tbls⟩
  · obtain ⟨sl, q⟩ := u.slot b o e n nf nx
    obtain ⟨sl2, q2⟩ := m.slot b _ (nc e) q
    exact ⟨sl2, q2⟩
  · obtain ⟨o', q⟩ := u.there b o e nx
    obtain ⟨sl2, q2⟩ := m.slot b _ (nc e) q
    exact ⟨_, q2⟩
theorem hok_moved {P : Program} {w : World} {S ch : List Addr} {H : Hp} {h h' : Heap} (ok : HOk P w H h) (m : HX.Mvd S ch h h') (hS : ∀ b ∈ S, H b = none) (hch : ∀ b ∈ ch, H b = none) : HOk P w H h' := fun a o e => by
  refine (ok a o e).stay (fun b u hb q => m.keep b u (fun z => ?_) (fun z => ?_) q) (fun _ q => q) fun _ _ q => q
  · rcases hb with rfl | hb
    · rw [hS _ z] at e; cases e
    · rw [hS _ z] at hb; cases hb
  · rcases hb with rfl | hb
    · rw [hch _ z] at e; cases e
    · rw [hch _ z] at hb; cases hb
theorem ObjOk.ob {P : Program} {w : World} {H : Hp} {h : Heap} {a : Addr} {o : HO} (x : ObjOk P w H h a o) : ∃ q, h.get? a = some q := by
  cases o with
  | lst xs => obtain ⟨_, _, _, _, e⟩ := x; exact ⟨_, e⟩
  | tup xs => obtain ⟨_, _, _, ⟨o, e, _⟩, _⟩ := x; exact ⟨_, e⟩
  | dK kvs => obtain ⟨_, _, _, _, o, _, _, e, _⟩ := x; exact ⟨_, e⟩
  | dT kvs => obtain ⟨_, _, _, _, o, _, _, e, _⟩ := x; exact ⟨_, e⟩
  | set S n => obtain ⟨o, _, _, _, e, _⟩ := x; exact ⟨_, e⟩
  | ins C dx fs => obtain ⟨_, _, _, e, _⟩ := x; exact ⟨_, e⟩
  | own y => obtain ⟨_, e⟩ := x; exact ⟨_, e⟩
  | xd fs => obtain ⟨_, ⟨_, _, _, e, _⟩, _⟩ := x; exact ⟨_, e⟩
  | rng lo hi => obtain ⟨_, _, _, e⟩ := x; exact ⟨_, e⟩
  | frz ob u => obtain ⟨e, _⟩ := x; exact ⟨_, e⟩
  | tbl ps => exact ⟨_, x⟩
  | met f y => exact ⟨_, x⟩
  | ext φ => obtain ⟨_, ⟨_, e⟩, _⟩ := x; exact ⟨_, e⟩
theorem HOk.no {P : Program} {w : World} {H : Hp} {h : Heap} {a : Addr} (x : HOk P w H h) (e : h.get? a = none) : H a = none := by
  cases q : H a with
  | none => rfl
  | some u => obtain ⟨o, z⟩ := (x a u q).ob; rw [e] at z; cases z
theorem Inv.none0 {X : Cx} {pins : List (Addr × Obj)} {σ : St} {H : Hp} {s : Shared} (I : Inv X pins σ H s) (hx : X.ex = []) {b : Addr} (q : s.heap.get? b = none) : X.s₀.heap.get? b = none := by
  cases e : X.s₀.heap.get? b with
  | none => rfl
  | some o => obtain ⟨o', z⟩ := I.base.there b o e (by rw [hx]; simp); rw [q] at z; cases z
def Raises (X : Cx) (E : XK) : Prop := ∀ (pins : List (Addr × Obj)) (σ : St) (H : Hp) (s : Shared) (h' : Heap) (e : Addr) (cls : Value) (args : List Value), Inv X pins σ H s → Heap.MadeExcOf s.heap h' e cls args → E cls none H → X.xe (.ref e) { s with heap := h' }
section
variable {P : Program} {w : World} {K : PySem.W.Frag} {mg : Str → Option Value} {base : Heap} {N : List Str} {qual : Str} {scope : Scope} {f : Addr} {cd : Value} {A : Around} {outer : List Env} {s0 : Shared} {H0 : Hp} {E E' : XK}
theorem raises_cx : Raises (cxOf (CXE P w) P w K mg base N qual scope f cd A outer s0 H0 E) E := by
  intro pins σ H1 s1 h' e cls args I hx hE
  obtain ⟨t, he, htn, ht⟩ := hx.there
  have J := I.kept (t' := s1.toks) hx.keeps
  have sz1 : ∀ b, s1.heap.get? b = none → s0.heap.get? b = none := fun b q => I.none0 rfl q
  have sz2 : s0.heap.objs.size ≤ h'.objs.size := J.sz
  have le : s1.heap.get? e = none := hx.new
  refine HX.leave_first (base := base) (outer := outer) (s := { s1 with heap := h' }) J.ok.frames J.stack rfl he rfl rfl fun h2 m t' => ?_
  refine ⟨e, _, cls, H1, rfl, t', sz1 _ le, Heap.get?_none_of_le sz2, I.hok.no le, J.hok.fresh (Nat.le_refl _), J.os, J.bare, un_moved J.base m (fun b hb z => ?_) (fun b hb => ?_), hok_moved J.hok m (fun b hb => J.stkFree b hb) (fun b hb => ?_), hE⟩
  · rcases List.mem_cons.mp (J.stkSub b z) with q | q
    · have := J.ok.above
      have hb' : b < (cxOf (CXE P w) P w K mg base N qual scope f cd A outer s0 H0 E).s₀.heap.objs.size := hb
      rw [q] at hb'
      exact absurd hb' (Nat.not_lt.mpr this)
    · exact q
  · rw [List.mem_singleton.mp hb]; exact sz1 _ le
  · rw [List.mem_singleton.mp hb]; exact I.hok.no le
end
section
variable {X : Cx} {pins : List (Addr × Obj)} {σ : St} {H : Hp} {s : Shared}
theorem Inv.reX {A' : Around} {c : Bool} {xe : Value → Shared → Prop} (I : Inv X pins σ H s) (hf : A'.frames = X.A.frames) (hd : c = true → A'.handled = none) : Inv { X with A := A', calm := c, xe := xe } pins σ H s :=
  ⟨⟨I.ok.mod, I.ok.kind, I.ok.glob, I.ok.blt, I.ok.above, I.ok.inj, I.ok.has, I.ok.cab, hd, hf.trans I.ok.frames, I.ok.stk, I.ok.exf, I.ok.bs, I.ok.bsz, I.ok.noex, I.ok.exfs, I.ok.funs, I.ok.frf⟩,
    I.os, I.bare, I.base, I.loc, I.cell, I.free, I.freeC, I.pin, I.hok, I.len⟩
theorem Inv.unX {A' : Around} {c : Bool} {xe : Value → Shared → Prop} (I : Inv { X with A := A', calm := c, xe := xe } pins σ H s) (J : X.Ok) : Inv X pins σ H s :=
  ⟨J, I.os, I.bare, I.base, I.loc, I.cell, I.free, I.freeC, I.pin, I.hok, I.len⟩
def PSx (X : Cx) (st : List Stmt) (t : Ends → XK → St → Hp → Prop) : Prop :=
  ∀ (pins : List (Addr × Obj)) (s : Shared) (σ : St) (H : Hp) (D : Ends) (E : XK) (xe : Value → Shared → Prop), Inv X pins σ H s → t D E σ H →
    (∀ ev s1 H1 s', Inv X pins σ H1 s1 → CXE X.prog X.w X.stack H1 s1 E ev s' → xe ev s') → wpAny (model X.prog X.w) X.A (execs st X.env) (SP X pins D) xe s
end
end L2
namespace L2
open PySem PySem.Spec PyProof.Rows
section
variable {X : Cx}
def tRaise (C : Addr) (E : XK) (ta : TA) : TS := fun _ σ H => ta σ H fun vs H1 => vs.length ≤ 10 ∧ E (.ref C) none H1
theorem ps_raise {E : XK} {x : Str} {C : Addr} {bm bmN : List Value} {newId Bn inN B nid initId : String} {e0 : Expr} {rest : List Expr} {ta : TA} {np cpos pos : Pos} (hc : X.calm = true) (R : Raises X E)
    (O : OwnCls x C bm newId X.mg X.base) (Fn : ExcBaseFacts Bn newId inN bmN) (hBn : bm.contains (.type Bn) = true) (FB : ExcBaseFacts B nid initId bm) (hg : Gl X x) (ha : PA X (e0 :: rest) ta)
    (he : starEach (e0 :: rest) X.env = (false, eval e0 X.env) :: starEach rest X.env := by rfl) (hpl : (backTo cpos (starEach (e0 :: rest) X.env)).any (·.1) = false := by rfl) (hd : (x == ("__debug__" : Str)) = false := by decide) :
    PS X (.Raise (some (.Call (.Name x np) (e0 :: rest) [] cpos)) none pos) (tRaise C E ta) := by
  intro pins s σ H D I h
  obtain ⟨tl, N, nm, q, bs, hdct, sn, sub, ab, col, dd, k0, k1, k2, k3, k5, mN, hC, hN, hni, T⟩ := O.obj
  refine wpAny_Raise_call_subU (k5 := k5) (C := C) (nm := nm) (q := q) (N := N) (bs := bs) (bm := tl) (hdct := hdct) (sn := sn) (sub := sub) (ab := ab) (col := col) (dd := dd) (k0 := k0) (k1 := k1) (k2 := k2) (k3 := k3)
    Fn hBn FB (mN := mN) (T.hasType FB.hasBase) (I.ok.hd hc) hpl hni (ld_glob I hg O.bound ⟨rfl, ?_⟩ hd)
  have key := ha cpos pins s σ H _ I h
  rw [he] at key ⊢
  refine Calls.evalArgs_plain (thn key fun us s1 ⟨vs, H1, I1, r, hl, q1⟩ => ?_)
  exact ⟨rfl, by show us.length ≤ _; rw [← r.length, sizeLine_eq]; omega, I1.bk _ _ hC, hN.keeps I1.bk, T.keeps I1.bk, fun h' e hm => R pins σ H1 s1 h' e _ _ I1 hm q1⟩
theorem call_x {x : Str} {k : Nat} {f : Addr} {fd : FuncData} {ps : List Str} {sp : Sp} {e : Expr} {es : List Expr} {ta : TA} {p ap : Pos} {pins : List (Addr × Obj)} {s : Shared} {σ : St} {H : Hp} {Q : VK} {E : XK} {xe : Value → Shared → Prop}
    (F : FnOk X.prog X.w X.K X.mg X.base (CXE X.prog X.w) k f fd ps sp) (hr : Room k X.A) (hg : Gl X x) (hm : X.mg x = some (.ref f))
    (hk : PySem.W.keepIn X.K (.ref f) = true) (hb : Binds X.K fd ps []) (ha : ∀ xe, PA { X with xe := xe } (e :: es) ta) (I : Inv X pins σ H s) (h : ta σ H fun vs H1 => sp vs H1 Q E)
    (hx : ∀ ev s1 H1 s', Inv X pins σ H1 s1 → CXE X.prog X.w X.stack H1 s1 E ev s' → xe ev s')
    (hdb : (x == ("__debug__" : Str)) = false := by decide) (he : starEach (e :: es) X.env = (false, eval e X.env) :: starEach es X.env := by rfl) (hpl : (backTo ap (starEach es X.env)).any (·.1) = false := by rfl) :
    wpAny (model X.prog X.w) X.A (eval (.Call (.Name x p) (e :: es) [] ap) X.env) (EP X pins σ Q) xe s := by
  refine wpAny_Call_Name_kw (ld_glob I hg hm ?_ hdb)
  have I' : Inv { X with xe := xe } pins σ H s := I.reX (A' := X.A) (c := X.calm) rfl I.ok.hd
  refine PySem.W.callWith_K (h₀ := X.base) I.ok.mod.kin hk (thn (ha xe ap pins s σ H _ I' h) fun us s1 ⟨vs, H1, I1', r, q⟩ => ⟨I1'.kIn, ?_⟩) he hpl
  have I1 : Inv X pins σ H1 s1 := I1'.unX I.ok
  have hl : us.length = ps.length := by rw [← r.length]; exact F.len _ _ _ _ q
  have hb' := hb s1 us I1.kIn (by simpa using hl)
  rw [List.append_nil] at hb'
  refine wpAny_call (codeAny_mono (F.run X.A X.stack s1 H1 ⟨us, []⟩ us vs _ E hr I1.env0 hb' r q) fun res s' hq => ?_)
  cases res with
  | error ev => exact hx ev s1 H1 s' I1 hq
  | ok fl =>
    cases fl with
    | ret u => exact I1.after hq
    | next => exact False.elim hq
    | brk => exact False.elim hq
    | cont => exact False.elim hq
theorem psx_ret {x : Str} {k : Nat} {f : Addr} {fd : FuncData} {ps : List Str} {sp : Sp} {e : Expr} {es : List Expr} {ta : TA} {p ap pos : Pos} (F : FnOk X.prog X.w X.K X.mg X.base (CXE X.prog X.w) k f fd ps sp) (hr : Room k X.A) (hg : Gl X x) (hm : X.mg x = some (.ref f))
    (hk : PySem.W.keepIn X.K (.ref f) = true) (hb : Binds X.K fd ps []) (ha : ∀ xe, PA { X with xe := xe } (e :: es) ta)
    (hdb : (x == ("__debug__" : Str)) = false := by decide) (he : starEach (e :: es) X.env = (false, eval e X.env) :: starEach es X.env := by rfl) (hpl : (backTo ap (starEach es X.env)).any (·.1) = false := by rfl) :
    PSx X [.Return (some (.Call (.Name x p) (e :: es) [] ap)) pos] (fun D E σ H => ta σ H fun vs H1 => sp vs H1 D.rt E) := by
  intro pins s σ H D E xe I h hx
  refine wpAny_execs_cons ?_
  exact wpAny_Return_some (thn (call_x F hr hg hm hk hb ha I h hx hdb he hpl) fun v s1 ⟨x', H1, I1, r1, q1⟩ => ⟨x', σ, H1, I1, r1, q1⟩)
theorem inv_caught {pins : List (Addr × Obj)} {σ : St} {H : Hp} {s s1 : Shared} {h3 : Heap} {ch : List Addr} (J : Inv X pins σ H s) (hst : X.stack = X.env :: X.outer) (hex : X.ex = []) (m : HX.Mvd (frs X.stack) ch s.heap h3) (hch : ∀ b ∈ ch, X.s₀.heap.get? b = none ∧ H b = none)
    (hl : X.env.locals ∉ ch) (hce : ∀ x c, X.env.cells.lookup x = some c → c ∉ ch) (hp : ∀ p ∈ X.pn ++ pins, p.1 ∉ ch) : Inv X pins σ H { s with heap := h3 } := by
  have ceq : ∀ {c v}, c ∉ ch → s.heap.IsCell c v → h3.IsCell c v := fun {c v} hc ⟨o, q, d⟩ => by
    obtain ⟨sl, z⟩ := m.slot c o hc q
    exact ⟨_, z, d⟩
  refine ⟨J.ok, J.os, J.bare, ?_, ?_, fun x c e => ?_, J.free, J.freeC, fun p hpp => ?_, hok_moved J.hok m (fun b hb => J.stkFree b hb) fun b hb => (hch b hb).2, J.len⟩
  · have u := J.base
    rw [hex] at u ⊢
    refine un_moved u m (fun b hb z => ?_) fun b hb => (hch b hb).1
    rcases List.mem_cons.mp (J.stkSub b z) with q | q
    · rw [q] at hb; exact absurd hb (Nat.not_lt.mpr J.ok.above)
    · exact q
  · obtain ⟨mm, ⟨o, es, ep, ho, hd, r⟩, hv⟩ := J.loc
    obtain ⟨sl, z⟩ := m.slot _ o hl ho
    refine ⟨mm, ⟨_, es, ep, z, hd, r⟩, fun i x v a b c => ?_⟩
    obtain ⟨u, ru, lk⟩ := hv i x v a b c
    refine ⟨u, ru, ?_⟩
    rcases lk with k | ⟨k, c', e, ic⟩
    · exact .inl k
    · exact .inr ⟨k, c', e, ceq (hce _ _ e) ic⟩
  · obtain ⟨v, ic⟩ := J.cell x c e
    exact ⟨v, ceq (hce _ _ e) ic⟩
  · obtain ⟨a, b, c, d, e⟩ := J.pin p hpp
    refine ⟨m.keep _ _ (fun z => ?_) (hp p hpp) a, b, c, d, e⟩
    rcases List.mem_cons.mp (J.stkSub _ z) with q | q
    · exact c q
    · exact d q
theorem ps_try {x : Str} {C : Addr} {bm : List Value} {newId : String} {body suite : List Stmt} {b0 : Stmt} {tb : Ends → XK → St → Hp → Prop} {ts : TS} {np hpos pos : Pos} (O : OwnCls x C bm newId X.mg X.base) (hbase : bm.contains (.type "BaseException") = true) (hg : Gl X x)
    (hst : X.stack = X.env :: X.outer) (hex : X.ex = []) (hb : PSx X body tb) (hs : ∀ (e : Addr) (xe : Value → Shared → Prop), PSs { X with A := X.A.mark (some (.ref e)), calm := false, xe := xe } (b0 :: suite) ts) (hd : (x == ("__debug__" : Str)) = false := by decide) :
    PS X (.Try body [.ExceptHandler (some (.Name x np)) none (b0 :: suite) hpos] [] [] pos) (fun D σ H => tb D (fun c _ H' => c = .ref C ∧ ts D σ H') σ H) := by
  intro pins s σ H D I h
  have hfr : X.env.frame = some X.env.locals := by
    rcases I.ok.stk with z | z
    · rw [hst] at z
      have := congrArg List.length z
      simp at this
    · exact z.2
  refine wpAny_Try_except ?_
  refine wpAny_mono (hb pins s σ H D _ _ I h fun ev s1 H1 s' I1 cx => ?_) (fun f s1 q => ?_) fun _ _ z => z
  rotate_left
  · cases f with
    | next => exact wpAny_execs_nil q
    | brk => exact q
    | cont => exact q
    | ret u => exact q
  obtain ⟨e, T, cls, H', rfl, tb', le, lT, ne, nT, os, bare, un, hok, rfl, hts⟩ := cx
  have J := I1.call' os un hok bare (fun b z => absurd z (by simp))
  have jst : s'.heap.FunFrames X.base (X.env :: X.outer) := hst ▸ J.stack
  have jfr : X.A.frames = some (X.env :: X.outer) := hst ▸ J.ok.frames
  refine HX.note_next (base := X.base) (outer := X.outer) jfr jst hfr tb' fun h2 m2 t2 => ?_
  refine HX.setNone t2 fun h3 m3 t3 => ?_
  have nw : s'.heap.get? s'.heap.objs.size = none := Heap.get?_none_of_le (Nat.le_refl _)
  have m : HX.Mvd (frs X.stack) [e, T] s'.heap h3 := by
    rw [hst]
    exact m2.trans ⟨m3.size, fun b o _ b2 => m3.keep b o (by simp) b2, m3.slot⟩ fun b hb => .inr (by rw [List.mem_singleton.mp hb]; exact nw)
  have two : ∀ {R : Addr → Prop}, R e → R T → ∀ b ∈ [e, T], R b := fun r1 r2 b hb => by
    rcases List.mem_cons.mp hb with rfl | hb
    · exact r1
    · rw [List.mem_singleton.mp hb]; exact r2
  have far : ∀ b ∈ [e, T], s1.heap.get? b = none := two le lT
  obtain ⟨mm, ⟨oL, _, _, hoL, _⟩, _⟩ := I1.loc
  have fl : X.env.locals ∉ [e, T] := fun z => by rw [far _ z] at hoL; cases hoL
  have fc : ∀ x c, X.env.cells.lookup x = some c → c ∉ [e, T] := fun x c q z => by
    obtain ⟨v, o, ho, _⟩ := I1.cell x c q
    rw [far _ z] at ho; cases ho
  have fp : ∀ p ∈ X.pn ++ pins, p.1 ∉ [e, T] := fun p hp z => by
    have := (I1.pin p hp).1
    rw [far _ z] at this; cases this
  have J3 : Inv X pins σ H' { s' with heap := h3 } := inv_caught (s1 := s1) J hst hex m (two ⟨I1.none0 hex le, ne⟩ ⟨I1.none0 hex lT, nT⟩) fl fc fp
  obtain ⟨tl, N, nm, q, bs, hdct, sn, sub, ab, col, dd, k0, k1, k2, k3, k5, mN, hC, hN, hni, TT⟩ := O.obj
  obtain ⟨oe, vs, oT, ts', hTe, he, hcls, hdt, h1, hT, hdT, h3'⟩ := id t3
  have J4 : Inv { X with A := X.A.mark (some (.ref e)), calm := false, xe := notedBy (model X.prog X.w) (X.A.mark (some (.ref e))) X.env (cameBackBy (model X.prog X.w) X.A X.env X.xe) } pins σ H' { s' with heap := h3 } := J3.reX rfl (fun z => by cases z)
  refine wpAny_handleBy_cons (codeAny_handlers_test (ld_glob J4 hg O.bound ?_ hd)) (by intro z; cases z)
  refine wpAny_excMatches_sub_self (J3.bk _ _ hC) he hcls (TT.hasType hbase) ?_
  refine codeAny_handlers_suite (HX.setNone t3 fun h4 m4 t4 => ?_)
  have m' : HX.Mvd (frs X.stack) [e, s'.heap.objs.size] h3 h4 := ⟨m4.size, fun b o _ b2 => m4.keep b o (by simp) (fun z => b2 (by rw [List.mem_singleton.mp z]; simp)), fun b o b2 => m4.slot b o fun z => b2 (by rw [List.mem_singleton.mp z]; simp)⟩
  have two' : ∀ {R : Addr → Prop}, R e → R s'.heap.objs.size → ∀ b ∈ [e, s'.heap.objs.size], R b := fun r1 r2 b hb => by
    rcases List.mem_cons.mp hb with rfl | hb
    · exact r1
    · rw [List.mem_singleton.mp hb]; exact r2
  have n1 : s1.heap.get? s'.heap.objs.size = none := by
    cases z : s1.heap.get? s'.heap.objs.size with
    | none => rfl
    | some o => obtain ⟨o', y⟩ := un.there _ o z (by simp); rw [nw] at y; cases y
  have far' : ∀ b ∈ [e, s'.heap.objs.size], s1.heap.get? b = none := two' le n1
  have J5 : Inv X pins σ H' { s' with heap := h4 } := inv_caught (s := { s' with heap := h3 }) (s1 := s1) J3 hst hex m' (two' ⟨I1.none0 hex le, ne⟩ ⟨I1.none0 hex n1, hok.fresh (Nat.le_refl _)⟩)
    (fun z => by rw [far' _ z] at hoL; cases hoL) (fun x c q z => by obtain ⟨v, o, ho, _⟩ := I1.cell x c q; rw [far' _ z] at ho; cases ho) (fun p hp z => by have := (I1.pin p hp).1; rw [far' _ z] at this; cases this)
  refine wpAny_mono (hs e _ pins { s' with heap := h4 } σ H' D (J5.reX rfl (fun z => by cases z)) hts) (fun f s6 q6 => ?_) fun _ _ z => z
  cases f with
  | next => obtain ⟨σ6, H6, I6, q6⟩ := q6; exact ⟨σ6, H6, I6.unX J5.ok, q6⟩
  | brk => obtain ⟨σ6, H6, I6, q6⟩ := q6; exact ⟨σ6, H6, I6.unX J5.ok, q6⟩
  | cont => obtain ⟨σ6, H6, I6, q6⟩ := q6; exact ⟨σ6, H6, I6.unX J5.ok, q6⟩
  | ret u => obtain ⟨v6, σ6, H6, I6, r6, q6⟩ := q6; exact ⟨v6, σ6, H6, I6.unX J5.ok, r6, q6⟩
end
end L2
namespace HZ
open PySem PySem.Builtin
section
variable {prog : Program} {w : World} {A : Around} {E : Value → Shared → Prop} {s : Shared}
theorem turn_item {c p : Addr} {k : Nat} {xs : Array Value} {x : Value} {Q : Value → Shared → Prop} (hc : s.heap.IsTupleIter c p k) (hp : s.heap.IsTuple p xs) (hx : xs[k]? = some x)
    (h : ∀ g, g.IsTupleIter c p (k + 1) → Heap.SameBut c s.heap g → Q x { s with heap := g }) : wpAny (model prog w) A (SmallTypes.nextOf (.ref c)) Q E s := by
  obtain ⟨oc, gc, kc, dc⟩ := id hc
  obtain ⟨op, gp, kp, np, dp⟩ := id hp
  unfold SmallTypes.nextOf
  refine wpAny_bind (wpAny_callSpecial?_slot (name := Str.ofString "__next__") hc.typeIs F.slot_tuple_iterator_next (wpAny_call_entry F.slot_tuple_iterator_next hc.typeIs F.entry_tuple_iterator_next ?_ (F.args_tuple_iterator_next_1 _)))
  show wpAny _ _ (field (.ref c) 0 >>= _) _ _ s
  refine wpAny_bind (wpAny_field gc dc (x := .ref p) rfl ?_)
  rw [if_neg (show ¬ ((Value.ref p == Value.none) = true) by simp)]
  refine wpAny_bind (wpAny_field gc dc (x := .int k 0) rfl ?_)
  refine wpAny_bind (wpAny_seqItems gp dp ?_)
  simp only [Int.toNat_natCast, hx]
  have dd := Obj.data_mapFields dc (·.setIfInBounds 1 (rawInt ((k : Int) + 1)))
  refine wpAny_bind (wpAny_setField gc dc (by simp) (wpAny_pure ⟨x, rfl, wpAny_pure (h _ ⟨_, Heap.get?_update_self _ gc (Obj.isFreed_of_fields dd), (Obj.cls_mapFields ..).trans kc, ?_⟩ (Heap.SameBut.update ..))⟩))
  rw [dd]; simp [rawInt]
theorem turn_end {c p : Addr} {k : Nat} {xs : Array Value} {Q : Value → Shared → Prop} (hh : A.handled = none) (hc : s.heap.IsTupleIter c p k) (hp : s.heap.IsTuple p xs) (hx : xs[k]? = none)
    (h : ∀ g e, Heap.ExtBut c s.heap g → (∃ o, g.get? e = some o ∧ o.cls = .type "StopIteration") → E (.ref e) { s with heap := g }) : wpAny (model prog w) A (SmallTypes.nextOf (.ref c)) Q E s := by
  obtain ⟨oc, gc, kc, dc⟩ := id hc
  obtain ⟨op, gp, kp, np, dp⟩ := id hp
  unfold SmallTypes.nextOf
  refine wpAny_bind (wpAny_callSpecial?_slot (name := Str.ofString "__next__") hc.typeIs F.slot_tuple_iterator_next (wpAny_call_entry F.slot_tuple_iterator_next hc.typeIs F.entry_tuple_iterator_next ?_ (F.args_tuple_iterator_next_1 _)))
  show wpAny _ _ (field (.ref c) 0 >>= _) _ _ s
  refine wpAny_bind (wpAny_field gc dc (x := .ref p) rfl ?_)
  rw [if_neg (show ¬ ((Value.ref p == Value.none) = true) by simp)]
  refine wpAny_bind (wpAny_field gc dc (x := .int k 0) rfl ?_)
  refine wpAny_bind (wpAny_seqItems gp dp ?_)
  simp only [Int.toNat_natCast, hx]
  refine wpAny_bind (wpAny_rule (wpAny_bind (wpAny_setField gc dc (by simp) ?_)))
  obtain ⟨g1, hg1⟩ : ∃ g1, g1 = s.heap.update c (Obj.mapFields (·.setIfInBounds 0 Value.none)) := ⟨_, rfl⟩
  rw [← hg1]
  have k1 : Heap.ExtBut c s.heap g1 := by rw [hg1]; exact (Heap.SameBut.update ..).extBut
  unfold SmallTypes.stopIteration
  refine wpAny_bind ?_
  unfold newExc newTuple
  refine wpAny_bind (wpAny_newObj_type ?_ (by size_fits))
  refine wpAny_bind (m := firstArgMember _ _) (wpAny_of_eq (a := Value.none) (by first | rfl | (simp only [firstArgMember]; rfl)) ?_)
  refine wpAny_newObj_type (wpAny_raiseNew_none hh (h _ _ (fun b o nb q => Heap.get?_push_of_some _ (Heap.get?_push_of_some _ (k1 b o nb q))) ⟨_, Heap.get?_push_size _ rfl, rfl⟩)) (by size_fits)
theorem sb {x : Addr} {h h' : Heap} (m : Heap.SameBut x h h') {b : Addr} {o : Obj} (n : b ≠ x) (e : h.get? b = some o) : h'.get? b = some o := m.extBut b o n e
theorem itAt {h h' : Heap} {c p : Addr} {k : Nat} (i : h.IsTupleIter c p k) (f : ∀ o, h.get? c = some o → h'.get? c = some o) : h'.IsTupleIter c p k := let ⟨o, g, r⟩ := i; ⟨o, f o g, r⟩
theorem tpAt {h h' : Heap} {p : Addr} {xs : Array Value} (i : h.IsTuple p xs) (f : ∀ o, h.get? p = some o → h'.get? p = some o) : h'.IsTuple p xs := let ⟨o, g, r⟩ := i; ⟨o, f o g, r⟩
variable {z a b c d p q : Addr} {u v x y : Value} {k : Nat} {xs ys : Array Value}
end
abbrev ti (p : Addr) : Obj := { cls := .type "tuple_iterator", data := .fields #[.ref p, .int 0 0] }
abbrev w1 (h : Heap) (p : Addr) : Heap := h.push (ti p)
abbrev w2 (h : Heap) (p q : Addr) : Heap := (w1 h p).push (ti q)
abbrev w3 (h : Heap) (p q : Addr) : Heap := (w2 h p q).push { cls := .type "tuple", data := .seq #[.ref h.objs.size, .ref (w1 h p).objs.size] }
abbrev w4 (h : Heap) (p q : Addr) : Heap := (w3 h p q).push { cls := .type "tuple", data := .seq #[.none, .none] }
abbrev w5 (h : Heap) (p q : Addr) : Heap := (w4 h p q).push { cls := .type "zip", data := .fields #[.none, .bool false, .bool false, .ref (w2 h p q).objs.size, .ref (w3 h p q).objs.size] }
section
variable {prog : Program} {w : World} {A : Around} {E : Value → Shared → Prop} {s : Shared} {p q : Addr} {xs ys : Array Value}
end
end HZ
namespace L2
open PySem PySem.Spec PyProof.Rows
section
variable {X : Cx} {pins : List (Addr × Obj)} {σ : St} {H : Hp} {s : Shared} {h' : Heap}
end
end L2
namespace HM
open PySem
section
variable {prog : Program} {w : World} {A : Around} {E : Value → Shared → Prop} {s : Shared}
end
end HM
namespace L2
open PySem PySem.Spec PyProof.Rows
section
variable {X : Cx}
def tFmtR (te : TE) : TE := fun σ H Q => te σ H fun x H1 => ∃ y, x = .str y ∧ (reprText y).length ≤ sizeLine ∧ Q (.str (reprText y)) H1
theorem pe_fmtR {e : Expr} {te : TE} {pos : Pos} (he : PE X e te) : PE X (.FormattedValue e 114 none pos) (tFmtR te) := by
  intro pins s σ H Q I h
  refine wpAny_FormattedValue_repr (thn (he pins s σ H _ I h) fun v s1 ⟨x, H1, I1, r1, q1⟩ => ?_)
  obtain ⟨y, rfl, hy, q⟩ := q1
  obtain ⟨t, rfl⟩ := r1
  refine pyReprObj_str ?_ hy
  exact wpAny_formatField_str ⟨.str _, H1, I1.tok _, ⟨_, rfl⟩, q⟩ ⟨.str _, H1, I1.tok _, ⟨_, rfl⟩, q⟩ hy
end
section
variable {P : Program} {w : World} {K : PySem.W.Frag} {mg : Str → Option Value} {base : Heap}
theorem Fun.okE {x qual : Str} {st : Stmt} {f : Addr} {fd : FuncData} {N ps : List Str} {k : Nat} {sp : Sp} (F : Fun K x qual st f fd) (S : FnScope N ps (defScope st)) (len : ∀ vs H Q E, sp vs H Q E → vs.length = ps.length)
    (hbody : ∀ (cdv : Value) (A : Around) (outer : List Env) (s : Shared) (H : Hp) (vs : List V) (Q : VK) (E : XK), Room k (A.deeper (envOfC qual (defScope st) s.heap.objs.size f cdv)) → sp vs H Q E →
      ∃ t, PSs (cxOf (CXE P w) P w K mg base N qual (defScope st) f cdv A outer s H E) (defBody st) t ∧ t { nx := fun _ H' => Q .non H', rt := Q } (start N vs) H) : FnOk P w K mg base (CXE P w) (k + 1) f fd ps sp := by
  obtain ⟨oc, od, kV, doc, pm, an, cdv, ct, osl, rfl, lk, hcd⟩ := F.ex
  exact fn_of lk hcd S len fun A outer s H vs Q E hr hsp => hbody cdv A outer s H vs Q E hr hsp
theorem own_mk {h : Heap} {x : Str} {C : Addr} {bm : List Value} {newId : String} (X : K.In h) (g : mg x = some (.ref C)) (q : PySem.W.excIn K C bm newId = true) : OwnCls x C bm newId mg h := by
  refine ⟨g, ?_⟩
  unfold PySem.W.excIn at q
  split at q
  · rename_i e0 rec0 sl0 lk0
    split at q
    · rename_i C0 rest0 q0 q1 q2 q3 n0 q5 em es0
      rw [Bool.and_eq_true, Bool.and_eq_true, Bool.and_eq_true, Bool.and_eq_true, Bool.and_eq_true] at q
      obtain ⟨⟨⟨⟨⟨f1, f2⟩, f3⟩, f4⟩, f5⟩, f6⟩ := q
      have g1 : C0 = C := by simpa using f1
      have g2 : n0 = newId := by simpa using f2
      subst g1 g2
      obtain ⟨c1, c2, c3, c4, c5, c6, c7, c8, c9, c10, c11⟩ := rec0
      obtain ⟨l0⟩ := sl0
      have es1 : l0 = _ := es0
      have em1 : c3 = _ := em
      have f31 : c11 = false := by simpa using f3
      subst es1 em1 f31
      exact ⟨rest0, c4, c1, c5, c2, c6, c7, c8, c9, c10, e0, q0, q1, q2, q3, q5, _, X _ _ lk0, .of_isNs (PySem.W.isNs_of_in X f5), PySem.W.nsMap_none_of_in X f5 (by simpa using f6), PySem.W.tail_of_in X f4⟩
    · cases q
  · cases q
end
end L2
namespace L2
open PySem PySem.Spec PyProof.Rows
end L2
namespace HS
open PySem PySem.W PyProof.Rows
def ev (lt : Nat → Nat → Bool) {α : Type} : KasT α → α
  | .ret a => a
  | .ask i j k => ev lt (k (lt i j))
theorem ev_bind (lt : Nat → Nat → Bool) {α β : Type} (f : α → KasT β) : ∀ t : KasT α, ev lt (t.bind f) = ev lt (f (ev lt t))
  | .ret _ => rfl
  | .ask i j k => ev_bind lt f (k (lt i j))
structure Ord (lt : Nat → Nat → Bool) : Prop where
  tot : ∀ a b, lt a b = true → lt b a = false
  tr : ∀ a b c, lt b a = false → lt c b = false → lt c a = false
section
variable {lt : Nat → Nat → Bool} (O : Ord lt)
abbrev P (p : Array Nat) (i : Nat) : Nat := p.getD i 0
theorem P_eq {p p' : Array Nat} {i j : Nat} (h : p[i]? = p'[j]?) : P p i = P p' j := by
  unfold P
  rw [Array.getD_eq_getD_getElem?, Array.getD_eq_getD_getElem?, h]
def S (lt : Nat → Nat → Bool) (p : Array Nat) (k : Nat) : Prop := ∀ i j, i ≤ j → j < k → lt (P p j) (P p i) = false
def D (lt : Nat → Nat → Bool) (p : Array Nat) (k : Nat) : Prop := ∀ i j, i ≤ j → j < k → lt (P p i) (P p j) = false
include O in
theorem rfl_ (a : Nat) : lt a a = false := by
  cases h : lt a a with
  | false => rfl
  | true => rw [O.tot a a h] at h; cases h
include O in
theorem S_step {p : Array Nat} {n : Nat} (h1 : 1 ≤ n) (hs : S lt p n) (h : lt (P p n) (P p (n - 1)) = false) : S lt p (n + 1) := fun i j hij hj => by
  by_cases e : j = n
  · subst e
    by_cases e2 : i = j
    · subst e2; exact rfl_ O _
    · exact O.tr _ _ _ (hs i (j - 1) (by omega) (by omega)) h
  · exact hs i j hij (by omega)
include O in
theorem D_step {p : Array Nat} {n : Nat} (h1 : 1 ≤ n) (hs : D lt p n) (h : lt (P p (n - 1)) (P p n) = false) : D lt p (n + 1) := fun i j hij hj => by
  by_cases e : j = n
  · subst e
    by_cases e2 : i = j
    · subst e2; exact rfl_ O _
    · exact O.tr _ _ _ h (hs i (j - 1) (by omega) (by omega))
  · exact hs i j hij (by omega)
include O in
theorem asc_ok (p : Array Nat) : ∀ (f n : Nat), 1 ≤ n → S lt p n → n ≤ ev lt (kas_asc p f n) ∧ ev lt (kas_asc p f n) ≤ n + f ∧ S lt p (ev lt (kas_asc p f n))
  | 0, n, _, hs => ⟨Nat.le_refl _, Nat.le_refl _, hs⟩
  | f + 1, n, h1, hs => by
    show n ≤ ev lt (if lt (P p n) (P p (n - 1)) = true then .ret n else kas_asc p f (n + 1)) ∧ ev lt (if lt (P p n) (P p (n - 1)) = true then .ret n else kas_asc p f (n + 1)) ≤ n + (f + 1) ∧ S lt p (ev lt (if lt (P p n) (P p (n - 1)) = true then .ret n else kas_asc p f (n + 1)))
    cases h : lt (P p n) (P p (n - 1)) with
    | true => rw [if_pos rfl]; exact ⟨Nat.le_refl _, Nat.le_add_right _ _, hs⟩
    | false =>
      rw [if_neg Bool.false_ne_true]
      have ih := asc_ok p f (n + 1) (by omega) (S_step O h1 hs h)
      exact ⟨by omega, by omega, ih.2.2⟩
theorem rev_size (p : Array Nat) (i j : Nat) : (kas_rev p i j).size = p.size := mirror_size _ _ _ _
theorem rev_perm (p : Array Nat) (i j : Nat) : (kas_rev p i j).Perm p := mirror_perm _ _ _ _
theorem rev_at {p : Array Nat} {i j : Nat} (hj : j ≤ p.size) (k : Nat) : P (kas_rev p i j) k = if i ≤ k ∧ k < j then P p (i + j - 1 - k) else P p k := by
  have := getElem?_mirror_all (xs := p) (i := i) hj k
  split
  · rename_i h
    rw [if_pos h] at this
    exact P_eq this
  · rename_i h
    rw [if_neg h] at this
    exact P_eq this
def Eqv (lt : Nat → Nat → Bool) (a b : Nat) : Prop := lt a b = false ∧ lt b a = false
include O in
theorem rev_eqv {p : Array Nat} {i j : Nat} (hj : j ≤ p.size) (h : ∀ k, i ≤ k → k < j → Eqv lt (P p k) (P p (j - 1))) (k : Nat) : Eqv lt (P (kas_rev p i j) k) (P p k) := by
  rw [rev_at hj]
  split
  · rename_i hk
    have a := h (i + j - 1 - k) (by omega) (by omega)
    have b := h k hk.1 hk.2
    exact ⟨O.tr _ _ _ b.2 a.1, O.tr _ _ _ a.2 b.1⟩
  · exact ⟨rfl_ O _, rfl_ O _⟩
include O in
theorem D_eqv {p p' : Array Nat} {n : Nat} (h : D lt p n) (e : ∀ k, Eqv lt (P p' k) (P p k)) : D lt p' n := fun i j hij hj =>
  O.tr _ _ _ (O.tr _ _ _ (e j).2 (h i j hij hj)) (e i).1
structure Dn (lt : Nat → Nat → Bool) (p0 p : Array Nat) (n q lo hi : Nat) : Prop where
  perm : p.Perm p0
  d : D lt p n
  low : lo ≤ n
  high : n ≤ hi
  qn : q + 1 ≤ n
  eq : ∀ k, n - (q + 1) ≤ k → k < n → Eqv lt (P p k) (P p (n - 1))
include O in
theorem desc_ok : ∀ (f : Nat) (p : Array Nat) (n q : Nat), 1 ≤ n → n + f ≤ p.size → D lt p n → q + 1 ≤ n → (∀ k, n - (q + 1) ≤ k → k < n → Eqv lt (P p k) (P p (n - 1))) →
    Dn lt p (ev lt (kas_desc f p n q)).1 (ev lt (kas_desc f p n q)).2.1 (ev lt (kas_desc f p n q)).2.2 n (n + f)
  | 0, p, n, q, _, _, hd, hq, he => ⟨Array.Perm.refl _, hd, Nat.le_refl _, Nat.le_refl _, hq, he⟩
  | f + 1, p, n, q, h1, hz, hd, hq, he => by
    have one : ∀ (p' : Array Nat) (n' : Nat), ∀ k, n' + 1 - (0 + 1) ≤ k → k < n' + 1 → Eqv lt (P p' k) (P p' (n' + 1 - 1)) := fun p' n' k a b => by
      have : k = n' := by omega
      subst this
      exact ⟨rfl_ O _, rfl_ O _⟩
    have up : ∀ {p0 p' : Array Nat} {m r : Nat}, p0.Perm p → Dn lt p0 p' m r (n + 1) (n + 1 + f) → Dn lt p p' m r n (n + (f + 1)) := fun {p0 p' m r} hp h => ⟨h.perm.trans hp, h.d, by have := h.low; omega, by have := h.high; omega, h.qn, h.eq⟩
    have step : ev lt (kas_desc (f + 1) p n q) = if lt (P p n) (P p (n - 1)) = true then (if q > 0 then ev lt (kas_desc f (kas_rev p (n - (q + 1)) n) (n + 1) 0) else ev lt (kas_desc f p (n + 1) 0))
        else if lt (P p (n - 1)) (P p n) = true then (p, n, q) else ev lt (kas_desc f p (n + 1) (q + 1)) := by
      show ev lt (if lt (P p n) (P p (n - 1)) = true then _ else _) = _
      cases lt (P p n) (P p (n - 1)) with
      | true => rw [if_pos rfl, if_pos rfl]; split <;> rfl
      | false =>
        rw [if_neg Bool.false_ne_true, if_neg Bool.false_ne_true]
        show ev lt (if lt (P p (n - 1)) (P p n) = true then _ else _) = _
        cases lt (P p (n - 1)) (P p n) with
        | true => rw [if_pos rfl, if_pos rfl]; rfl
        | false => rw [if_neg Bool.false_ne_true, if_neg Bool.false_ne_true]
    rw [step]
    cases hc : lt (P p n) (P p (n - 1)) with
    | true =>
      rw [if_pos rfl]
      have hle := O.tot _ _ hc
      split
      · have hev := rev_eqv O (p := p) (i := n - (q + 1)) (j := n) (by omega) he
        have hd' : D lt (kas_rev p (n - (q + 1)) n) (n + 1) := D_step O h1 (D_eqv O hd hev) (O.tr _ _ _ (O.tr _ _ _ (hev n).2 hle) (hev (n - 1)).1)
        exact up (rev_perm _ _ _) (desc_ok f _ (n + 1) 0 (by omega) (by rw [rev_size]; omega) hd' (by omega) (one _ _))
      · exact up (Array.Perm.refl _) (desc_ok f p (n + 1) 0 (by omega) (by omega) (D_step O h1 hd hle) (by omega) (one _ _))
    | false =>
      rw [if_neg Bool.false_ne_true]
      cases hb : lt (P p (n - 1)) (P p n) with
      | true => rw [if_pos rfl]; exact ⟨Array.Perm.refl _, hd, Nat.le_refl _, Nat.le_add_right _ _, hq, he⟩
      | false =>
        rw [if_neg Bool.false_ne_true]
        refine up (Array.Perm.refl _) (desc_ok f p (n + 1) (q + 1) (by omega) (by omega) (D_step O h1 hd hb) (by omega) fun k a b => ?_)
        have e1 : Eqv lt (P p (n - 1)) (P p n) := ⟨hb, hc⟩
        show Eqv lt (P p k) (P p n)
        by_cases e : k = n
        · subst e; exact ⟨rfl_ O _, rfl_ O _⟩
        · have := he k (by omega) (by omega)
          exact ⟨O.tr _ _ _ e1.1 this.1, O.tr _ _ _ this.2 e1.2⟩
structure Up (lt : Nat → Nat → Bool) (p0 : Array Nat) (r : Nat × Array Nat) (hi : Nat) : Prop where
  perm : r.2.Perm p0
  s : S lt r.2 r.1
  lo : 1 ≤ r.1
  hi : r.1 ≤ hi
include O in
theorem tail3_ok (n nrem : Nat) (p : Array Nat) (h1 : 1 ≤ n) (hn : n ≤ nrem) (hz : nrem ≤ p.size) (hd : D lt p n) : Up lt p (ev lt (kas_tail3 n nrem p)) nrem := by
  have e : ev lt (kas_tail3 n nrem p) = (ev lt (kas_asc (kas_rev p 0 n) (nrem - n) n), kas_rev p 0 n) := ev_bind lt _ _
  have hs : S lt (kas_rev p 0 n) n := fun i j hij hj => by
    rw [rev_at (by omega), rev_at (by omega), if_pos ⟨by omega, hj⟩, if_pos ⟨by omega, by omega⟩]
    exact hd _ _ (by omega) (by omega)
  have a := asc_ok O (kas_rev p 0 n) (nrem - n) n h1 hs
  rw [e]
  exact ⟨rev_perm _ _ _, a.2.2, by show 1 ≤ ev lt _; omega, by show ev lt _ ≤ nrem; omega⟩
include O in
theorem descPart_ok (n nrem : Nat) (p : Array Nat) (hn : n + 1 ≤ nrem) (hz : nrem ≤ p.size) (hd : D lt p (n + 1)) : Up lt p (ev lt (kas_descPart n nrem p)) nrem := by
  have h := desc_ok O (nrem - (n + 1)) p (n + 1) 0 (by omega) (by omega) hd (by omega) fun k a b => by
    have : k = n := by omega
    subst this
    exact ⟨rfl_ O _, rfl_ O _⟩
  have e : ev lt (kas_descPart n nrem p) = ev lt (if (ev lt (kas_desc (nrem - (n + 1)) p (n + 1) 0)).2.2 > 0 then kas_tail3 (ev lt (kas_desc (nrem - (n + 1)) p (n + 1) 0)).2.1 nrem (kas_rev (ev lt (kas_desc (nrem - (n + 1)) p (n + 1) 0)).1 ((ev lt (kas_desc (nrem - (n + 1)) p (n + 1) 0)).2.1 - ((ev lt (kas_desc (nrem - (n + 1)) p (n + 1) 0)).2.2 + 1)) (ev lt (kas_desc (nrem - (n + 1)) p (n + 1) 0)).2.1) else kas_tail3 (ev lt (kas_desc (nrem - (n + 1)) p (n + 1) 0)).2.1 nrem (ev lt (kas_desc (nrem - (n + 1)) p (n + 1) 0)).1) := ev_bind lt _ _
  rw [e]
  generalize ev lt (kas_desc (nrem - (n + 1)) p (n + 1) 0) = r at h
  obtain ⟨p', m, q⟩ := r
  have hsz : p'.size = p.size := h.perm.size_eq
  have hlo := h.low
  have hhi := h.high
  dsimp only at *
  split
  · have hev := rev_eqv O (p := p') (i := m - (q + 1)) (j := m) (by omega) h.eq
    have a := tail3_ok O m nrem (kas_rev p' (m - (q + 1)) m) (by omega) (by omega) (by rw [rev_size]; omega) (D_eqv O h.d hev)
    exact ⟨(a.perm.trans (rev_perm _ _ _)).trans h.perm, a.s, a.lo, a.hi⟩
  · have a := tail3_ok O m nrem p' (by omega) (by omega) (by omega) h.d
    exact ⟨a.perm.trans h.perm, a.s, a.lo, a.hi⟩
include O in
theorem count_ok (nrem : Nat) (p : Array Nat) (h1 : 1 ≤ nrem) (hz : nrem ≤ p.size) : Up lt p (ev lt (kas_count nrem p)) nrem := by
  have s1 : S lt p 1 := fun i j hij hj => by
    have : i = j := by omega
    subst this
    exact rfl_ O _
  have a := asc_ok O p (nrem - 1) 1 (Nat.le_refl _) s1
  have e : ev lt (kas_count nrem p) = ev lt (if (ev lt (kas_asc p (nrem - 1) 1) == nrem) = true then .ret (ev lt (kas_asc p (nrem - 1) 1), p) else if ev lt (kas_asc p (nrem - 1) 1) > 1 then .ask (P p 0) (P p (ev lt (kas_asc p (nrem - 1) 1) - 1)) fun c => if c = true then .ret (ev lt (kas_asc p (nrem - 1) 1), p) else kas_descPart (ev lt (kas_asc p (nrem - 1) 1)) nrem (kas_rev p 0 (ev lt (kas_asc p (nrem - 1) 1))) else kas_descPart (ev lt (kas_asc p (nrem - 1) 1)) nrem p) := ev_bind lt _ _
  have stop : ∀ f n, 1 ≤ n → ev lt (kas_asc p f n) < n + f → lt (P p (ev lt (kas_asc p f n))) (P p (ev lt (kas_asc p f n) - 1)) = true := fun f => by
    induction f with
    | zero => intro n _ h; exact absurd h (Nat.lt_irrefl _)
    | succ f ih =>
      intro n hn h
      have st : ev lt (kas_asc p (f + 1) n) = if lt (P p n) (P p (n - 1)) = true then n else ev lt (kas_asc p f (n + 1)) := by
        show ev lt (if lt (P p n) (P p (n - 1)) = true then _ else _) = _
        split <;> rfl
      rw [st] at h ⊢
      cases hc : lt (P p n) (P p (n - 1)) with
      | true => rw [if_pos rfl]; exact hc
      | false =>
        rw [hc, if_neg Bool.false_ne_true] at h
        rw [if_neg Bool.false_ne_true]
        exact ih (n + 1) (by omega) (by omega)
  have hst := stop (nrem - 1) 1 (Nat.le_refl _)
  rw [e]
  generalize ev lt (kas_asc p (nrem - 1) 1) = n at a hst
  obtain ⟨a1, a2, a3⟩ := a
  split
  · exact ⟨Array.Perm.refl _, a3, a1, by show n ≤ nrem; omega⟩
  · rename_i hne
    have hne' : n ≠ nrem := fun z => hne (by simp [z])
    have hlt := hst (by omega)
    split
    · show Up lt p (ev lt (if lt (P p 0) (P p (n - 1)) = true then _ else _)) nrem
      cases hc : lt (P p 0) (P p (n - 1)) with
      | true => rw [if_pos rfl]; exact ⟨Array.Perm.refl _, a3, a1, by show n ≤ nrem; omega⟩
      | false =>
        rw [if_neg Bool.false_ne_true]
        have eq : ∀ k, 0 ≤ k → k < n → Eqv lt (P p k) (P p (n - 1)) := fun k _ hk => ⟨O.tr _ _ _ (O.tr _ _ _ hc (a3 0 k (by omega) hk)) (rfl_ O _) , a3 k (n - 1) (by omega) (by omega)⟩
        have hev := rev_eqv O (p := p) (i := 0) (j := n) (by omega) eq
        have d0 : D lt p n := fun i j hij hj => O.tr _ _ _ (eq j (by omega) hj).2 (eq i (by omega) (by omega)).1
        have d1 : D lt (kas_rev p 0 n) (n + 1) := D_step O a1 (D_eqv O d0 hev) (O.tr _ _ _ (O.tr _ _ _ (hev n).2 (O.tot _ _ hlt)) (hev (n - 1)).1)
        have a := descPart_ok O n nrem (kas_rev p 0 n) (by omega) (by rw [rev_size]; omega) d1
        exact ⟨a.perm.trans (rev_perm _ _ _), a.s, a.lo, a.hi⟩
    · have hn1 : n = 1 := by omega
      subst hn1
      have d0 : D lt p 1 := fun i j hij hj => by
        have : i = j := by omega
        subst this
        exact rfl_ O _
      exact descPart_ok O 1 nrem p (by omega) hz (D_step O (Nat.le_refl _) d0 (O.tot _ _ hlt))
include O in
theorem place_ok (p : Array Nat) (k : Nat) (hS : S lt p k) : ∀ (f l r : Nat), l ≤ r → r ≤ k → r - l ≤ f → (∀ i, i < l → lt (P p k) (P p i) = false) → (∀ i, r ≤ i → i < k → lt (P p i) (P p k) = false) →
    ev lt (kas_place p k f l r) ≤ k ∧ (∀ i, i < ev lt (kas_place p k f l r) → lt (P p k) (P p i) = false) ∧ ∀ i, ev lt (kas_place p k f l r) ≤ i → i < k → lt (P p i) (P p k) = false
  | 0, l, r, h1, h2, h3, hlo, hhi => by
    have : l = r := by omega
    subst this
    exact ⟨h2, hlo, hhi⟩
  | f + 1, l, r, h1, h2, h3, hlo, hhi => by
    have step : ev lt (kas_place p k (f + 1) l r) = if l ≥ r then l else if lt (P p k) (P p ((l + r) / 2)) = true then ev lt (kas_place p k f l ((l + r) / 2)) else ev lt (kas_place p k f ((l + r) / 2 + 1) r) := by
      show ev lt (if l ≥ r then _ else _) = _
      split
      · rfl
      · show ev lt (if lt (P p k) (P p ((l + r) / 2)) = true then _ else _) = _
        split <;> rfl
    rw [step]
    split
    · have : l = r := by omega
      subst this
      exact ⟨h2, hlo, hhi⟩
    · cases hc : lt (P p k) (P p ((l + r) / 2)) with
      | true =>
        rw [if_pos rfl]
        exact place_ok p k hS f l ((l + r) / 2) (by omega) (by omega) (by omega) hlo fun i a b => O.tr _ _ _ (O.tot _ _ hc) (hS _ i a b)
      | false =>
        rw [if_neg Bool.false_ne_true]
        exact place_ok p k hS f ((l + r) / 2 + 1) r (by omega) h2 (by omega) (fun i a => O.tr _ _ _ (hS i ((l + r) / 2) (by omega) (by omega)) hc) hhi
include O in
theorem bin_ok : ∀ (f : Nat) (p : Array Nat) (k : Nat), S lt p k → k + f ≤ p.size → (ev lt (kas_bin f p k)).Perm p ∧ S lt (ev lt (kas_bin f p k)) (k + f)
  | 0, p, k, hs, _ => ⟨Array.Perm.refl _, hs⟩
  | f + 1, p, k, hs, hz => by
    have e : ev lt (kas_bin (f + 1) p k) = ev lt (kas_bin f (bubble p k (k - ev lt (kas_place p k k 0 k))) (k + 1)) := ev_bind lt _ _
    obtain ⟨b1, b2, b3⟩ := place_ok O p k hs k 0 k (Nat.zero_le _) (Nat.le_refl _) (by omega) (fun i h => absurd h (Nat.not_lt_zero _)) (fun i a b => by omega)
    rw [e]
    generalize ev lt (kas_place p k k 0 k) = l at b1 b2 b3
    have at_ : ∀ i, P (bubble p k (k - l)) i = if i = l then P p k else if l < i ∧ i ≤ k then P p (i - 1) else P p i := fun i => by
      have := getElem?_bubble (xs := p) (src := k) (by omega) (k - l) (by omega) i
      have e1 : k - (k - l) = l := by omega
      rw [e1] at this
      repeat' split
      · rename_i h; rw [if_pos h] at this; exact P_eq this
      · rename_i h h2; rw [if_neg h, if_pos h2] at this; exact P_eq this
      · rename_i h h2; rw [if_neg h, if_neg h2] at this; exact P_eq this
    have hs' : S lt (bubble p k (k - l)) (k + 1) := fun i j hij hj => by
      rw [at_, at_]
      by_cases ei : i = l
      · rw [if_pos ei]
        by_cases ej : j = l
        · rw [if_pos ej]; exact rfl_ O _
        · rw [if_neg ej, if_pos ⟨by omega, by omega⟩]; exact b3 (j - 1) (by omega) (by omega)
      · rw [if_neg ei]
        by_cases ej : j = l
        · rw [if_pos ej, if_neg (by omega)]; exact b2 i (by omega)
        · rw [if_neg ej]
          by_cases hi : l < i ∧ i ≤ k
          · rw [if_pos hi, if_pos ⟨by omega, by omega⟩]; exact hs _ _ (by omega) (by omega)
          · rw [if_neg hi]
            by_cases hj' : l < j ∧ j ≤ k
            · rw [if_pos hj']; exact hs _ _ (by omega) (by omega)
            · rw [if_neg hj']; exact hs _ _ hij (by omega)
    have ih := bin_ok f (bubble p k (k - l)) (k + 1) hs' (by rw [bubble_size]; omega)
    refine ⟨ih.1.trans (bubble_perm _ _ _), ?_⟩
    have e2 : k + (f + 1) = k + 1 + f := by omega
    rw [e2]
    exact ih.2
include O in
theorem sort_ok (n : Nat) (h1 : 1 ≤ n) : (ev lt (kas_sort n)).Perm (List.range n).toArray ∧ S lt (ev lt (kas_sort n)) n := by
  have hz : (List.range n).toArray.size = n := by simp
  have c := count_ok O n (List.range n).toArray h1 (by omega)
  have e : ev lt (kas_sort n) = ev lt (if (ev lt (kas_count n (List.range n).toArray)).1 < n then kas_bin (n - max (ev lt (kas_count n (List.range n).toArray)).1 1) (ev lt (kas_count n (List.range n).toArray)).2 (max (ev lt (kas_count n (List.range n).toArray)).1 1) else .ret (ev lt (kas_count n (List.range n).toArray)).2) := ev_bind lt _ _
  rw [e]
  generalize ev lt (kas_count n (List.range n).toArray) = r at c
  obtain ⟨m, p⟩ := r
  have hp : p.size = n := c.perm.size_eq.trans hz
  have hlo := c.lo
  have hhi := c.hi
  dsimp only at *
  have em : max m 1 = m := by omega
  split
  · rw [em]
    have b := bin_ok O (n - m) p m c.s (by omega)
    have e2 : m + (n - m) = n := by omega
    rw [e2] at b
    exact ⟨b.1.trans c.perm, b.2⟩
  · have : m = n := by omega
    subst this
    exact ⟨c.perm, c.s⟩
end
theorem sorted_list {α : Type} (vs : List α) (d : α) (lt : α → α → Bool) (tot : ∀ a b, lt a b = true → lt b a = false) (tr : ∀ a b c, lt b a = false → lt c b = false → lt c a = false) (h1 : 1 ≤ vs.length) :
    ((ev (fun i j => lt (vs.getD i d) (vs.getD j d)) (kas_sort vs.length)).toList.map fun i => vs.getD i d).Perm vs ∧
      ((ev (fun i j => lt (vs.getD i d) (vs.getD j d)) (kas_sort vs.length)).toList.map fun i => vs.getD i d).Pairwise fun a b => lt b a = false := by
  have O : Ord (fun i j => lt (vs.getD i d) (vs.getD j d)) := ⟨fun a b h => tot _ _ h, fun a b c h1 h2 => tr _ _ _ h1 h2⟩
  obtain ⟨hp, hs⟩ := sort_ok O vs.length h1
  generalize ev (fun i j => lt (vs.getD i d) (vs.getD j d)) (kas_sort vs.length) = p at hp hs
  have hpl : p.toList.Perm (List.range vs.length) := by simpa using hp.toList
  have hsz : p.size = vs.length := by simpa using hp.size_eq
  refine ⟨?_, ?_⟩
  · have e : (List.range vs.length).map (fun i => vs.getD i d) = vs := by
      apply List.ext_getElem?
      intro i
      rw [List.getElem?_map]
      by_cases hi : i < vs.length
      · rw [List.getElem?_range hi, List.getElem?_eq_getElem hi]
        simp [List.getD_eq_getElem?_getD, hi]
      · rw [List.getElem?_eq_none (by simpa using hi), List.getElem?_eq_none (by omega)]
        rfl
    have := hpl.map (fun i => vs.getD i d)
    rw [e] at this
    exact this
  · rw [List.pairwise_map, List.pairwise_iff_getElem]
    intro i j hi hj hij
    have a := hs i j (by omega) (by simpa [hsz] using hj)
    have e1 : P p i = p.toList[i] := by
      have hi' : i < p.size := by simpa using hi
      simp [P, Array.getD, hi']
    have e2 : P p j = p.toList[j] := by
      have hj' : j < p.size := by simpa using hj
      simp [P, Array.getD, hj']
    rw [e1, e2] at a
    exact a
end HS
namespace HS
open PySem PySem.W PyProof.Rows
def bel (n : Nat) {α : Type} (R : α → Prop) : KasT α → Prop
  | .ret a => R a
  | .ask i j k => i < n ∧ j < n ∧ ∀ b, bel n R (k b)
theorem bel_bind {n : Nat} {α β : Type} {R : α → Prop} {T : β → Prop} {f : α → KasT β} (hf : ∀ a, R a → bel n T (f a)) : ∀ t : KasT α, bel n R t → bel n T (t.bind f)
  | .ret a, h => hf a h
  | .ask i j k, h => ⟨h.1, h.2.1, fun b => bel_bind hf (k b) (h.2.2 b)⟩
theorem wp_bel {n : Nat} {lt : Nat → Nat → Bool} {α : Type} {R : α → Prop} {cmp : Nat → Nat → (Bool → Shared → Prop) → Shared → Prop} {Q : α → Shared → Prop} {s : Shared} (hc : ∀ i j (C : Bool → Shared → Prop), i < n → j < n → C (lt i j) s → cmp i j C s) : ∀ t : KasT α, bel n R t → Q (ev lt t) s → t.kasWp cmp Q s
  | .ret _, _, h => h
  | .ask i j k, hb, h => hc i j _ hb.1 hb.2.1 (wp_bel hc (k (lt i j)) (hb.2.2 _) h)
structure Ent (n : Nat) (p : Array Nat) : Prop where
  pos : 0 < n
  all : ∀ y ∈ p.toList, y < n
theorem Ent.at {n : Nat} {p : Array Nat} (h : Ent n p) (x : Nat) : P p x < n := by
  by_cases hx : x < p.size
  · have e : P p x = p[x] := by simp [P, Array.getD, hx]
    rw [e]
    exact h.all _ (by simp)
  · have e : P p x = 0 := by simp [P, Array.getD, hx]
    rw [e]
    exact h.pos
theorem Ent.perm {n : Nat} {p q : Array Nat} (h : Ent n p) (hp : q.Perm p) : Ent n q := ⟨h.pos, fun y hy => h.all y ((hp.toList.mem_iff).mp hy)⟩
theorem bel_asc {n : Nat} {p : Array Nat} (h : Ent n p) : ∀ (f m : Nat), bel n (fun _ => True) (kas_asc p f m)
  | 0, _ => trivial
  | f + 1, m => ⟨h.at _, h.at _, fun b => by
    cases b with
    | true => exact trivial
    | false => exact bel_asc h f (m + 1)⟩
theorem bel_desc {n : Nat} : ∀ (f : Nat) (p : Array Nat) (m q : Nat), Ent n p → bel n (fun r : Array Nat × Nat × Nat => Ent n r.1) (kas_desc f p m q)
  | 0, _, _, _, h => h
  | f + 1, p, m, q, h => ⟨h.at _, h.at _, fun b => by
    cases b with
    | true =>
      show bel n _ (if q > 0 then _ else _)
      split
      · exact bel_desc f _ _ _ (h.perm (rev_perm _ _ _))
      · exact bel_desc f _ _ _ h
    | false =>
      refine ⟨h.at _, h.at _, fun c => ?_⟩
      cases c with
      | true => exact h
      | false => exact bel_desc f _ _ _ h⟩
theorem bel_tail3 {n : Nat} {p : Array Nat} (h : Ent n p) (m r : Nat) : bel n (fun r : Nat × Array Nat => Ent n r.2) (kas_tail3 m r p) := by
  refine bel_bind (R := fun _ => True) (fun a _ => ?_) _ (bel_asc (h.perm (rev_perm p 0 m)) _ _)
  exact h.perm (rev_perm p 0 m)
theorem bel_descPart {n : Nat} {p : Array Nat} (h : Ent n p) (m r : Nat) : bel n (fun r : Nat × Array Nat => Ent n r.2) (kas_descPart m r p) := by
  refine bel_bind (fun a ha => ?_) _ (bel_desc _ _ _ _ h)
  split
  · exact bel_tail3 (Ent.perm ha (rev_perm _ _ _)) _ _
  · exact bel_tail3 ha _ _
theorem bel_count {n : Nat} {p : Array Nat} (h : Ent n p) (r : Nat) : bel n (fun r : Nat × Array Nat => Ent n r.2) (kas_count r p) := by
  refine bel_bind (fun a _ => ?_) _ (bel_asc h _ _)
  split
  · exact h
  · split
    · refine ⟨h.at _, h.at _, fun b => ?_⟩
      cases b with
      | true => exact h
      | false => exact bel_descPart (h.perm (rev_perm _ _ _)) _ _
    · exact bel_descPart h _ _
theorem bel_place {n : Nat} {p : Array Nat} (h : Ent n p) (k : Nat) : ∀ f l r : Nat, bel n (fun _ => True) (kas_place p k f l r)
  | 0, _, _ => trivial
  | f + 1, l, r => by
    show bel n _ (if l ≥ r then _ else _)
    split
    · exact trivial
    · refine ⟨h.at _, h.at _, fun b => ?_⟩
      cases b with
      | true => exact bel_place h k f _ _
      | false => exact bel_place h k f _ _
theorem bel_bin {n : Nat} : ∀ (f : Nat) (p : Array Nat) (k : Nat), Ent n p → bel n (fun _ => True) (kas_bin f p k)
  | 0, _, _, _ => trivial
  | f + 1, p, k, h => bel_bind (fun a _ => bel_bin f _ _ (h.perm (bubble_perm _ _ _))) _ (bel_place h _ _ _ _)
theorem bel_sort {n : Nat} (h : 0 < n) : bel n (fun _ => True) (kas_sort n) := by
  refine bel_bind (fun a ha => ?_) _ (bel_count (n := n) ⟨h, fun y hy => by simpa using hy⟩ n)
  split
  · exact bel_bin _ _ _ ha
  · exact trivial
section
variable {prog : Program} {w : World} {A : Around} {E : Value → Shared → Prop} {s : Shared} {κ : Type}
structure Order (lt : κ → κ → Bool) (ks : List κ) (d : κ) (p : List Nat) : Prop where
  perm : p.Perm (List.range ks.length)
  rise : p.Pairwise fun i j => lt (ks.getD j d) (ks.getD i d) = false
theorem order_ok (lt : κ → κ → Bool) (tot : ∀ a b, lt a b = true → lt b a = false) (tr : ∀ a b c, lt b a = false → lt c b = false → lt c a = false) (ks : List κ) (d : κ) (h1 : 1 ≤ ks.length) :
    Order lt ks d (ev (fun i j => lt (ks.getD i d) (ks.getD j d)) (kas_sort ks.length)).toList := by
  have O : Ord (fun i j => lt (ks.getD i d) (ks.getD j d)) := ⟨fun a b h => tot _ _ h, fun a b c h1 h2 => tr _ _ _ h1 h2⟩
  obtain ⟨hp, hs⟩ := sort_ok O ks.length h1
  generalize ev (fun i j => lt (ks.getD i d) (ks.getD j d)) (kas_sort ks.length) = p at hp hs
  have hsz : p.size = ks.length := by simpa using hp.size_eq
  refine ⟨by simpa using hp.toList, ?_⟩
  rw [List.pairwise_iff_getElem]
  intro i j hi hj hij
  have a := hs i j (by omega) (by simpa [hsz] using hj)
  have e1 : P p i = p.toList[i] := by
    have hi' : i < p.size := by simpa using hi
    simp [P, Array.getD, hi']
  have e2 : P p j = p.toList[j] := by
    have hj' : j < p.size := by simpa using hj
    simp [P, Array.getD, hj']
  rw [e1, e2] at a
  exact a
theorem order_small (lt : κ → κ → Bool) (ks : List κ) (d : κ) (h : ks.length < 2) : Order lt ks d (List.range ks.length) := by
  refine ⟨List.Perm.refl _, ?_⟩
  match ks, h with
  | [], _ => exact List.Pairwise.nil
  | [_], _ => exact List.pairwise_singleton ..
  | _ :: _ :: _, h => exact absurd h (by simp only [List.length_cons]; omega)
theorem range_get (vs : List Value) : ((List.range vs.length).map fun i => vs.getD i Value.none) = vs := by
  apply List.ext_getElem?
  intro i
  rw [List.getElem?_map]
  by_cases hi : i < vs.length
  · rw [List.getElem?_range hi, List.getElem?_eq_getElem hi]
    simp [List.getD_eq_getElem?_getD, hi]
  · rw [List.getElem?_eq_none (by simpa using hi), List.getElem?_eq_none (by omega)]
    rfl
def Asks (prog : Program) (w : World) (A : Around) (lt : κ → κ → Bool) (ks : List κ) (d : κ) (vs : List Value) (s : Shared) : Prop :=
  ∃ kd : SortKind, (∀ (Q : SortKind → Shared → Prop) (E : Value → Shared → Prop), Q kd s → wpAny (model prog w) A (keyKind' vs.toArray) Q E s) ∧
    ∀ (i j : Nat) (C : Bool → Shared → Prop), i < vs.length → j < vs.length → C (lt (ks.getD i d) (ks.getD j d)) s → wpAny (model prog w) A (keyLt' kd (vs.getD i Value.none) (vs.getD j Value.none)) C (fun _ _ => False) s
theorem list_sort {lt : κ → κ → Bool} (tot : ∀ a b, lt a b = true → lt b a = false) (tr : ∀ a b c, lt b a = false → lt c b = false → lt c a = false) {ks : List κ} {d : κ} {a : Addr} {vs : List Value} {n : Nat} {R : PySem.Fin → Shared → Prop}
    (hl : ks.length = vs.length) (hob : s.heap.get? a = some (seqObj "list" vs.toArray n)) (h64 : vs.length < 64)
    (hk : 2 ≤ vs.length → ∀ h3, (∀ b o, b ≠ a → s.heap.get? b = some o → h3.get? b = some o) → Asks prog w A lt ks d vs { s with heap := h3 })
    (h : ∀ p e h', Order lt ks d p → (∀ b o, b ≠ a → s.heap.get? b = some o → h'.get? b = some o) → h'.get? a = some (seqObj "list" (p.map fun i => vs.getD i Value.none).toArray e) → R (.done (.ret .none)) { s with heap := h' }) :
    wpAny (model prog w) A (Builtin.«list.sort» ⟨[.ref a], []⟩) R E s := by
  have ha : a < s.heap.objs.size := Heap.lt_size hob
  have sb1 := Heap.SameBut.update s.heap a (Obj.mapSeq fun _ => (#[] : Array Value))
  obtain ⟨ep1, hob1⟩ : ∃ ep1, (s.heap.update a (Obj.mapSeq fun _ => (#[] : Array Value))).get? a = some (seqObj "list" #[] ep1) := ⟨_, get?_update_seq hob fun _ => #[]⟩
  have keep : ∀ b o, b ≠ a → s.heap.get? b = some o → (((s.heap.update a (Obj.mapSeq fun _ => (#[] : Array Value))).push (seqObj "tuple" vs.toArray 0)).push (seqObj "list" #[] 0)).get? b = some o := fun b o hb e =>
    Heap.get?_push_of_some _ (Heap.get?_push_of_some _ ((sb1.2 b hb).trans e))
  have here : (((s.heap.update a (Obj.mapSeq fun _ => (#[] : Array Value))).push (seqObj "tuple" vs.toArray 0)).push (seqObj "list" #[] 0)).get? a = some (seqObj "list" #[] ep1) := Heap.get?_push_of_some _ (Heap.get?_push_of_some _ hob1)
  rw [list_sort_plain]
  refine wpAny_bind (listItems_at hob rfl ?_)
  refine wpAny_bind (listUpdate_at hob rfl ?_ (by rw [List.size_toArray, sizeLine_eq]; omega) (Nat.zero_le _))
  refine wpAny_bind (seqEpoch_at hob1 rfl ?_)
  refine wpAny_bind (wpAny_newTuple ?_ (by show vs.length ≤ _; rw [sizeLine_eq]; omega))
  refine wpAny_bind (wpAny_newList ?_ (Nat.zero_le _))
  refine wpAny_holding ?_
  show wpAny (model prog w) A _ R E { s with heap := ((s.heap.update a (Obj.mapSeq fun _ => (#[] : Array Value))).push (seqObj "tuple" vs.toArray 0)).push (seqObj "list" #[] 0) }
  generalize hh3 : ((s.heap.update a (Obj.mapSeq fun _ => (#[] : Array Value))).push (seqObj "tuple" vs.toArray 0)).push (seqObj "list" #[] 0) = h3 at keep here
  dsimp only
  -- the end, from the places
  have fin : ∀ (p : List Nat) (st' : SortSt), Order lt ks d p → (arrOf st').map (·.2) = (p.map fun i => vs.getD i Value.none).toArray → failedOf st' = none → p.length ≤ 64 →
      wpAny (model prog w) A (do
        let touched := (← seqEpoch a) != ep1
        Builtin.List.listUpdate (.ref a) fun _ => (arrOf st').map (·.2)
        if let some e := failedOf st' then rule "list.sort.comparison-raised"; throw e
        if touched then rule "list.sort.modified"; raiseError "ValueError" "list modified during sort"
        ret .none) R E { s with heap := h3 } := fun p st' hO hout hf hpl => by
    have s2 := Heap.SameBut.update h3 a (Obj.mapSeq fun _ => (arrOf st').map (·.2))
    obtain ⟨c2, hc2⟩ : ∃ c2, (h3.update a (Obj.mapSeq fun _ => (arrOf st').map (·.2))).get? a = some (seqObj "list" ((arrOf st').map (·.2)) c2) := ⟨_, get?_update_seq here fun _ => (arrOf st').map (·.2)⟩
    refine wpAny_bind (seqEpoch_at here rfl ?_)
    refine wpAny_bind (listUpdate_at here rfl ?_ (Nat.zero_le _) (by rw [hout, List.size_toArray, List.length_map, sizeLine_eq]; omega))
    rw [hf]
    simp only [bne_self_eq_false, Bool.false_eq_true, if_false]
    refine wpAny_pure (h p c2 _ hO (fun b o hb e => (s2.2 b hb).trans (keep b o hb e)) ?_)
    rw [hc2, hout]
  by_cases few : vs.toArray.size < 2
  · rw [if_pos few, if_pos few]
    refine wpAny_bind (wpAny_pure ?_)
    rw [StateT.run_pure]
    refine wpAny_bind (wpAny_pure ?_)
    dsimp only
    have hlv : vs.length < 2 := by simpa using few
    refine fin (List.range ks.length) (SortSt.mk' general' (vs.toArray.zip vs.toArray) #[] 7 none) (order_small lt ks d (by omega)) ?_ rfl (by simp; omega)
    show (vs.toArray.zip vs.toArray).map (·.2) = _
    rw [hl, range_get]
    apply Array.toList_inj.mp
    rw [Array.toList_map, Array.toList_zip, List.map_snd_zip (by simp)]
  · have hlv : 2 ≤ vs.length := by
      have : ¬ vs.length < 2 := by simpa using few
      omega
    rw [if_neg few, if_neg few]
    obtain ⟨kd, hkd, hask⟩ := hk hlv h3 keep
    refine wpAny_bind (hkd _ _ ?_)
    have run := kat_run (prog := prog) (w := w) (A := A) (E := E) (s := { s with heap := h3 }) (κ := kd) (ks := vs) (vs := vs)
      (Q := fun st' s' => s' = { s with heap := h3 } ∧ arrOf st' = (ev (fun i j => lt (ks.getD i d) (ks.getD j d)) (kas_sort ks.length)).map (kas_item (vs.toArray.zip vs.toArray)) ∧ failedOf st' = none)
      (G := fun p s' => s' = { s with heap := h3 } ∧ p = ev (fun i j => lt (ks.getD i d) (ks.getD j d)) (kas_sort ks.length)) rfl hlv h64
      (fun p st' s' _ har hf hG => ⟨hG.1, by rw [har, hG.2], hf⟩)
      (wp_bel (n := vs.length) (lt := fun i j => lt (ks.getD i d) (ks.getD j d)) (R := fun _ => True) (fun i j C hi hj hC => hask i j C hi hj hC) _ (bel_sort (by omega)) ⟨rfl, by rw [hl]⟩)
    refine wpAny_bind (wpAny_mono run ?_ fun _ _ e => e)
    rintro ⟨⟨⟩, st'⟩ s' ⟨rfl, har, hf⟩
    dsimp only at har hf ⊢
    have hO := order_ok lt tot tr ks d (by omega)
    refine fin _ st' hO ?_ hf ?_
    · rw [har]
      apply Array.toList_inj.mp
      rw [Array.map_map, Array.toList_map]
      refine List.map_congr_left fun i _ => ?_
      show (kas_item (vs.toArray.zip vs.toArray) i).2 = _
      rw [kat_item rfl]
    · have := hO.perm.length_eq
      rw [List.length_range] at this
      omega
end
end HS
namespace HD
open PySem
theorem entry_loop : entryFor table "dict.update.loop" = some Builtin.«dict.update.loop» := entryFor_of_tree (by kernel_rfl)
theorem plain_loop : plainId "dict.update.loop" = true := by decide +kernel
theorem no_keys : typeLookup (.type "tuple") "keys" = pure none := by rw [typeLookup_type, builtinLookup_eq_fast]; kernel_rfl
theorem no_keysL : typeLookup (.type "list") "keys" = pure none := by rw [typeLookup_type, builtinLookup_eq_fast]; kernel_rfl
section
variable {prog : Program} {w : World} {A : Around} {E : Value → Shared → Prop} {s : Shared}
theorem keys_tuple {a : Addr} {o : Obj} {xs : Array Value} {k : Nat} {Q : Option Value → Shared → Prop} (gx : s.heap.get? a = some o) (hc : o.cls = .type "tuple") (hdat : o.data = .seq xs k) (hd : o.dict = none) (hA : A.handled = none)
    (h : ∀ h' tk, (∀ b o, s.heap.get? b = some o → h'.get? b = some o) → Q none { s with heap := h', toks := tk }) : wpAny (model prog w) A (getAttr? (.ref a) "keys") Q E s := by
  obtain ⟨c, dct, dat, sl⟩ := o
  simp only at hc hdat hd
  subst hc hdat hd
  obtain ⟨hp, gg, dd, tk, oo⟩ := s
  have tyT : ∀ tz, (⟨hp, gg, dd, tz, oo⟩ : Shared).TypeIs (.ref a) "tuple" := fun _ => ⟨_, gx, rfl⟩
  have u1 := sub_AttributeError
  have u3 := F.slot_tuple_getattribute.lookup
  have u4 := F.slot_tuple_getattribute.bind (.ref a)
  have u5 := am_tuple_getattr_none
  unfold getAttr? getAttrBy? getAttrBy
  repeat (any_goals (first | assumption | exact tyT _ | ((with_reducible show wpAny _ _ (call (Value.builtin "tuple.__getattribute__") _ _) _ _ _); refine call_meets F.slot_tuple_getattribute (tyT _) am_entry_tuple_getattribute (F.args_tuple_getattribute_2 _ _) (meets_getattribute_miss_tuple a xs k sl "keys" _ no_keys (by decide) (by size_fits)) ⟨gx, hA, fun h' tz e gx' => ?_⟩) | wp_step))
  obtain ⟨t', u', he⟩ := gx'.there
  show wpAny _ _ (getattributeRaised _ _ _ _ _ _ _) _ _ _
  unfold getattributeRaised
  repeat (any_goals (first | assumption | wp_step))
  exact h h' tz gx'.of.keeps
end
end HD
namespace HD
open PySem
section
variable {prog : Program} {w : World} {A : Around} {E : Value → Shared → Prop} {s : Shared} {K : Type} [DecidableEq K] {knd : KeyKind prog w K}
def PairsAt (knd : KeyKind prog w K) (h : Heap) (its : List Value) (kvs : List (K × Value)) : Prop :=
  its.length = kvs.length ∧ ∀ (j : Nat) (v : Value) (kx : K × Value), its[j]? = some v → kvs[j]? = some kx → ∃ b ob key n, v = Value.ref b ∧ h.get? b = some ob ∧ ob.cls = .type "tuple" ∧ ob.data = .seq #[key, kx.2] n ∧ knd.is kx.1 key = true
structure St (knd : KeyKind prog w K) (h0 : Heap) (its : List Value) (kvs : List (K × Value)) (a d it : Addr) (i : Nat) (h : Heap) : Prop where
  tup : h.IsTuple a its.toArray
  iter : h.IsTupleIter it a i
  dict : h.DictOf knd d (merged [] (kvs.take i))
  keep : ∀ b o, b ≠ d → b ≠ it → h0.get? b = some o → h.get? b = some o
theorem tuple_same {h h' : Heap} {a d : Addr} {xs : Array Value} (ht : h.IsTuple a xs) (hs : Heap.SameBut d h h') (hne : a ≠ d) : h'.IsTuple a xs := by
  obtain ⟨o, ho, r⟩ := ht
  exact ⟨o, (hs.2 a hne).trans ho, r⟩
theorem iter_same {h h' : Heap} {a d it : Addr} {i : Nat} (ht : h.IsTupleIter it a i) (hs : Heap.SameBut d h h') (hne : it ≠ d) : h'.IsTupleIter it a i := by
  obtain ⟨o, ho, r⟩ := ht
  exact ⟨o, (hs.2 it hne).trans ho, r⟩
theorem upd_loop {its : List Value} {kvs : List (K × Value)} {a d it : Addr} {h0 : Heap} {R : Result → Shared → Prop} (hh : A.handled = none) (hP : PairsAt knd h0 its kvs) (hd : a ≠ d) (hit : a ≠ it) (hdi : d ≠ it) (hz : its.length ≤ 1000)
    (hd0 : h0.get? d = none) (hi0 : h0.get? it = none) (hml : ∀ i, (merged [] (kvs.take i)).length ≤ 1000)
    (hR : ∀ h tk, h.DictOf knd d (merged [] kvs) → (∀ b o, b ≠ d → b ≠ it → h0.get? b = some o → h.get? b = some o) → R (.ok (.ret .none)) { s with heap := h, toks := tk }) :
    ∀ (m i : Nat) (h : Heap) (tk : Nat), its.length - i = m → i ≤ its.length → St knd h0 its kvs a d it i h → codeAny (model prog w) A (.builtin "dict.update.loop" ⟨[.ref d, .ref it, rawInt (i : Int), .none], []⟩) R { s with heap := h, toks := tk } := by
  intro m
  induction m with
  | zero =>
    intro i h tk hm hi st
    refine codeAny_builtin entry_loop ?_
    rw [Around.under_plainId plain_loop _]
    show wpAny _ A.in1 (pyNext (.ref it) >>= _) _ _ _
    refine wpAny_bind (wpAny_pyNext_tuple_end hh st.iter st.tup (by simp; omega) fun h' hk' => ?_)
    dsimp only
    refine wpAny_bind (m := Builtin.Dict.addKeywords d []) (wpAny_pure (wpAny_pure (hR h' _ ?_ ?_)))
    · have e : kvs.take i = kvs := List.take_of_length_le (by have := hP.1; omega)
      have := st.dict
      rw [e] at this
      exact this.extBut hk' hdi
    · intro b o n1 n2 e
      exact hk' b o n2 (st.keep b o n1 n2 e)
  | succ m ih =>
    intro i h tk hm hi st
    refine codeAny_builtin entry_loop ?_
    rw [Around.under_plainId plain_loop _]
    have hlt : i < its.length := by omega
    have hlk : i < kvs.length := by have := hP.1; omega
    have hgi : its[i]? = some its[i] := List.getElem?_eq_getElem hlt
    have hgk : kvs[i]? = some kvs[i] := List.getElem?_eq_getElem hlk
    obtain ⟨b, ob, key, n, ev, hb, hbc, hbd, hkey⟩ := hP.2 i _ _ hgi hgk
    have nb1 : b ≠ d := fun z => by rw [z, hd0] at hb; cases hb
    have nb2 : b ≠ it := fun z => by rw [z, hi0] at hb; cases hb
    show wpAny _ A.in1 (pyNext (.ref it) >>= _) _ _ _
    refine wpAny_bind (wpAny_pyNext_tuple_item (x := its[i]) st.iter st.tup (by simp [hlt]) fun h1 hI1 hs1 => ?_)
    rw [ev]
    dsimp only
    have hb1 : h1.get? b = some ob := (hs1.2 b nb2).trans (st.keep b ob nb1 nb2 hb)
    have ty : ∀ tk', Shared.TypeIs ⟨h1, s.gens, s.drawn, tk', s.os⟩ (.ref b) "tuple" := fun _ => ⟨ob, hb1, hbc⟩
    have hD1 : h1.DictOf knd d (merged [] (kvs.take i)) := by
      have := st.dict
      obtain ⟨o, es, ep, ho, r⟩ := this
      exact ⟨o, es, ep, (hs1.2 d hdi).trans ho, r⟩
    refine wpAny_bind (wpAny_holding (wpAny_bind (wpAny_tryCatch ?_)))
    unfold Builtin.Dict.pairItems
    refine wpAny_bind (wpAny_typeOf (ty _) ?_)
    rw [if_pos (by decide)]
    refine wpAny_bind (wpAny_seqItems hb1 hbd (wpAny_pure ?_))
    show wpAny _ _ (holding [key, kvs[i].2] (dictSet d key kvs[i].2)) _ _ _
    refine wpAny_holding (wpAny_dictSet_pairs hkey hD1 (fun h2 hd2 hs2 => ?_) (by have := hml i; rw [sizeLine_eq]; omega))
    refine wpAny_pure ⟨plainId_quiet plain_loop _, ih (i + 1) h2 _ (by omega) (by omega) ⟨?_, ?_, ?_, ?_⟩⟩
    · obtain ⟨o, ho, r⟩ := st.tup
      exact tuple_same ⟨o, (hs1.2 a hit).trans ho, r⟩ hs2 hd
    · exact iter_same hI1 hs2 hdi.symm
    · rw [merged_take_succ [] kvs i kvs[i] hgk]
      exact hd2
    · intro b' o' n1 n2 e
      exact (hs2.2 b' n1).trans ((hs1.2 b' n2).trans (st.keep b' o' n1 n2 e))
theorem call_dict {a : Addr} {o : Obj} {its : List Value} {n : Nat} {kvs : List (K × Value)} {Q : Value → Shared → Prop} (hh : A.handled = none) (ho : s.heap.get? a = some o) (hc : o.cls = .type "tuple") (hdat : o.data = .seq its.toArray n) (hdn : o.dict = none)
    (hP : PairsAt knd s.heap its kvs) (hz : its.length ≤ 1000)
    (h : ∀ h' tk, h'.DictOf knd s.heap.objs.size (merged [] kvs) → (∀ b o, s.heap.get? b = some o → h'.get? b = some o) → Q (.ref s.heap.objs.size) { s with heap := h', toks := tk }) :
    wpAny (model prog w) A (call (.type "dict") [.ref a]) Q E s := by
  refine callType_codes (Q₁ := fun ob1 s₁ => ob1 = .ref s.heap.objs.size ∧ s₁ = { s with heap := s.heap.push { cls := .type "dict", data := .dict #[] } }) F.kt_called_dict (F.kt_typeCall_dict_1 _) F.entry_dict_init (kt_code_dict_new _ ⟨rfl, rfl⟩) ?_
  rintro ob1 s₁ ⟨rfl, rfl⟩
  have fresh0 : (s.heap.push { cls := .type "dict", data := .dict #[] }).DictOf knd s.heap.objs.size [] := Heap.DictOf.new s.heap
  have hsz1 : (s.heap.push { cls := .type "dict", data := .dict #[] }).objs.size = s.heap.objs.size + 1 := Heap.size_push ..
  have al : a < s.heap.objs.size := Heap.lt_size ho
  have hoa : (s.heap.push { cls := .type "dict", data := .dict #[] }).get? a = some o := Heap.get?_push_of_some _ ho
  refine ⟨fresh0.typeIs, F.args_dict_init_2 _ _, ?_⟩
  unfold Builtin.«dict.__init__»
  refine wpAny_bind ?_
  unfold Builtin.Dict.selfAndRest
  refine wpAny_bind (wpAny_notOrdered_dict fresh0.typeIs ?_)
  show wpAny _ _ (pure (s.heap.objs.size, [Value.ref a])) _ _ _
  refine wpAny_pure ?_
  show wpAny _ _ (Builtin.Dict.updateFrom "dict.__init__" s.heap.objs.size (.ref a) [] .none) _ _ _
  unfold Builtin.Dict.updateFrom
  refine wpAny_bind (wpAny_typeOf (T := "tuple") ⟨o, hoa, hc⟩ ?_)
  rw [if_pos (by decide)]
  refine wpAny_bind (keys_tuple hoa hc hdat hdn hh fun h2 tk2 k2 => ?_)
  rw [if_pos (show (none : Option Value).isNone = true from rfl)]
  refine wpAny_bind (wpAny_rule ?_)
  have ht2 : h2.IsTuple a its.toArray := ⟨o, k2 a o hoa, hc, n, hdat⟩
  refine wpAny_bind (wpAny_pyIter_tuple ht2 ?_)
  obtain ⟨od, _, _, hod, _⟩ := id fresh0
  have dl : s.heap.objs.size < h2.objs.size := Heap.lt_size (k2 _ _ hod)
  have e0 : rawInt 0 = rawInt ((0 : Nat) : Int) := rfl
  rw [e0]
  refine wpAny_pure ⟨plainId_quiet plain_loop _, upd_loop (A := A.in1) (s := s) (knd := knd) (h0 := s.heap) (kvs := kvs) (its := its) (a := a) hh hP (Nat.ne_of_lt al) (Nat.ne_of_lt (Nat.lt_trans al dl)) (Nat.ne_of_lt dl) hz (Heap.get?_none_of_le (Nat.le_refl _)) (Heap.get?_none_of_le (Nat.le_of_lt dl))
    (fun i => ?_) (fun h' tk hD hk => ⟨rfl, h h' tk hD fun b ob e => hk b ob (Nat.ne_of_lt (Heap.lt_size e)) (Nat.ne_of_lt (Nat.lt_trans (Heap.lt_size e) dl)) e⟩) its.length 0 _ _ (by simp) (Nat.zero_le _) ⟨?_, ?_, ?_, ?_⟩⟩
  · have e1 := merged_length_le ([] : List (K × Value)) (kvs.take i)
    have e2 : (kvs.take i).length ≤ kvs.length := by rw [List.length_take]; omega
    have e3 := hP.1
    simp only [List.length_nil] at e1
    omega
  · exact Heap.IsTuple.push ht2 _
  · exact ⟨_, Heap.get?_push_size _ rfl, rfl, rfl⟩
  · rw [List.take_zero]
    have hd2 : h2.DictOf knd s.heap.objs.size [] := by
      obtain ⟨o', es, ep, ho', r⟩ := id fresh0
      exact ⟨o', es, ep, k2 _ _ ho', r⟩
    exact hd2.push _
  · intro b ob _ _ e
    exact Heap.get?_push_of_some _ (k2 b ob (Heap.get?_push_of_some _ e))
end
end HD
namespace HS
open PySem PySem.W PyProof.Rows
def ltS (a b : Str) : Bool := decide (a.cps.toList < b.cps.toList)
theorem ltS_irr (a : Str) : ltS a a = false := by unfold ltS; exact decide_eq_false (List.lt_irrefl _)
theorem ltS_tot (a b : Str) (h : ltS a b = true) : ltS b a = false := by
  unfold ltS at *
  exact decide_eq_false (List.lt_asymm (of_decide_eq_true h))
theorem ltS_tri {a b : Str} (h1 : ltS a b = false) (h2 : ltS b a = false) : a = b := by
  unfold ltS at *
  have e := List.le_antisymm (List.not_lt.mp (of_decide_eq_false h2)) (List.not_lt.mp (of_decide_eq_false h1))
  exact Str.ext' (Array.toList_inj.mp e)
theorem ltS_tr (a b c : Str) (h1 : ltS b a = false) (h2 : ltS c b = false) : ltS c a = false := by
  unfold ltS at *
  exact decide_eq_false (List.not_lt.mpr (List.le_trans (List.not_lt.mp (of_decide_eq_false h1)) (List.not_lt.mp (of_decide_eq_false h2))))
def ltT : List Str → List Str → Bool
  | _, [] => false
  | [], _ :: _ => true
  | a :: as, b :: bs => if a = b then ltT as bs else ltS a b
theorem ltT_tot : ∀ a b : List Str, ltT a b = true → ltT b a = false
  | _, [], h => by simp [ltT] at h
  | [], _ :: _, _ => rfl
  | a :: as, b :: bs, h => by
    unfold ltT at h ⊢
    by_cases e : a = b
    · subst e; rw [if_pos rfl] at h ⊢; exact ltT_tot as bs h
    · rw [if_neg e] at h; rw [if_neg (Ne.symm e)]; exact ltS_tot _ _ h
theorem ltT_tr : ∀ a b c : List Str, ltT b a = false → ltT c b = false → ltT c a = false
  | [], _, _, _, _ => by cases ‹List Str› <;> simp [ltT]
  | a :: as, [], c, h, _ => by simp [ltT] at h
  | a :: as, b :: bs, [], _, h => by simp [ltT] at h
  | a :: as, b :: bs, c :: cs, h1, h2 => by
    unfold ltT at h1 h2 ⊢
    by_cases e1 : b = a
    · subst e1
      rw [if_pos rfl] at h1
      by_cases e2 : c = b
      · subst e2; rw [if_pos rfl] at h2 ⊢; exact ltT_tr as bs cs h1 h2
      · rw [if_neg e2] at h2 ⊢; exact h2
    · rw [if_neg e1] at h1
      by_cases e2 : c = b
      · subst e2; rw [if_neg e1]; exact h1
      · rw [if_neg e2] at h2
        by_cases e3 : c = a
        · subst e3
          exact absurd (ltS_tri h1 h2).symm e2
        · rw [if_neg e3]; exact ltS_tr _ _ _ h1 h2
theorem ltT_tri : ∀ a b : List Str, ltT a b = false → ltT b a = false → a = b
  | [], [], _, _ => rfl
  | [], _ :: _, h, _ => by simp [ltT] at h
  | _ :: _, [], _, h => by simp [ltT] at h
  | a :: as, b :: bs, h1, h2 => by
    unfold ltT at h1 h2
    by_cases e : a = b
    · subst e; rw [if_pos rfl] at h1 h2; rw [ltT_tri as bs h1 h2]
    · rw [if_neg e] at h1; rw [if_neg (Ne.symm e)] at h2; exact absurd (ltS_tri h1 h2) e
section
variable {prog : Program} {w : World} {A : Around} {E : Value → Shared → Prop} {s : Shared} {κ : Type}
theorem sorted_call {lt : κ → κ → Bool} (tot : ∀ a b, lt a b = true → lt b a = false) (tr : ∀ a b c, lt b a = false → lt c b = false → lt c a = false) {ks : List κ} {d : κ} {v : Value} {Q : Value → Shared → Prop} (T : List Value → Prop) (hl : ∀ vs, T vs → ks.length = vs.length) (h64 : ks.length < 64)
    (hcol : ∀ Q' : List Value → Shared → Prop, (∀ vs h1 tk, T vs → (∀ b o, s.heap.get? b = some o → h1.get? b = some o) → Q' vs { s with heap := h1, toks := tk }) → wpAny (model prog w) A.in1 (collect v) Q' E s)
    (hk : ∀ vs, T vs → 2 ≤ vs.length → ∀ h3 tk, (∀ b o, s.heap.get? b = some o → h3.get? b = some o) → Asks prog w A.in1.in1 lt ks d vs { s with heap := h3, toks := tk })
    (h : ∀ (vs : List Value) (p : List Nat) (e : Nat) (h1 h' : Heap) (tk : Nat), T vs → Order lt ks d p → (∀ b o, s.heap.get? b = some o → h1.get? b = some o) → (∀ b o, h1.get? b = some o → h'.get? b = some o) → h'.get? h1.objs.size = some (seqObj "list" (p.map fun i => vs.getD i Value.none).toArray e) → Q (.ref h1.objs.size) { s with heap := h', toks := tk }) :
    wpAny (model prog w) A (call (.builtin "sorted") [v]) Q E s := by
  refine Calls.call_function_entry kind_sorted plain_sorted entry_sorted (args_sorted1 _) ?_
  unfold Builtin.«sorted»
  refine wpAny_bind (m := checkCount "sorted" 1 1 _) (wpAny_pure ?_)
  refine wpAny_bind (hcol _ fun vs h1 tk hT k1 => ?_)
  have hlv := hl vs hT
  refine wpAny_bind (wpAny_newList ?_ (by rw [sizeLine_eq]; omega))
  have hoL : (h1.push (seqObj "list" vs.toArray 0)).get? h1.objs.size = some (seqObj "list" vs.toArray 0) := Heap.get?_push_size _ rfl
  have keep : ∀ b o, h1.get? b = some o → b ≠ h1.objs.size := fun b o e => Nat.ne_of_lt (Heap.lt_size e)
  show wpAny _ _ _ _ _ { s with heap := h1.push (seqObj "list" vs.toArray 0), toks := tk }
  refine wpAny_bind (wpAny_holding (wpAny_call_entry slot_list_sort ⟨_, hoL, rfl⟩ entry_list_sort (list_sort (s := { s with heap := h1.push (seqObj "list" vs.toArray 0), toks := tk }) tot tr hlv hoL (by omega) (fun h2 h3 k3 => hk vs hT h2 h3 tk fun b o e => k3 b o (keep b o (k1 b o e)) (Heap.get?_push_of_some _ (k1 b o e)))
    fun p e h' hO k3 hD => ⟨_, rfl, ?_⟩) (args_list_sort _)))
  exact wpAny_pure ⟨_, rfl, h vs p e h1 h' tk hT hO k1 (fun b o e' => k3 b o (keep b o e') (Heap.get?_push_of_some _ e')) hD⟩
theorem asks_strs {ts : List Str} {vs : List Value} (hS : StrsAre vs ts) (h2 : 2 ≤ vs.length) : Asks prog w A ltS ts "" vs s := by
  refine ⟨oneType', fun Q E hq => ?_, fun i j C hi hj hC => ?_⟩
  · match vs, hS, h2 with
    | v₁ :: v₂ :: rest, hS, _ =>
      rw [keyKind_strs hS]
      exact wpAny_pure hq
  · have at_ : ∀ {vs : List Value} {ts : List Str}, StrsAre vs ts → ∀ i, i < vs.length → ∃ t, vs.getD i Value.none = Value.str (ts.getD i "") t := fun {vs ts} h => by
      induction h with
      | nil => intro i hi; simp at hi
      | cons x t _ ih =>
        intro i hi
        cases i with
        | zero => exact ⟨t, rfl⟩
        | succ i => exact ih i (by simpa using hi)
    obtain ⟨t1, e1⟩ := at_ hS i hi
    obtain ⟨t2, e2⟩ := at_ hS j hj
    rw [e1, e2]
    exact kas_lt_str hC
def TupStr (h : Heap) (v : Value) (ts : List Str) : Prop := ∃ a o vs n, v = Value.ref a ∧ h.get? a = some o ∧ o.cls = .type "tuple" ∧ o.data = .seq vs n ∧ StrsAre vs.toList ts
theorem lex_strs {fin : Bool} {C : Bool → Shared → Prop} : ∀ {vs ws : List Value} {ts us : List Str}, StrsAre vs ts → StrsAre ws us → ∀ (i : Nat), (fin = decide (ts.length < us.length)) → C (ltT ts us) s → KatLex prog w A true fin C (vs.zip ws) i s := by
  intro vs ws ts us h1
  induction h1 generalizing ws us with
  | nil =>
    intro h2 i hf hC
    cases h2 with
    | nil => rw [List.zip_nil_left]; refine kat_nil ?_; rw [hf]; exact hC
    | cons y t h2 => rw [List.zip_nil_left]; refine kat_nil ?_; rw [hf]; simpa [ltT] using hC
  | cons x t h1 ih =>
    intro h2 i hf hC
    cases h2 with
    | nil => rw [List.zip_nil_right]; refine kat_nil ?_; rw [hf]; simpa [ltT] using hC
    | cons y u h2 =>
      rw [List.zip_cons_cons]
      refine kat_cons (wpAny_eqBool_str ?_)
      by_cases e : x = y
      · subst e
        rw [decide_eq_true rfl]
        refine kat_yes (ih h2 (i + 1) (by rw [hf]; simp) ?_)
        unfold ltT at hC
        rw [if_pos rfl] at hC
        exact hC
      · rw [decide_eq_false e]
        have hC' : C (ltS x y) s := by
          unfold ltT at hC
          rw [if_neg e] at hC
          exact hC
        refine kat_no ?_
        cases i with
        | zero => exact oneLt_str hC'
        | succ i => exact kat_one _ _ (lt_str hC')
theorem strs_len {vs : List Value} {ts : List Str} (h : StrsAre vs ts) : vs.length = ts.length := by
  induction h with
  | nil => rfl
  | cons _ _ _ ih => rw [List.length_cons, List.length_cons, ih]
inductive TupsAre (h : Heap) : List Value → List (List Str) → Prop where
  | nil : TupsAre h [] []
  | cons {v : Value} {ts : List Str} {vs : List Value} {tss : List (List Str)} : TupStr h v ts → ts ≠ [] → TupsAre h vs tss → TupsAre h (v :: vs) (ts :: tss)
theorem TupsAre.keep {h h' : Heap} (k : ∀ b o, h.get? b = some o → h'.get? b = some o) {vs : List Value} {tss : List (List Str)} (x : TupsAre h vs tss) : TupsAre h' vs tss := by
  induction x with
  | nil => exact .nil
  | cons t ne _ ih =>
    obtain ⟨a, o, xs, n, e, ho, r⟩ := t
    exact .cons ⟨a, o, xs, n, e, k a o ho, r⟩ ne ih
theorem TupsAre.len {h : Heap} {vs : List Value} {tss : List (List Str)} (x : TupsAre h vs tss) : vs.length = tss.length := by
  induction x with
  | nil => rfl
  | cons _ _ _ ih => rw [List.length_cons, List.length_cons, ih]
theorem TupsAre.at {h : Heap} {vs : List Value} {tss : List (List Str)} (x : TupsAre h vs tss) : ∀ i, i < vs.length → TupStr h (vs.getD i Value.none) (tss.getD i []) := by
  induction x with
  | nil => intro i hi; simp at hi
  | cons t _ _ ih =>
    intro i hi
    cases i with
    | zero => exact t
    | succ i => exact ih i (by simpa using hi)
theorem TupsAre.kat {h : Heap} {vs : List Value} {tss : List (List Str)} (x : TupsAre h vs tss) : ∃ fs : List Value, KatTups h vs fs ∧ fs.length = vs.length ∧ ∀ f ∈ fs, ∃ y t, f = Value.str y t := by
  induction x with
  | nil => exact ⟨[], KatTups.nil, rfl, by simp⟩
  | cons t ne _ ih =>
    obtain ⟨fs, k, hl, hf⟩ := ih
    obtain ⟨a, o, xs, n, rfl, ho, hc, hd, hs⟩ := t
    obtain ⟨xl⟩ := xs
    cases hs with
    | nil => exact absurd rfl ne
    | cons y tk _ =>
      refine ⟨_ :: fs, KatTups.cons ho hc hd rfl k, by rw [List.length_cons, List.length_cons, hl], fun f hf' => ?_⟩
      rcases List.mem_cons.mp hf' with rfl | hf'
      · exact ⟨y, tk, rfl⟩
      · exact hf f hf'
theorem asks_tups {tss : List (List Str)} {vs : List Value} (hT : TupsAre s.heap vs tss) (h2 : 2 ≤ vs.length) : Asks prog w A ltT tss [] vs s := by
  refine ⟨tuples' true, fun Q E hq => ?_, fun i j C hi hj hC => ?_⟩
  · obtain ⟨fs, k, hl, hf⟩ := hT.kat
    refine kat_kind (T := Value.type "str") k (by omega) (fun f hm => ?_) rfl ?_
    · obtain ⟨y, t, rfl⟩ := hf f hm
      exact Looks.now
    · have e : (Value.type "str" != Value.type "tuple") = true := by decide
      rw [e]
      exact hq
  · obtain ⟨a, o, xs, n, e1, ho, hc, hd, hs⟩ := hT.at i hi
    obtain ⟨b, o', ys, n', e2, ho', hc', hd', hs'⟩ := hT.at j hj
    rw [e1, e2]
    refine kat_lt ho hd ho' hd' (lex_strs hs hs' 0 ?_ hC)
    have l1 := strs_len hs
    have l2 := strs_len hs'
    rw [Array.length_toList] at l1 l2
    rw [l1, l2]
end
end HS
namespace L2
open PySem PySem.Spec PyProof.Rows
theorem perm_get {α : Type} (l : List α) (d : α) {p : List Nat} (hp : p.Perm (List.range l.length)) : (p.map fun i => l.getD i d).Perm l := by
  have e : (List.range l.length).map (fun i => l.getD i d) = l := by
    apply List.ext_getElem?
    intro i
    rw [List.getElem?_map]
    by_cases hi : i < l.length
    · rw [List.getElem?_range hi, List.getElem?_eq_getElem hi]
      simp [hi]
    · rw [List.getElem?_eq_none (by simpa using hi), List.getElem?_eq_none (by omega)]
      rfl
  have := hp.map (fun i => l.getD i d)
  rw [e] at this
  exact this
theorem Vals.pick {xs : List V} {us : List Value} (r : Vals xs us) : ∀ {p : List Nat}, (∀ i ∈ p, i < xs.length) → Vals (p.map fun i => xs.getD i .non) (p.map fun i => us.getD i Value.none)
  | [], _ => .nil
  | i :: p, h => by
    refine .cons ?_ (r.pick fun j hj => h j (List.mem_cons_of_mem _ hj))
    have hi := h i (List.mem_cons_self ..)
    obtain ⟨u, e, ru⟩ := r.get (List.getElem?_eq_getElem hi)
    have e1 : xs.getD i .non = xs[i] := by simp [hi]
    have e2 : us.getD i Value.none = u := by rw [List.getD_eq_getElem?_getD, e]; rfl
    show RelV (xs.getD i .non) (us.getD i Value.none)
    rw [e1, e2]
    exact ru
section
variable {X : Cx}
theorem collect_seq {pins : List (Addr × Obj)} {σ : St} {H : Hp} {s : Shared} {a : Addr} {xs : List V} {A : Around} {E : Value → Shared → Prop} (I : Inv X pins σ H s) (hq : SqL X.K H a xs ∨ SqT X.K H a xs) :
    ∃ its : List Value, Vals xs its ∧ ∀ Q' : List Value → Shared → Prop, (∀ h1 tk, (∀ b o, s.heap.get? b = some o → h1.get? b = some o) → Q' its { s with heap := h1, toks := tk }) → wpAny (model X.prog X.w) A (collect (.ref a)) Q' E s := by
  rcases hq with hq | hq
  · obtain ⟨its, r, pl, hz⟩ := I.list hq
    have hlen := r.length
    obtain ⟨o, ho, hc, n, hd⟩ := pl.isList
    exact ⟨its, r, fun Q' h => wpAny_collect_seq a (.inl rfl) ho hc hd (fun h' k => by simpa using h h' s.toks k) (by rw [List.size_toArray]; omega)⟩
  · obtain ⟨its, r, pl, hz⟩ := I.tuple hq
    have hlen := r.length
    obtain ⟨o, ho, hc, n, hd⟩ := pl
    exact ⟨its, r, fun Q' h => wpAny_collect_seq a (.inr rfl) ho hc hd (fun h' k => by simpa using h h' s.toks k) (by rw [List.size_toArray]; omega)⟩
theorem sorted_end {pins : List (Addr × Obj)} {σ : St} {H : Hp} {s : Shared} {xs : List V} {its : List Value} {p : List Nat} {e : Nat} {h1 h' : Heap} {tk : Nat} {Q : VK} (I : Inv X pins σ H s) (r : Vals xs its) (hz : xs.length < 64) (hp : p.Perm (List.range xs.length))
    (k1 : ∀ b o, s.heap.get? b = some o → h1.get? b = some o) (k2 : ∀ b o, h1.get? b = some o → h'.get? b = some o) (hD : h'.get? h1.objs.size = some (seqObj "list" (p.map fun i => its.getD i Value.none).toArray e))
    (q : ∀ l, H l = none → Q (.ref l) (upd H l (.lst (p.map fun i => xs.getD i .non)))) : EP X pins σ Q (.ref h1.objs.size) { s with heap := h', toks := tk } := by
  have I1 : Inv X pins σ H { s with heap := h1, toks := tk } := I.kept (h' := h1) (t' := tk) k1
  have hpl : ∀ i ∈ p, i < xs.length := fun i hi => List.mem_range.mp (hp.mem_iff.mp hi)
  have hlen : p.length = xs.length := by rw [hp.length_eq, List.length_range]
  have I2 : Inv X pins σ (upd H h1.objs.size (.lst (p.map fun i => xs.getD i .non))) { s with heap := h', toks := tk } :=
    I1.laid (h' := h') (t' := tk) (o := .lst (p.map fun i => xs.getD i .non)) k2 (Nat.le_refl _) ⟨by rw [List.length_map, hlen, sizeLine_eq]; omega, _, e, r.pick hpl, hD⟩
  exact ⟨.ref h1.objs.size, _, I2, rfl, q _ I1.fresh⟩
theorem call_sortS : CallR X (.builtin "sorted") (fun xs H Q => ∃ a, ∃ ts : List Str, xs = [.ref a] ∧ (SqL X.K H a (ts.map V.str) ∨ SqT X.K H a (ts.map V.str)) ∧ ts.length < 64 ∧
    ∀ l (ts' : List Str), H l = none → ts'.Perm ts → ts'.Pairwise (fun a b => HS.ltS b a = false) → Q (.ref l) (upd H l (.lst (ts'.map V.str)))) := by
  intro pins s σ H xs us Q I r h
  obtain ⟨a, ts, rfl, hq, hz, q⟩ := h
  obtain ⟨u, rfl, ru⟩ := vals1 r
  cases ru
  obtain ⟨its, ri, hcol⟩ := collect_seq (A := X.A.in1) (E := X.xe) I hq
  have hl := ri.length
  rw [List.length_map] at hl
  have hS : StrsAre its ts := strsAre_vals ri
  refine HS.sorted_call (lt := HS.ltS) HS.ltS_tot HS.ltS_tr (ks := ts) (d := "") (fun v => v = its) (fun v e => by rw [e]; exact hl) hz (fun Q' h => hcol Q' fun h1 tk k => h its h1 tk rfl k) (fun v e h2 h3 tk _ => by subst e; exact HS.asks_strs hS h2) fun v p e h1 h' tk ev hO k1 k2 hD => ?_
  subst ev
  refine sorted_end I ri (by rw [List.length_map]; exact hz) (by rw [List.length_map]; exact hO.perm) k1 k2 hD fun l nl => ?_
  have ep : (p.map fun i => (ts.map V.str).getD i .non) = (p.map fun i => ts.getD i "").map V.str := by
    rw [List.map_map]
    refine List.map_congr_left fun i hi => ?_
    have hi' : i < ts.length := List.mem_range.mp (hO.perm.mem_iff.mp hi)
    simp [hi']
  rw [ep]
  exact q l _ nl (perm_get ts "" hO.perm) (List.pairwise_map.mpr hO.rise)
theorem tups_of {pins : List (Addr × Obj)} {σ : St} {H : Hp} {s : Shared} (I : Inv X pins σ H s) : ∀ {rs : List (Addr × List Str)} {its : List Value}, Vals (rs.map fun r => V.ref r.1) its → (∀ r ∈ rs, SqT X.K H r.1 (r.2.map V.str) ∧ r.2 ≠ []) → HS.TupsAre s.heap its (rs.map (·.2))
  | [], _, .nil, _ => .nil
  | (b, ts) :: rs, _, .cons e r, h => by
    cases e
    obtain ⟨hq, ne⟩ := h (b, ts) (List.mem_cons_self ..)
    obtain ⟨its2, r2, p2, _⟩ := I.tuple hq
    obtain ⟨o, ho, hc, n, hd⟩ := p2
    exact .cons ⟨b, o, _, n, rfl, ho, hc, hd, by simpa using strsAre_vals r2⟩ ne (tups_of I r fun r hr => h r (List.mem_cons_of_mem _ hr))
theorem call_sortT : CallR X (.builtin "sorted") (fun xs H Q => ∃ a, ∃ rs : List (Addr × List Str), xs = [.ref a] ∧ (SqL X.K H a (rs.map fun r => V.ref r.1) ∨ SqT X.K H a (rs.map fun r => V.ref r.1)) ∧ rs.length < 64 ∧ (∀ r ∈ rs, SqT X.K H r.1 (r.2.map V.str) ∧ r.2 ≠ []) ∧
    ∀ l (rs' : List (Addr × List Str)), H l = none → rs'.Perm rs → rs'.Pairwise (fun a b => HS.ltT b.2 a.2 = false) → Q (.ref l) (upd H l (.lst (rs'.map fun r => V.ref r.1)))) := by
  intro pins s σ H xs us Q I r h
  obtain ⟨a, rs, rfl, hq, hz, hr, q⟩ := h
  obtain ⟨u, rfl, ru⟩ := vals1 r
  cases ru
  obtain ⟨its, ri, hcol⟩ := collect_seq (A := X.A.in1) (E := X.xe) I hq
  have hl := ri.length
  rw [List.length_map] at hl
  have hT := tups_of I ri hr
  refine HS.sorted_call (lt := HS.ltT) HS.ltT_tot HS.ltT_tr (ks := rs.map (·.2)) (d := []) (fun v => v = its) (fun v e => by rw [e, List.length_map]; exact hl) (by rw [List.length_map]; exact hz) (fun Q' h => hcol Q' fun h1 tk k => h its h1 tk rfl k) (fun v e h2 h3 tk k3 => by subst e; exact HS.asks_tups (s := { s with heap := h3, toks := tk }) (hT.keep k3) h2) fun v p e h1 h' tk ev hO k1 k2 hD => ?_
  subst ev
  have hpm : p.Perm (List.range rs.length) := by have := hO.perm; rw [List.length_map] at this; exact this
  refine sorted_end I ri (by rw [List.length_map]; exact hz) (by rw [List.length_map]; exact hpm) k1 k2 hD fun l nl => ?_
  have ep : (p.map fun i => (rs.map fun r => V.ref r.1).getD i .non) = (p.map fun i => rs.getD i (0, [])).map fun r => V.ref r.1 := by
    rw [List.map_map]
    refine List.map_congr_left fun i hi => ?_
    have hi' : i < rs.length := List.mem_range.mp (hpm.mem_iff.mp hi)
    simp [hi']
  rw [ep]
  refine q l _ nl (perm_get rs (0, []) hpm) (List.pairwise_map.mpr (hO.rise.imp_of_mem fun {i j} hi hj z => ?_))
  have hi' : i < rs.length := List.mem_range.mp (hpm.mem_iff.mp hi)
  have hj' : j < rs.length := List.mem_range.mp (hpm.mem_iff.mp hj)
  simpa [hi', hj'] using z
def PairsV (K : PySem.W.Frag) (H : Hp) (ys : List V) (kvs : List (Key × V)) : Prop := Paired (fun (v : V) (kx : Key × V) => ∃ b, v = .ref b ∧ SqT K H b [kV kx.1, kx.2]) ys kvs
theorem pairs_at {pins : List (Addr × Obj)} {σ : St} {H : Hp} {s : Shared} (I : Inv X pins σ H s) : ∀ {ys : List V} {kvs : List (Key × V)} {its : List Value}, PairsV X.K H ys kvs → Vals ys its → ∃ vs : List (Key × Value), KV kvs vs ∧ HD.PairsAt (mixKind X.prog X.w) s.heap its vs
  | _, _, _, .nil, .nil => ⟨[], .nil, rfl, fun j v kx e => by simp at e⟩
  | _ :: _, kx :: _, _ :: _, .cons hp r, .cons rv rr => by
    obtain ⟨b, rfl, hq⟩ := hp
    cases rv
    obtain ⟨vs, kv, hl, hat⟩ := pairs_at I r rr
    obtain ⟨its2, r2, p2, _⟩ := I.tuple hq
    obtain ⟨o, ho, hc, n, hd⟩ := p2
    cases r2 with
    | cons rk rx =>
      cases rx with
      | cons rx rn =>
        cases rn
        rename_i key val
        refine ⟨(kx.1, val) :: vs, .cons ⟨rfl, rx⟩ kv, by rw [List.length_cons, List.length_cons, hl], fun j v kx' e1 e2 => ?_⟩
        cases j with
        | zero =>
          cases e1; cases e2
          exact ⟨b, o, key, n, rfl, ho, hc, hd, kV_is rk⟩
        | succ j => exact hat j v kx' (by simpa using e1) (by simpa using e2)
theorem call_dictT (hc : X.calm = true) : CallR X (.type "dict") (fun xs H Q => ∃ a ys kvs, xs = [.ref a] ∧ H a = some (.tup ys) ∧ PairsV X.K H ys kvs ∧ ys.length ≤ 1000 ∧ ∀ p, H p = none → Q (.ref p) (upd H p (.dK (mergeK [] kvs)))) := by
  intro pins s σ H xs us Q I r h
  obtain ⟨a, ys, kvs, rfl, hH, hp, hz, q⟩ := h
  obtain ⟨u, rfl, ru⟩ := vals1 r
  cases ru
  obtain ⟨z, its, ri, ⟨o, ho, hcl, n, hd⟩, o', ho', hdn⟩ := (show ObjOk X.prog X.w H s.heap a (.tup ys) from I.hok a _ hH)
  rw [ho] at ho'
  cases ho'
  have hl := ri.length
  obtain ⟨vs, kv, hP⟩ := pairs_at I hp ri
  have lk : kvs.length ≤ 1000 := by
    have e1 := KV.length kv
    have e2 := hP.1
    omega
  refine HD.call_dict (I.ok.hd hc) ho hcl hd hdn hP (by omega) fun h' tk hD k => ?_
  have hm := length_mergeK kvs []
  have I2 : Inv X pins σ (upd H s.heap.objs.size (.dK (mergeK [] kvs))) { s with heap := h', toks := tk } := by
    refine I.laid (h' := h') (t' := tk) (o := .dK (mergeK [] kvs)) k (Nat.le_refl _) ⟨by rw [sizeLine_eq]; simp only [List.length_nil] at hm; omega, beq_eq_false_iff_ne.mpr (Ne.symm (Nat.ne_of_lt I.big)), merged [] vs, KV.merge kv .nil, hD⟩
  exact ⟨.ref s.heap.objs.size, _, I2, rfl, q _ I.fresh⟩
def DKeys (H : Hp) (a : Addr) (ts : List Str) : Prop := ∃ kvs : List (Key × V), Rd H a (.dK kvs) ∧ kvs.map (·.1) = ts.map Sum.inr
theorem keys_are {kvs : List (Key × V)} {vs : List (Key × Value)} {ts : List Str} (kv : KV kvs vs) (hk : kvs.map (·.1) = ts.map Sum.inr) {acc : List Value} (hl : acc.length = vs.length)
    (h : ∀ (j : Nat) (v : Value), acc[j]? = some v → ∃ k x, vs[j]? = some (k, x) ∧ (mixKind X.prog X.w).is k v = true) : StrsAre acc ts := by
  have hk2 : vs.map (·.1) = ts.map Sum.inr := by rw [← KV.keys kv]; exact hk
  clear hk kv
  induction acc generalizing vs ts with
  | nil =>
    cases vs with
    | nil => cases ts with
      | nil => exact .nil
      | cons _ _ => simp at hk2
    | cons _ _ => simp at hl
  | cons v acc ih =>
    cases vs with
    | nil => simp at hl
    | cons kx vs =>
      cases ts with
      | nil => simp at hk2
      | cons t ts =>
        obtain ⟨k, x, e, hi⟩ := h 0 v rfl
        have e' : kx = (k, x) := by simpa using e
        subst e'
        simp only [List.map_cons, List.cons.injEq] at hk2
        obtain ⟨e1, e2⟩ := hk2
        have e1' : k = Sum.inr t := e1
        subst e1'
        rcases keyIs_shape (show keyIs (.inr t) v = true from hi) with ⟨i, t', z, _⟩ | ⟨y, t', z, rfl⟩
        · cases z
        · cases z
          exact .cons t t' (ih (by simpa using hl) (fun j v e => h (j + 1) v (by simpa using e)) e2)
theorem vals_of_strs : ∀ {l : List Value} {ts : List Str}, StrsAre l ts → Vals (ts.map V.str) l
  | _, _, .nil => .nil
  | _, _, .cons _ t h => .cons ⟨t, rfl⟩ (vals_of_strs h)
theorem collect_keys {K : Type} [DecidableEq K] {prog : Program} {w : World} {knd : KeyKind prog w K} {A : Around} {E : Value → Shared → Prop} {s : Shared} {a : Addr} {vs : List (K × Value)} {ep : Nat} (hh : A.handled = none) (lo : (a == sysModules) = false) (dat : s.heap.DictAt knd a vs ep) (hn : vs.length ≤ sizeLine)
    {Q : List Value → Shared → Prop} (h : ∀ (acc : List Value) (h1 : Heap) (tk : Nat), acc.length = vs.length → (∀ (j : Nat) (v : Value), acc[j]? = some v → ∃ k x, vs[j]? = some (k, x) ∧ knd.is k v = true) → (∀ b o, s.heap.get? b = some o → h1.get? b = some o) → Q acc { s with heap := h1, toks := tk }) :
    wpAny (model prog w) A (collect (.ref a)) Q E s := by
  have al : a < s.heap.objs.size := dat.lt_size
  unfold collect
  refine wpAny_bind (wpAny_runValue (codeAny_builtin PySem.F.entry_proto_collect ?_))
  rw [Around.under_plainId PySem.F.plain_proto_collect _]
  show wpAny _ A.in1 (newList [] >>= fun l => again (.builtin "list.__iadd__" ⟨[l, .ref a], []⟩)) _ _ s
  refine wpAny_bind (wpAny_newObj_type ?_)
  refine wpAny_pure ⟨plainId_quiet PySem.F.plain_list_iadd _, codeAny_builtin PySem.F.entry_list_iadd ?_⟩
  rw [Around.under_plainId PySem.F.plain_list_iadd _]
  have hS1 : (s.heap.push { cls := .type "list", data := .seq ([] : List Value).toArray }).get? s.heap.objs.size = some { cls := .type "list", data := .seq #[] } := Heap.get?_push_size _ rfl
  show wpAny _ A.in1 (Builtin.List.listExtendWith (.ref s.heap.objs.size) (.ref a) (.ref s.heap.objs.size)) _ _ _
  refine wpAny_mono (PySem.W.kdl_extend (A := A) (s := { s with heap := s.heap.push { cls := .type "list", data := .seq ([] : List Value).toArray } })
    (R := fun (q : Result) (s' : Shared) => ∃ (h' : Heap) (tk : Nat) (acc' : Array Value) (c' : Nat), q = .ok (.ret (.ref s.heap.objs.size)) ∧ s' = { s with heap := h', toks := tk } ∧ (∀ b o, s.heap.get? b = some o → h'.get? b = some o) ∧
      h'.get? s.heap.objs.size = some { cls := .type "list", dict := none, data := .seq acc' c', slots := #[] } ∧ ItemsOf (fun i v => ∃ k x, vs[i]? = some (k, x) ∧ knd.is k v = true) acc' vs.length)
    (PySem.W.kdl_dict (knd := knd) (kvs := vs) (ep := ep) lo) hh (dat.push _) s.heap.objs.size (Nat.ne_of_gt al) (Nat.ne_of_gt al) (.ref s.heap.objs.size) 0 hS1
    (fun h' tk acc' c' k hD hI => ⟨h', tk, acc', c', rfl, rfl, fun b o e => k b o (Nat.ne_of_lt (Heap.lt_size e)) (Heap.get?_push_of_some _ e), hD, hI⟩) hn) (fun fin s' z => ?_) fun e s' z => ?_
  · cases fin with
    | done f =>
      obtain ⟨h', tk, acc', c', e, rfl, k, hD, hI⟩ := z
      cases e
      show wpAny _ A (load s.heap.objs.size >>= _) _ _ _
      refine wpAny_bind (wpAny_load hD ?_)
      exact wpAny_pure (h acc'.toList h' tk (by rw [Array.length_toList]; exact hI.1) (fun j v e => hI.2 j v (by rw [← Array.getElem?_toList]; exact e)) k)
    | again c =>
      refine ⟨z.1, codeAny_mono z.2 fun r s2 hz => ?_⟩
      obtain ⟨h', tk, acc', c', rfl, rfl, k, hD, hI⟩ := hz
      show wpAny _ A (load s.heap.objs.size >>= _) _ _ _
      refine wpAny_bind (wpAny_load hD ?_)
      exact wpAny_pure (h acc'.toList h' tk (by rw [Array.length_toList]; exact hI.1) (fun j v e => hI.2 j v (by rw [← Array.getElem?_toList]; exact e)) k)
  · obtain ⟨_, _, _, _, e', _⟩ := z
    cases e'
theorem call_sortD (hc : X.calm = true) : CallR X (.builtin "sorted") (fun xs H Q => ∃ a, ∃ ts : List Str, xs = [.ref a] ∧ DKeys H a ts ∧ ts.length < 64 ∧
    ∀ l (ts' : List Str), H l = none → ts'.Perm ts → ts'.Pairwise (fun a b => HS.ltS b a = false) → Q (.ref l) (upd H l (.lst (ts'.map V.str)))) := by
  intro pins s σ H xs us Q I r h
  obtain ⟨a, ts, rfl, ⟨kvs, hR, hk⟩, hz, q⟩ := h
  obtain ⟨u, rfl, ru⟩ := vals1 r
  cases ru
  obtain ⟨hzk, lo, vs, kv, dd⟩ := dk_rd I.hok hR
  have lv := KV.length kv
  obtain ⟨ob, es, ep, ho, rr⟩ := id dd
  have dat : s.heap.DictAt (mixKind X.prog X.w) a vs ep := ⟨ob, es, ho, rr⟩
  refine HS.sorted_call (lt := HS.ltS) HS.ltS_tot HS.ltS_tr (ks := ts) (d := "") (fun v => StrsAre v ts) (fun v e => (HS.strs_len e).symm) hz
    (fun Q' h => collect_keys (A := X.A.in1) (I.ok.hd hc) lo dat (by omega) fun acc h1 tk hl hi k => h acc h1 tk (keys_are (X := X) kv hk hl hi) k) (fun v e h2 h3 tk _ => HS.asks_strs e h2) fun v p e h1 h' tk hS hO k1 k2 hD => ?_
  refine sorted_end I (vals_of_strs hS) (by rw [List.length_map]; exact hz) (by rw [List.length_map]; exact hO.perm) k1 k2 hD fun l nl => ?_
  have ep : (p.map fun i => (ts.map V.str).getD i .non) = (p.map fun i => ts.getD i "").map V.str := by
    rw [List.map_map]
    refine List.map_congr_left fun i hi => ?_
    have hi' : i < ts.length := List.mem_range.mp (hO.perm.mem_iff.mp hi)
    simp [hi']
  rw [ep]
  exact q l _ nl (perm_get ts "" hO.perm) (List.pairwise_map.mpr hO.rise)
theorem op_catH : OpR X (binaryOp .Add) (fun x y H Q => ∃ a b xs ys, x = .ref a ∧ y = .ref b ∧ H a = some (.tup xs) ∧ H b = some (.tup ys) ∧ xs.length + ys.length ≤ sizeLine ∧ ∀ p H', Same H H' → H' p = some (.tup (xs ++ ys)) → Q (.ref p) H') := by
  intro pins s σ H x y v u Q I rx ry h
  obtain ⟨a, b, xs, ys, rfl, rfl, ha, hb, hz, q⟩ := h
  by_cases hx : xs = []
  · subst hx
    cases rx
    cases ry
    obtain ⟨its, r1, p1, _⟩ := I.tuple (SqT.of ha)
    obtain ⟨its2, r2, p2, _⟩ := I.tuple (SqT.of hb)
    have e1 : its = [] := r1.nil_iff.mpr rfl
    subst e1
    obtain ⟨m, F⟩ := I.fr
    exact add_tuples F (news := []) (fun p hp => absurd hp (by simp)) p1 p2 (fun _ => ⟨.ref b, H, I, rfl, q b H (Same.refl H) hb⟩) (fun z => absurd rfl z) (fun z => absurd rfl z) (by simp at hz ⊢; rw [← r2.length]; exact hz)
  · refine op_catT pins s σ H (.ref a) (.ref b) v u Q I rx ry ⟨a, b, xs, ys, rfl, rfl, SqT.of ha, SqT.of hb, hx, hz, fun e => ?_, fun _ p hp => q p _ (Same.new hp _) upd_same⟩
    subst e
    exact q a H (Same.refl H) (by rw [List.append_nil]; exact ha)
end
end L2
namespace L2
open PySem PySem.Spec PyProof.Rows
def TS' (H H' : Hp) : Prop := ∀ b xs, H b = some (.tup xs) → H' b = some (.tup xs)
theorem _root_.L2.Same.ts {H H' : Hp} (s : Same H H') : TS' H H' := fun b xs h => s b _ h
theorem TS'.trans {H H1 H2 : Hp} (a : TS' H H1) (b : TS' H1 H2) : TS' H H2 := fun c xs h => b c xs (a c xs h)
theorem TS'.lst {H : Hp} {D : Addr} {ys : List V} {o : HO} (h : H D = some (.lst ys)) : TS' H (upd H D o) := fun b xs hb => by
  have : b ≠ D := fun e => by rw [e, h] at hb; cases hb
  rw [upd_ne this]
  exact hb
theorem compF_rel {J : It} {xs : List V} {te : TE} {fr : St} {H1 : Hp} {QD : Hp → Prop} (Rl : V → V → Hp → Prop) (mono : ∀ x v H H', TS' H H' → Rl x v H → Rl x v H') (D : Addr) (hD : H1 D = none) (T : Tells J H1 xs) (hz : xs.length < sizeLine)
    (he : ∀ x H R, x ∈ xs → Same H1 H → (∀ v H', Same H H' → Rl x v H' → R v H') → te (some x :: fr) H R)
    (hd : ∀ H' ys, Same H1 H' → H' D = some (.lst ys) → Paired (fun x v => Rl x v H') xs ys → QD H') :
    ∃ W : Nat → Nat → List V → Hp → Prop, (∃ m, W 0 m [] (upd H1 D (.lst []))) ∧ ∀ i m ys H2, W i m ys H2 → H2 D = some (.lst ys) ∧
      ((J.stop i H2 ∧ QD H2) ∨ (J.go i H2 ∧ ∀ x H3, J.yld i H2 x H3 → ∀ pre : St, pre.length = 1 → gName 0 x (pre ++ fr) H3 fun σ4 H4 => (∃ pre' : St, pre'.length = 1 ∧ σ4 = pre' ++ fr) ∧
        tTrue σ4 H4 fun b H5 => if b = true then te σ4 H5 (fun y H6 => H6 D = some (.lst ys) ∧ ys.length < sizeLine ∧ ∃ m', m' < m ∧ W (i + 1) m' (ys ++ [y]) (upd H6 D (.lst (ys ++ [y])))) else ∃ m', m' < m ∧ W (i + 1) m' ys H5)) := by
  refine ⟨fun i m ys H2 => m = xs.length - i ∧ i ≤ xs.length ∧ ys.length = i ∧ Paired (fun x v => Rl x v H2) (xs.take i) ys ∧ H2 D = some (.lst ys) ∧ Same H1 H2, ⟨xs.length, by simp, Nat.zero_le _, rfl, by rw [List.take_zero]; exact .nil, upd_same, Same.new hD _⟩, ?_⟩
  rintro i m ys H2 ⟨rfl, hi, hl, hp, hD2, sm⟩
  refine ⟨hD2, ?_⟩
  by_cases hlt : i < xs.length
  · refine .inr ⟨T.go H2 i sm hlt, fun x H3 y pre hpre => ?_⟩
    obtain ⟨rfl, hx⟩ := T.yld H2 i x H3 sm y
    obtain ⟨v0, rfl⟩ : ∃ v0, pre = [v0] := by
      cases pre with
      | nil => simp at hpre
      | cons v r => cases r with
        | nil => exact ⟨v, rfl⟩
        | cons _ _ => simp at hpre
    have hm := List.mem_of_getElem? hx
    refine ⟨⟨[some x], rfl, rfl⟩, ?_⟩
    unfold tTrue
    dsimp only
    refine iteT ?_
    refine he x H3 _ hm sm fun v H6 s6 hr => ?_
    have t6 : TS' H6 (upd H6 D (.lst (ys ++ [v]))) := TS'.lst (s6 _ _ hD2)
    refine ⟨s6 _ _ hD2, by omega, xs.length - (i + 1), by omega, rfl, hlt, by simp [hl], ?_, upd_same, ?_⟩
    · rw [List.take_add_one, hx]
      exact (hp.mono fun a b h => mono _ _ _ _ (s6.ts.trans t6) h).snoc (mono _ _ _ _ t6 hr)
    · intro b o e
      have hb : b ≠ D := ne_of_none e hD
      rw [upd_ne hb]
      exact s6 _ _ (sm _ _ e)
  · have e : i = xs.length := by omega
    subst e
    rw [List.take_length] at hp
    exact .inl ⟨T.stop H2 sm, hd H2 ys sm hD2 hp⟩
section
variable {X : Cx} {a : Expr} {ta : TE}
end
end L2
namespace L2
open PySem PySem.Spec PyProof.Rows
def Itd (a : Addr) (o : Obj) (kvs : List (Key × V)) : It :=
  { go := fun i H => H a = some (.frz o (.dK kvs)) ∧ i < kvs.length
    yld := fun i H x H' => H' = H ∧ (kvs.map fun p => kV p.1)[i]? = some x
    stop := fun i H => H a = some (.frz o (.dK kvs)) ∧ kvs.length ≤ i }
theorem rel_of_is {P : Program} {w : World} {k : Key} {u : Value} (h : (mixKind P w).is k u = true) : RelV (kV k) u := by
  rcases keyIs_shape (show keyIs k u = true from h) with ⟨i, t, z, rfl⟩ | ⟨y, t, z, rfl⟩
  · cases z; exact ⟨t, rfl⟩
  · cases z; exact ⟨t, rfl⟩
theorem KV.at : ∀ {kvs : List (Key × V)} {vs : List (Key × Value)} {i : Nat}, KV kvs vs → i < kvs.length → ∃ k x v, kvs[i]? = some (k, x) ∧ vs[i]? = some (k, v)
  | _ :: _, _ :: _, 0, .cons h r, _ => ⟨_, _, _, rfl, by rw [List.getElem?_cons_zero, h.1]⟩
  | _ :: _, _ :: _, i + 1, .cons h r, hl => by
    obtain ⟨k, x, v, h1, h2⟩ := KV.at (i := i) r (by simpa using hl)
    exact ⟨k, x, v, by simpa using h1, by simpa using h2⟩
theorem turn_dict {P : Program} {w : World} {K : PySem.W.Frag} {tg : Expr} (a it : Addr) (o : Obj) {kvs : List (Key × V)} {vs : List (Key × Value)} {ep : Nat} (kv : KV kvs vs) (hd : ∀ h : Heap, h.get? a = some o → h.DictAt (mixKind P w) a vs ep) :
    Turn P w K tg (Itd a o kvs) [it] it (fun i h => h.IsKeyIter it a i kvs.length ep) where
  mem := by simp
  obj := fun i h st b hb => by
    have e : b = it := by simpa using hb
    subst e
    obtain ⟨o, e, c, d⟩ := st
    exact ⟨o, e, fun v z => by rw [d] at z; cases z⟩
  keep := fun i h h' st k => st.at fun o e => k it (by simp) o e
  item := by
    intro X hP hw hK hc i pins s σ H E I hf st hg
    subst hP hw hK
    obtain ⟨hq, hi⟩ := hg
    obtain ⟨ho, _⟩ := (show ObjOk X.prog X.w H s.heap a (.frz o (.dK kvs)) from I.hok a _ hq)
    obtain ⟨k, x, v, h1, h2⟩ := kv.at hi
    obtain ⟨f0, f1, f2, f3, f4, f5⟩ := hf it (by simp)
    have lv := KV.length kv
    rw [lv] at st
    refine wpAny_pyNext_dict_item st (hd _ ho) h2 fun key h' hkey st' sb => ?_
    have I1 : Inv X pins σ H { s with heap := h' } := I.turned (t' := s.toks) (fun b o hb e => (sb.2 b hb).trans e) f0 f1 f3 f4 f5
    obtain ⟨o', e', c', d'⟩ := id st'
    refine ⟨key, rfl, go_of (s := { s with heap := h' }) e' c' d' (by decide) ⟨kV k, H, I1, rel_of_is hkey, ⟨rfl, by rw [List.getElem?_map, h1]; rfl⟩, by rw [lv]; exact st', fun b hb => (hf b hb).1⟩⟩
  done := by
    intro X hP hw hK hc i pins s σ H E I hf st hg
    subst hP hw hK
    obtain ⟨hq, hi⟩ := hg
    obtain ⟨ho, _⟩ := (show ObjOk X.prog X.w H s.heap a (.frz o (.dK kvs)) from I.hok a _ hq)
    obtain ⟨f0, f1, f2, f3, f4, f5⟩ := hf it (by simp)
    have lv := KV.length kv
    rw [lv] at st
    exact wpAny_pyNext_dict_end (I.ok.hd hc) st (hd _ ho) (List.getElem?_eq_none (by omega)) fun h' eb => ⟨rfl, I.turned (t' := s.toks) (fun b o hb e => eb b o hb e) f0 f1 f3 f4 f5⟩
  self := fun _ _ _ _ _ st h => wpAny_pyIter_keyiter st h
section
variable {X : Cx} {tg : Expr}
def iDict (td : TE) : TI := fun σ H R => td σ H fun x H1 => ∃ a kvs, x = .ref a ∧ H1 a = some (.dK kvs) ∧ ∀ o, R (Itd a o kvs) (upd H1 a (.frz o (.dK kvs)))
theorem pi_dict {l : Expr} {td : TE} (hl : PE X l td) : PI X tg l (iDict td) := by
  intro pins s σ H R I h
  refine thn (hl pins s σ H _ I h) fun v s1 ⟨x, H1, I1, r1, q1⟩ => ?_
  obtain ⟨a, kvs, e, hd, q⟩ := q1
  subst e
  cases r1
  obtain ⟨hz, lo, vs, kv, dd⟩ := dk_of I1.hok hd
  have lv := KV.length kv
  obtain ⟨ob, es, ep, ho, rr⟩ := id dd
  have dat : s1.heap.DictAt (mixKind X.prog X.w) a vs ep := ⟨ob, es, ho, rr⟩
  have I2 : Inv X pins σ (upd H1 a (.frz ob (.dK kvs))) s1 := by
    have := d_write (h' := s1.heap) (t' := s1.toks) (ob := .frz ob (.dK kvs)) I1 (by rw [hd]; exact True.intro) (Heap.SameBut.refl _ _) ⟨ob, ho⟩ ⟨ho, dk_new hz lo kv dd⟩
    exact this
  refine wpAny_pyIter_dict lo dat ?_
  refine ⟨s1.heap.objs.size, [s1.heap.objs.size], _, _, _, rfl, I2.kept (t' := s1.toks) fun b o e => Heap.get?_push_of_some _ e, turn_dict a _ ob kv (fun h e => ⟨ob, es, e, rr⟩), ⟨_, Heap.get?_push_size _ rfl, rfl, by rw [lv]; rfl⟩, fun b hb => ?_, q ob⟩
  have e : b = s1.heap.objs.size := by simpa using hb
  subst e
  exact I2.fpOk (Nat.le_refl _) (I2.hok.fresh (Nat.le_refl _))
theorem tells_dict {H1 : Hp} {a : Addr} {o : Obj} {kvs : List (Key × V)} (h : H1 a = some (.frz o (.dK kvs))) : Tells (Itd a o kvs) H1 (kvs.map fun p => kV p.1) :=
  ⟨fun H2 i sm hi => ⟨sm _ _ h, by simpa using hi⟩, fun H2 i x H3 sm y => y, fun H2 sm => ⟨sm _ _ h, by rw [List.length_map]; exact Nat.le_refl _⟩⟩
theorem op_neA (hu : X.A.units + 8 < cLine) : OpR X (compareOp .NotEq) (fun x y H Q => ∃ a b ds xs ys, x = .ref a ∧ y = .ref b ∧ ((SqT X.K H a xs ∧ SqT X.K H b ys) ∨ (SqL X.K H a xs ∧ SqL X.K H b ys)) ∧ AreDat X.K H ds xs ∧ AreDat X.K H ds ys ∧ Dat.deeps ds ≤ 3 ∧ Q (.bl false) H) := by
  intro pins s σ H x y v u Q I rx ry h
  obtain ⟨a, b, ds, xs, ys, rfl, rfl, hq, h1, h2, hdp, q⟩ := h
  cases rx
  cases ry
  have l1 := h1.length
  have l2 := h2.length
  have el : ∀ {its its2 : List Value}, Vals xs its → Vals ys its2 → ∀ j (j1 : j < its.toArray.size) (j2 : j < its2.toArray.size), SeqAt.EqAt X.A.in1 s its.toArray[j] its2.toArray[j] true := fun {its its2} r1 r2 j j1 j2 => by
    obtain ⟨x', d1, rx', m1⟩ := dat_at (A := X.A) h1 r1 j1
    obtain ⟨y', d2, ry', _⟩ := dat_at (A := X.A) h2 r2 j2
    have h3 := deep_at m1
    have := dat_eqAt I 3 X.A.in1 (by omega) (by show X.A.units + 1 + 3 < cLine; omega) d1 d2 rx' ry'
    rw [beq_refl] at this
    exact this
  have allT : ∀ n : Nat, (List.range n).all (fun _ => true) = true := fun n => by simp
  rcases hq with ⟨q1, q2⟩ | ⟨q1, q2⟩
  · obtain ⟨its, r1, p1, _⟩ := I.tuple q1
    obtain ⟨its2, r2, p2, _⟩ := I.tuple q2
    have s1 : its.toArray.size = ds.length := by rw [List.size_toArray, ← r1.length, l1]
    have s2 : its2.toArray.size = ds.length := by rw [List.size_toArray, ← r2.length, l2]
    refine SeqAt.RcNeAt.tuples (e := fun _ => true) p1 p2 (by omega) (el r1 r2) _ _ _ _ ?_
    rw [allT, s1, s2]
    exact ⟨.bl false, H, I, (by simp; rfl), q⟩
  · obtain ⟨its, r1, p1, _⟩ := I.list q1
    obtain ⟨its2, r2, p2, _⟩ := I.list q2
    have s1 : its.toArray.size = ds.length := by rw [List.size_toArray, ← r1.length, l1]
    have s2 : its2.toArray.size = ds.length := by rw [List.size_toArray, ← r2.length, l2]
    refine SeqAt.RcNeAt.lists (e := fun _ => true) p1.isList p2.isList (s1.trans s2.symm) (by omega) (el r1 r2) _ _ _ _ ?_
    rw [allT]
    exact ⟨.bl false, H, I, (by simp; rfl), q⟩
end
end L2
namespace RD
open PySem PySem.Spec PyProof.Rows
section
variable {prog : Program} {w : World} {A : Around} {E : Value → Shared → Prop} {s : Shared}
theorem iter {d : Addr} {o : Obj} {es : Array DictEntry} {ep : Nat} {Q : Value → Shared → Prop} (lo : (d == sysModules) = false) (ho : s.heap.get? d = some o) (hx : o.ExactDict) (hdat : o.data = .dict es ep)
    (hQ : Q (.ref s.heap.objs.size) { s with heap := s.heap.push { cls := .type "dict_keyiterator", data := .fields #[.ref d, .int 0 0, .int es.size 0, .int ep 0] } }) : wpAny (model prog w) A (pyIter (.ref d)) Q E s := by
  have tyD : s.TypeIs (.ref d) "dict" := ⟨o, ho, hx.1⟩
  refine wpAny_pyIter_slot tyD F.slot_dict_iter (wpAny_call_entry F.slot_dict_iter tyD F.entry_dict_iter ?_ (F.args_dict_iter_1 _)); unfold Builtin.«dict.__iter__»; refine wpAny_bind ?_
  unfold Builtin.Dict.dictSlotNone; refine wpAny_bind (wpAny_notOrdered_dict tyD ?_); show wpAny _ _ (pure (Value.ref d)) _ _ s; refine wpAny_pure ?_
  show wpAny _ _ (Builtin.Dict.showsAll d >>= _) _ _ s; unfold Builtin.Dict.showsAll; rw [if_neg (by rw [lo]; exact Bool.false_ne_true)]
  refine wpAny_bind (wpAny_pure (wpAny_bind (wpAny_dictEntries ho hdat (wpAny_bind (wpAny_dictEpoch ho hdat ?_)))))
  refine wpAny_bind (wpAny_newObj_type (wpAny_pure ⟨_, rfl, "dict_keyiterator", _, ⟨_, Heap.get?_push_size _ rfl, rfl⟩, F.slot_dict_keyiterator_next.lookup, ?_⟩)); simpa [rawInt] using hQ
theorem item {it d : Addr} {i ep : Nat} {od : Obj} {es : Array DictEntry} {e : DictEntry} {Q : Option Value → Shared → Prop} (hit : s.heap.IsKeyIter it d i es.size ep) (hod : s.heap.get? d = some od) (hdd : od.data = .dict es ep) (hx : es[i]? = some e)
    (hQ : ∀ h', h'.IsKeyIter it d (i + 1) es.size ep → Heap.SameBut it s.heap h' → Q (some e.key) { s with heap := h' }) : wpAny (model prog w) A (pyNext (.ref it)) Q E s := by
  obtain ⟨o, ho, hc, hd⟩ := id hit
  unfold pyNext; refine wpAny_bind (wpAny_attempt (wpAny_callSpecial?_slot (name := Str.ofString "__next__") hit.typeIs F.slot_dict_keyiterator_next (wpAny_call_entry F.slot_dict_keyiterator_next hit.typeIs F.entry_dict_keyiterator_next ?_ (F.args_dict_keyiterator_next_1 _))))
  refine wpAny_bind (wpAny_pure (wpAny_bind (wpAny_bind ?_))); first | refine wpAny_bind (wpAny_typeNameOfWhole_keyiter hit.typeIs (wpAny_pure ?_)) | refine wpAny_bind (wpAny_typeNameOf_keyiter hit.typeIs (wpAny_pure ?_))
  refine wpAny_bind (wpAny_fieldsOf ho hd ?_); have own0 : Builtin.Dict_items.ownsTuple "dict_keyiterator" = false := by decide
  simp only [own0, Bool.false_eq_true, if_false]; show wpAny _ _ (if (Value.ref d == Value.none) = true then _ else _) _ _ s; rw [if_neg (show ¬ ((Value.ref d == Value.none) = true) from Bool.false_ne_true)]
  refine wpAny_bind (wpAny_pure (wpAny_bind (wpAny_dictEntries hod hdd ?_))); rw [if_neg (by simp)]
  refine wpAny_bind (wpAny_pure (wpAny_bind (wpAny_dictEpoch hod hdd ?_))); rw [if_neg (by simp)]; refine wpAny_pure ?_
  have lt : i < es.size := (Array.getElem?_eq_some_iff.mp hx).1
  have ee : es[i] = e := (Array.getElem?_eq_some_iff.mp hx).2
  simp only [show ¬ ((i : Int) < 0) from by omega, if_false, Int.toNat_natCast, hx]
  refine wpAny_bind ?_; first | refine wpAny_bind (wpAny_typeNameOfWhole_keyiter hit.typeIs (wpAny_pure ?_)) | refine wpAny_bind (wpAny_typeNameOf_keyiter hit.typeIs (wpAny_pure ?_))
  refine wpAny_bind (wpAny_isOneOf_keyiter hit.typeIs ?_); show wpAny _ _ (setField (.ref it) 1 (rawInt ((i : Int) + 1)) >>= _) _ _ s; refine wpAny_bind (wpAny_setField ho hd (by simp) ?_)
  have next : (s.heap.update it (Obj.mapFields (·.setIfInBounds 1 (rawInt ((i : Int) + 1))))).IsKeyIter it d (i + 1) es.size ep := ⟨_, Heap.get?_update_self _ ho (Obj.isFreed_of_fields (Obj.data_mapFields hd _)), (Obj.cls_mapFields ..).trans hc, by rw [Obj.data_mapFields hd]; simp [rawInt]⟩
  refine wpAny_bind (wpAny_holding (wpAny_bind (wpAny_isOneOf_keyiter (s := { s with heap := s.heap.update it (Obj.mapFields (·.setIfInBounds 1 (rawInt ((i : Int) + 1)))) }) next.typeIs ?_)))
  show wpAny _ _ (pure e.key) _ _ _; exact wpAny_pure (wpAny_pure ⟨_, rfl, wpAny_pure (hQ _ next (Heap.SameBut.update ..))⟩)
theorem done {it d : Addr} {i ep : Nat} {od : Obj} {es : Array DictEntry} {Q : Option Value → Shared → Prop} (hh : A.handled = none) (hit : s.heap.IsKeyIter it d i es.size ep) (hod : s.heap.get? d = some od) (hdd : od.data = .dict es ep) (hx : es.size ≤ i)
    (hQ : ∀ h', Heap.ExtBut it s.heap h' → Q none { s with heap := h' }) : wpAny (model prog w) A (pyNext (.ref it)) Q E s := by
  obtain ⟨o, ho, hc, hd⟩ := id hit
  unfold pyNext; refine wpAny_bind (wpAny_attempt (wpAny_callSpecial?_slot (name := Str.ofString "__next__") hit.typeIs F.slot_dict_keyiterator_next (wpAny_call_entry F.slot_dict_keyiterator_next hit.typeIs F.entry_dict_keyiterator_next ?_ (F.args_dict_keyiterator_next_1 _))))
  refine wpAny_bind (wpAny_pure (wpAny_bind (wpAny_bind ?_))); first | refine wpAny_bind (wpAny_typeNameOfWhole_keyiter hit.typeIs (wpAny_pure ?_)) | refine wpAny_bind (wpAny_typeNameOf_keyiter hit.typeIs (wpAny_pure ?_))
  refine wpAny_bind (wpAny_fieldsOf ho hd ?_); have own0 : Builtin.Dict_items.ownsTuple "dict_keyiterator" = false := by decide
  simp only [own0, Bool.false_eq_true, if_false]; show wpAny _ _ (if (Value.ref d == Value.none) = true then _ else _) _ _ s; rw [if_neg (show ¬ ((Value.ref d == Value.none) = true) from Bool.false_ne_true)]
  refine wpAny_bind (wpAny_pure (wpAny_bind (wpAny_dictEntries hod hdd ?_))); rw [if_neg (by simp)]
  refine wpAny_bind (wpAny_pure (wpAny_bind (wpAny_dictEpoch hod hdd ?_))); rw [if_neg (by simp)]; refine wpAny_pure ?_
  simp only [show ¬ ((i : Int) < 0) from by omega, if_false, Int.toNat_natCast, Array.getElem?_eq_none hx]
  refine wpAny_bind ?_; first | refine wpAny_bind (wpAny_typeNameOfWhole_keyiter hit.typeIs (wpAny_pure ?_)) | refine wpAny_bind (wpAny_typeNameOf_keyiter hit.typeIs (wpAny_pure ?_))
  show wpAny _ _ (setField (.ref it) 0 .none >>= _) _ _ s; refine wpAny_bind (wpAny_setField ho hd (by simp) ?_)
  show wpAny _ _ (newExc (.type "StopIteration") [] >>= _) _ _ _; refine wpAny_bind ?_; simp only [newExc, newTuple]; refine wpAny_bind (wpAny_newObj_type ?_ (by size_fits))
  refine wpAny_bind (m := firstArgMember _ _) (wpAny_of_eq (a := Value.none) (by first | rfl | (simp only [firstArgMember]; rfl)) (wpAny_newObj_type ?_ (by size_fits))); simp only [raiseNew]
  refine wpAny_bind (wpAny_handled ?_); rw [show A.in1.handled = none from hh]; refine wpAny_bind (wpAny_pure (wpAny_throw ?_))
  refine wpAny_bind (wpAny_isInstance (T := "StopIteration") (b := true) ⟨_, Heap.get?_push_size _ rfl, rfl⟩ isSubtype_stop ?_); exact wpAny_pure (hQ _ (((Heap.SameBut.update ..).extBut.push _).push _))
theorem walks {d : Addr} {od : Obj} {es : Array DictEntry} {ep : Nat} (hh : A.handled = none) (I : Addr) (hne : d ≠ I) (hdd : od.data = .dict es ep) :
    Walks prog w A I [I, d] [I] es.size (fun i v => ∃ e, es[i]? = some e ∧ v = e.key) (fun i h => h.IsKeyIter I d i es.size ep ∧ h.get? d = some od) where
  sub := fun b hb => by simp at hb; simp [hb]
  frame := fun _ _ _ st hk => ⟨st.1.at fun o e => hk I (by simp) o e, hk d (by simp) _ st.2⟩
  item := fun i s Q E hi st hQ => item st.1 st.2 hdd (Array.getElem?_eq_getElem hi) fun h' hit' hs' =>
    hQ _ h' s.toks ⟨_, Array.getElem?_eq_getElem hi, rfl⟩ ⟨hit', hs'.extBut d od hne st.2⟩ fun b o hb e => hs'.extBut b o (fun h => hb (by simp [h])) e
  done := fun s Q E st hQ => done hh st.1 st.2 hdd (Nat.le_refl _) fun h' he' => hQ h' s.toks fun b o hb e => he' b o (fun h => hb (by simp [h])) e
  self := fun _ _ _ _ st hQ => wpAny_pyIter_keyiter st.1 hQ
theorem src {d : Addr} {od : Obj} {es : Array DictEntry} {ep : Nat} (lo : (d == sysModules) = false) (hx : od.ExactDict) (hdd : od.data = .dict es ep) :
    PySem.W.KdlSrc prog w "dict" d d es.size (fun i v => ∃ e, es[i]? = some e ∧ v = e.key) (fun h => h.get? d = some od) where
  type := fun _ hm => ⟨od, hm, hx.1⟩
  there := fun _ hm => ⟨Heap.lt_size hm, Heap.lt_size hm⟩
  keep := fun _ _ hm hk => hk d (.inl rfl) _ hm
  notList := by decide
  notTuple := by decide
  hint := fun _ _ _ _ hm hq => PySem.W.kdl_hint_dict ⟨od, hm, hx.1⟩ hq
  iter := fun _ _ hh hm => ⟨_, _, (fun _ _ hq => iter lo hm hx hdd hq), walks hh _ (Nat.ne_of_lt (Heap.lt_size hm)) hdd, ⟨⟨_, Heap.get?_push_size _ rfl, rfl, rfl⟩, Heap.get?_push_of_some _ hm⟩⟩
end
end RD
namespace L2
open PySem PySem.Spec PyProof.Rows
theorem collect_src {prog : Program} {w : World} {A : Around} {E : Value → Shared → Prop} {s : Shared} {a : Addr} {n : Nat} {P : Nat → Value → Prop} {OK : Heap → Prop} (hh : A.handled = none) (S : PySem.W.KdlSrc prog w "dict" a a n P OK) (okp : ∀ o, OK (s.heap.push o)) (al : a < s.heap.objs.size) (hn : n ≤ sizeLine)
    {Q : List Value → Shared → Prop} (h : ∀ (acc : List Value) (h1 : Heap) (tk : Nat), acc.length = n → (∀ (j : Nat) (v : Value), acc[j]? = some v → P j v) → (∀ b o, s.heap.get? b = some o → h1.get? b = some o) → Q acc { s with heap := h1, toks := tk }) :
    wpAny (model prog w) A (collect (.ref a)) Q E s := by
  unfold collect
  refine wpAny_bind (wpAny_runValue (codeAny_builtin PySem.F.entry_proto_collect ?_))
  rw [Around.under_plainId PySem.F.plain_proto_collect _]
  show wpAny _ A.in1 (newList [] >>= fun l => again (.builtin "list.__iadd__" ⟨[l, .ref a], []⟩)) _ _ s
  refine wpAny_bind (wpAny_newObj_type ?_)
  refine wpAny_pure ⟨plainId_quiet PySem.F.plain_list_iadd _, codeAny_builtin PySem.F.entry_list_iadd ?_⟩
  rw [Around.under_plainId PySem.F.plain_list_iadd _]
  have hS1 : (s.heap.push { cls := .type "list", data := .seq ([] : List Value).toArray }).get? s.heap.objs.size = some { cls := .type "list", data := .seq #[] } := Heap.get?_push_size _ rfl
  show wpAny _ A.in1 (Builtin.List.listExtendWith (.ref s.heap.objs.size) (.ref a) (.ref s.heap.objs.size)) _ _ _
  refine wpAny_mono (PySem.W.kdl_extend (A := A) (s := { s with heap := s.heap.push { cls := .type "list", data := .seq ([] : List Value).toArray } })
    (R := fun (q : Result) (s' : Shared) => ∃ (h' : Heap) (tk : Nat) (acc' : Array Value) (c' : Nat), q = .ok (.ret (.ref s.heap.objs.size)) ∧ s' = { s with heap := h', toks := tk } ∧ (∀ b o, s.heap.get? b = some o → h'.get? b = some o) ∧
      h'.get? s.heap.objs.size = some { cls := .type "list", dict := none, data := .seq acc' c', slots := #[] } ∧ ItemsOf P acc' n)
    S hh (okp _) s.heap.objs.size (Nat.ne_of_gt al) (Nat.ne_of_gt al) (.ref s.heap.objs.size) 0 hS1
    (fun h' tk acc' c' k hD hI => ⟨h', tk, acc', c', rfl, rfl, fun b o e => k b o (Nat.ne_of_lt (Heap.lt_size e)) (Heap.get?_push_of_some _ e), hD, hI⟩) hn) (fun fin s' z => ?_) fun e s' z => ?_
  · cases fin with
    | done f =>
      obtain ⟨h', tk, acc', c', e, rfl, k, hD, hI⟩ := z
      cases e
      show wpAny _ A (load s.heap.objs.size >>= _) _ _ _
      refine wpAny_bind (wpAny_load hD ?_)
      exact wpAny_pure (h acc'.toList h' tk (by rw [Array.length_toList]; exact hI.1) (fun j v e => hI.2 j v (by rw [← Array.getElem?_toList]; exact e)) k)
    | again c =>
      refine ⟨z.1, codeAny_mono z.2 fun r s2 hz => ?_⟩
      obtain ⟨h', tk, acc', c', rfl, rfl, k, hD, hI⟩ := hz
      show wpAny _ A (load s.heap.objs.size >>= _) _ _ _
      refine wpAny_bind (wpAny_load hD ?_)
      exact wpAny_pure (h acc'.toList h' tk (by rw [Array.length_toList]; exact hI.1) (fun j v e => hI.2 j v (by rw [← Array.getElem?_toList]; exact e)) k)
  · obtain ⟨_, _, _, _, e', _⟩ := z
    cases e'
section
variable {X : Cx}
theorem sort_tups {pins : List (Addr × Obj)} {σ : St} {H : Hp} {s : Shared} {a : Addr} {rs : List (Addr × List Str)} {its : List Value} {Q : VK} (I : Inv X pins σ H s) (ri : Vals (rs.map fun r => V.ref r.1) its) (hz : rs.length < 64) (hr : ∀ r ∈ rs, SqT X.K H r.1 (r.2.map V.str) ∧ r.2 ≠ [])
    (hcol : ∀ Q' : List Value → Shared → Prop, (∀ h1 tk, (∀ b o, s.heap.get? b = some o → h1.get? b = some o) → Q' its { s with heap := h1, toks := tk }) → wpAny (model X.prog X.w) X.A.in1 (collect (.ref a)) Q' X.xe s)
    (q : ∀ l (rs' : List (Addr × List Str)), H l = none → rs'.Perm rs → rs'.Pairwise (fun a b => HS.ltT b.2 a.2 = false) → Q (.ref l) (upd H l (.lst (rs'.map fun r => V.ref r.1)))) :
    wpAny (model X.prog X.w) X.A (call (.builtin "sorted") [.ref a]) (EP X pins σ Q) X.xe s := by
  have hl := ri.length
  rw [List.length_map] at hl
  have hT := tups_of I ri hr
  refine HS.sorted_call (lt := HS.ltT) HS.ltT_tot HS.ltT_tr (ks := rs.map (·.2)) (d := []) (fun v => v = its) (fun v e => by rw [e, List.length_map]; exact hl) (by rw [List.length_map]; exact hz) (fun Q' h => hcol Q' fun h1 tk k => h its h1 tk rfl k) (fun v e h2 h3 tk k3 => by subst e; exact HS.asks_tups (s := { s with heap := h3, toks := tk }) (hT.keep k3) h2) fun v p e h1 h' tk ev hO k1 k2 hD => ?_
  subst ev
  have hpm : p.Perm (List.range rs.length) := by have := hO.perm; rw [List.length_map] at this; exact this
  refine sorted_end I ri (by rw [List.length_map]; exact hz) (by rw [List.length_map]; exact hpm) k1 k2 hD fun l nl => ?_
  have ep : (p.map fun i => (rs.map fun r => V.ref r.1).getD i .non) = (p.map fun i => rs.getD i (0, [])).map fun r => V.ref r.1 := by
    rw [List.map_map]
    refine List.map_congr_left fun i hi => ?_
    have hi' : i < rs.length := List.mem_range.mp (hpm.mem_iff.mp hi)
    simp [hi']
  rw [ep]
  refine q l _ nl (perm_get rs (0, []) hpm) (List.pairwise_map.mpr (hO.rise.imp_of_mem fun {i j} hi hj z => ?_))
  have hi' : i < rs.length := List.mem_range.mp (hpm.mem_iff.mp hi)
  have hj' : j < rs.length := List.mem_range.mp (hpm.mem_iff.mp hj)
  simpa [hi', hj'] using z
def strK : Key → Str
  | .inr t => t
  | .inl _ => ""
def TKeys (H : Hp) (a : Addr) (ts : List (List Str)) : Prop := ∃ kvs : List (List Key × V), Rd H a (.dT kvs) ∧ kvs.map (·.1) = ts.map fun t => t.map Sum.inr
theorem kt_keys {H : Hp} : ∀ {kvs : List (List Key × V)} {xs : List (List Key × Addr × Value)} {ts : List (List Str)}, KT H kvs xs → kvs.map (·.1) = (ts.map fun t => t.map Sum.inr) → (∀ x ∈ xs, H x.2.1 = some (.tup ((x.1.map strK).map V.str))) ∧ xs.map (fun x => x.1.map strK) = ts
  | [], [], [], .nil, _ => ⟨(fun x hx => by cases hx), rfl⟩
  | [], [], _ :: _, .nil, h => by simp at h
  | _ :: _, _ :: _, [], .cons _ _, h => by simp at h
  | p :: _, x :: _, t :: ts, .cons hp r, h => by
    simp only [List.map_cons, List.cons.injEq] at h
    obtain ⟨h1, h2⟩ := h
    obtain ⟨i1, i2⟩ := kt_keys r h2
    obtain ⟨e1, e2, _⟩ := hp
    have es : x.1.map strK = t := by
      rw [← e1, h1, List.map_map]
      have : ∀ z ∈ t, (strK ∘ Sum.inr) z = z := fun z _ => rfl
      rw [List.map_congr_left this, List.map_id']
    have ev : (x.1.map strK).map V.str = p.1.map kV := by rw [es, h1, List.map_map]; rfl
    refine ⟨fun y hy => ?_, by rw [List.map_cons, es, i2]⟩
    rcases List.mem_cons.mp hy with rfl | hy
    · rw [ev]; exact e2
    · exact i1 y hy
theorem call_sortDT (hc : X.calm = true) : CallR X (.builtin "sorted") (fun xs H Q => ∃ a, ∃ ts : List (List Str), xs = [.ref a] ∧ TKeys H a ts ∧ ts.length < 64 ∧ (∀ t ∈ ts, t ≠ []) ∧
    ∀ l (rs : List (Addr × List Str)), H l = none → (rs.map (·.2)).Perm ts → (∀ r ∈ rs, H r.1 = some (.tup (r.2.map V.str))) → rs.Pairwise (fun a b => HS.ltT b.2 a.2 = false) → Q (.ref l) (upd H l (.lst (rs.map fun r => V.ref r.1)))) := by
  intro pins s σ H xs us Q I r h
  obtain ⟨a, ts, rfl, ⟨kvs, hR, hk⟩, hz, hne, q⟩ := h
  obtain ⟨u, rfl, ru⟩ := vals1 r
  cases ru
  obtain ⟨hzk, lo, ys, kt, ob, es, ep, ho, hx, hdd, hes, hin, hnd⟩ := dt_rd I.hok hR
  obtain ⟨k1, k2⟩ := kt_keys kt hk
  have hl : ys.length = ts.length := by rw [← k2, List.length_map]
  have hsz : es.size = ys.length := by have := congrArg List.length hes; rw [Array.length_toList, List.length_map] at this; exact this
  have ri : Vals ((ys.map fun y => (y.2.1, y.1.map strK)).map fun r => V.ref r.1) (ys.map fun y => Value.ref y.2.1) := by
    rw [List.map_map]
    clear hes hsz hl k2 k1 kt hin hnd
    induction ys with
    | nil => exact .nil
    | cons y ys ih => exact .cons rfl ih
  refine sort_tups I ri (by rw [List.length_map]; omega) (fun r hr => ?_) (fun Q' h => ?_) fun l rs' nl hp hs => ?_
  · obtain ⟨y, hy, rfl⟩ := List.mem_map.mp hr
    exact ⟨SqT.of (k1 y hy), hne _ (by rw [← k2]; exact List.mem_map.mpr ⟨y, hy, rfl⟩)⟩
  · refine collect_src (A := X.A.in1) (I.ok.hd hc) (RD.src lo hx hdd) (fun o => Heap.get?_push_of_some _ ho) (Heap.lt_size ho) (by rw [sizeLine_eq]; omega) fun acc h1 tk hla hP k => ?_
    have e : acc = ys.map fun y => Value.ref y.2.1 := by
      apply List.ext_getElem?
      intro j
      rw [List.getElem?_map]
      cases hj : acc[j]? with
      | none =>
        have hj' : acc.length ≤ j := List.getElem?_eq_none_iff.mp hj
        rw [List.getElem?_eq_none (by omega)]
        rfl
      | some v =>
        obtain ⟨e, he, rfl⟩ := hP j v hj
        rw [← Array.getElem?_toList, hes, List.getElem?_map] at he
        cases hy : ys[j]? with
        | none => rw [hy] at he; cases he
        | some y => rw [hy] at he; cases he; rfl
    rw [e]
    exact h h1 tk k
  · refine q l rs' nl ?_ (fun r hr => ?_) hs
    · have := hp.map (·.2)
      rw [List.map_map] at this
      rw [← k2]
      exact this
    · obtain ⟨y, hy, e⟩ := List.mem_map.mp (hp.mem_iff.mp hr)
      rw [← e]
      exact k1 y hy
end
end L2
namespace L2
open PySem PySem.Spec PyProof.Rows
def minS (ts : List Str) : Str := ts.getD (argBest (fun i j => HS.ltS (ts.getD i "") (ts.getD j "")) (ts.length - 1)) ""
theorem best_le (bt : Nat → Nat → Bool) : ∀ k, argBest bt k ≤ k
  | 0 => Nat.le_refl _
  | k + 1 => by
    have ih := best_le bt k
    show (if bt (k + 1) (argBest bt k) then k + 1 else argBest bt k) ≤ k + 1
    split <;> omega
theorem minS_mem {ts : List Str} (h : ts ≠ []) : minS ts ∈ ts := by
  have hl : 0 < ts.length := List.length_pos_iff.mpr h
  have hb := best_le (fun i j => HS.ltS (ts.getD i "") (ts.getD j "")) (ts.length - 1)
  unfold minS
  rw [List.getD_eq_getElem?_getD, List.getElem?_eq_getElem (by omega)]
  exact List.getElem_mem _
theorem strs_at : ∀ {vs : List Value} {ts : List Str}, StrsAre vs ts → ∀ i v, vs[i]? = some v → ∃ t, v = Value.str (ts.getD i "") t
  | _, _, .nil, i, v, h => by simp at h
  | _, _, .cons x t r, 0, v, h => by simp at h; subst h; exact ⟨t, rfl⟩
  | _, _, .cons x t r, i + 1, v, h => by simpa using strs_at r i v (by simpa using h)
section
variable {X : Cx}
theorem call_minS (hc : X.calm = true) : CallR X (.builtin "min") (fun xs H Q => ∃ a, ∃ ts : List Str, xs = [.ref a] ∧ SqL X.K H a (ts.map V.str) ∧ ts ≠ [] ∧ Q (.str (minS ts)) H) := by
  intro pins s σ H xs us Q I r h
  obtain ⟨a, ts, rfl, hq, hne, q⟩ := h
  obtain ⟨u, rfl, ru⟩ := vals1 r
  cases ru
  obtain ⟨its, ri, pl, hz⟩ := I.list hq
  have hS : StrsAre its ts := strsAre_vals ri
  have hl : its.length = ts.length := by have := ri.length; rw [List.length_map] at this; exact this.symm
  have hp : 0 < ts.length := List.length_pos_iff.mpr hne
  have al : a < s.heap.objs.size := by obtain ⟨o, ho, _⟩ := pl.isList; exact Heap.lt_size ho
  refine call_min_walk (wpAny_pyIter_list pl.isList ?_)
  refine ⟨s.heap.objs.size, [s.heap.objs.size, a], [s.heap.objs.size], its.toArray.size, _, _, fun i j => HS.ltS (ts.getD i "") (ts.getD j ""), rfl, Walks.list (show X.A.in1.handled = none from I.ok.hd hc) _ a (Nat.ne_of_lt al) its.toArray,
    ⟨⟨_, Heap.get?_push_size _ rfl, rfl, rfl⟩, pl.isList.push _⟩, fun b hb => ?_, by rw [List.size_toArray]; omega, fun i j vi vj s' Q' E' hi hj hQ => ?_, fun v h' tk hv hk => ?_⟩
  · show b < (s.heap.push _).objs.size
    rw [Heap.size_push]
    simp at hb
    rcases hb with e | e
    · rw [e]; exact Nat.lt_succ_self _
    · rw [e]; exact Nat.lt_succ_of_lt al
  · obtain ⟨t1, rfl⟩ := strs_at hS i vi (by rw [← hi]; simp)
    obtain ⟨t2, rfl⟩ := strs_at hS j vj (by rw [← hj]; simp)
    exact lt_str hQ
  · rw [← Array.getElem?_toList] at hv
    obtain ⟨t, rfl⟩ := strs_at hS _ v hv
    have e : its.toArray.size - 1 = ts.length - 1 := by rw [List.size_toArray, hl]
    rw [e]
    have I1 : Inv X pins σ H { s with heap := h', toks := tk } := I.kept (h' := h') (t' := tk) fun b o eb => hk b o (by simp; exact Nat.ne_of_lt (Heap.lt_size eb)) (Heap.get?_push_of_some _ eb)
    exact ⟨.str (minS ts), H, I1, ⟨t, rfl⟩, q⟩
def rIndex (K : PySem.W.Frag) : V → List V → Hp → VK → Prop := fun x vs H Q => ∃ a, ∃ ts : List Str, ∃ z, x = .ref a ∧ vs = [.str z] ∧ SqL K H a (ts.map V.str) ∧ z ∈ ts ∧ ts.length ≤ 100000 ∧ Q (.int (ts.idxOf z)) H
theorem mt_index : MtR X "list.index" (rIndex X.K) := by
  intro pins s σ H x vs v us Q I rx rv h
  obtain ⟨a, ts, z, rfl, rfl, hq, hz, hn, q⟩ := h
  cases rx
  obtain ⟨u, rfl, ru⟩ := vals1 rv
  obtain ⟨t, rfl⟩ := ru
  obtain ⟨its, ri, pl, _⟩ := I.list hq
  have hS : StrsAre its ts := strsAre_vals ri
  have hl : its.length = ts.length := by have := ri.length; rw [List.length_map] at this; exact this.symm
  have hj : ts.idxOf z < ts.length := List.idxOf_lt_length_of_mem hz
  obtain ⟨⟨cls, dd, data, sl⟩, ho, hc, n, hd⟩ := id pl.isList
  simp only at hc hd
  subst hc hd
  let e : Value → Bool := fun v => match v with | .str y _ => y == z | _ => false
  have at_ : ∀ m (hm : m < its.toArray.size), e its.toArray[m] = (ts.getD m "" == z) := fun m hm => by
    obtain ⟨t', e'⟩ := strs_at hS m its.toArray[m] (by simp)
    show e its.toArray[m] = _
    rw [e']
  refine call_meets PySem.F.slot_list_index ⟨_, ho, rfl⟩ PySem.F.entry_list_index (PySem.F.args_list_index_2 _ _)
    (SeqAt.list_indexAt a its.toArray n dd sl (.str z t) e (ts.idxOf z) (by rw [List.size_toArray]; omega) (by omega) ?_ ?_) ⟨ho, fun y hy => ?_, ?_⟩
  · rw [at_, List.getD_eq_getElem?_getD, List.getElem?_eq_getElem hj]
    simp
  · intro m hm hlt
    rw [at_, List.getD_eq_getElem?_getD, List.getElem?_eq_getElem (by omega)]
    have := List.not_of_lt_findIdx (p := fun x => x == z) (xs := ts) (i := m) hlt
    simpa using this
  · obtain ⟨m, hm, rfl⟩ := List.mem_iff_getElem.mp (show y ∈ its by simpa using hy)
    obtain ⟨t', e'⟩ := strs_at hS m its[m] (List.getElem?_eq_getElem hm)
    rw [e']
    exact (eqGives_str _ _ _ _).at _ _
  · exact ⟨.int (ts.idxOf z), H, I.tok _, ⟨_, rfl⟩, q⟩
end
end L2
namespace HT
open PySem PySem.Spec PyProof.Rows
section
variable {prog : Program} {w : World} {A : Around} {E : Value → Shared → Prop} {s : Shared}
theorem getItem_whole {t sl : Addr} {items : Array Value} {vl vu : Value} {lo hi : Option Int} {Q : Value → Shared → Prop} (ht : IsTup s.heap t items) (hs : s.heap.IsSliceOf sl vl vu .none) (pl : IsPart vl lo) (pu : IsPart vu hi)
    (hw : sIx items.size 0 lo = 0 ∧ sIx items.size items.size hi = items.size) (h : Q (.ref t) s) : wpAny (model prog w) A (getItem (.ref t) (.ref sl)) Q E s := by
  obtain ⟨os, hos, hcs, hds⟩ := id hs
  have tyS : s.TypeIs (.ref sl) "slice" := ⟨os, hos, hcs⟩
  unfold getItem; try with_reducible refine wpAny_holding ?_
  first | refine wpAny_bind (wpAny_pure ?_) | skip
  refine wpAny_bind (wpAny_sequenceKey ht.typeIs (by decide) (wpAny_bind (wpAny_callSpecial?_slot (name := Str.ofString "__getitem__") ht.typeIs PyProof.Rows.slot_tuple_getitem (wpAny_call_entry PyProof.Rows.slot_tuple_getitem ht.typeIs entry_tuple_getitem ?_ (args_tuple_getitem _ _)))))
  show wpAny _ _ (Builtin.Tuple.tupleItemsOf (.ref t) >>= _) _ _ s; refine wpAny_bind (tupleItemsOf_ ht (wpAny_bind (wpAny_typeOf tyS ?_))); rw [if_pos (by decide)]
  refine wpAny_bind (sliceApplied_gen hs pl pu ?_)
  have yes : (((sIx items.size 0 lo : Nat) : Int) == 0 && (1 : Int) == 1 && (sIx items.size items.size hi - sIx items.size 0 lo) == items.size) = true := by rw [hw.1, hw.2]; simp
  show wpAny _ _ (if (((sIx items.size 0 lo : Nat) : Int) == 0 && (1 : Int) == 1 && (sIx items.size items.size hi - sIx items.size 0 lo) == items.size) = true then _ else _) _ _ s
  rw [if_pos yes]
  unfold Builtin.Tuple.tupleIsExact
  refine wpAny_bind (wpAny_bind (wpAny_typeOf ht.typeIs (wpAny_pure ?_)))
  have yes2 : ((Value.type "tuple" == Value.type "tuple") = true) := by decide
  first
    | (rw [if_pos yes2]; exact wpAny_bind (wpAny_rule (wpAny_pure ⟨_, rfl, wpAny_pure h⟩)))
    | (rw [if_pos yes2]; exact wpAny_bind (wpAny_rule (wpAny_bind (wpAny_pure (wpAny_pure ⟨_, rfl, wpAny_pure h⟩)))))
    | (simp only [yes2, if_true]; exact wpAny_rule (wpAny_pure ⟨_, rfl, wpAny_pure h⟩))
end
end HT
namespace L2
open PySem PySem.Spec PyProof.Rows
theorem cut_whole {xs : List V} {lo hi : Option Int} (h : HT.sIx xs.length 0 lo = 0 ∧ HT.sIx xs.length xs.length hi = xs.length) : cutV xs lo hi = xs := by
  unfold cutV
  rw [h.1, h.2]
  simp
section
variable {X : Cx}
theorem sl_tupH : SlR X (fun x lo hi H Q => ∃ a xs, x = .ref a ∧ H a = some (.tup xs) ∧ ∀ p H', Same H H' → H' p = some (.tup (cutV xs lo hi)) → Q (.ref p) H') := by
  intro pins s σ H x v vl vu lo hi sl Q I rx hs pl pu h
  obtain ⟨a, xs, rfl, hx, q⟩ := h
  by_cases hw : HT.sIx xs.length 0 lo = 0 ∧ HT.sIx xs.length xs.length hi = xs.length
  · cases rx
    obtain ⟨its, r, ht, hz⟩ := I.tuple (SqT.of hx)
    have hlen : its.toArray.size = xs.length := by rw [List.size_toArray]; exact r.length.symm
    refine ⟨"tuple", _, PyProof.Rows.slot_tuple_getitem.lookup, ht.typeIs, ?_⟩
    refine HT.getItem_whole ht hs pl pu (by rw [hlen]; exact hw) ?_
    exact ⟨.ref a, H, I, rfl, q a H (Same.refl H) (by rw [cut_whole hw]; exact hx)⟩
  · exact sl_tup pins s σ H (.ref a) v vl vu lo hi sl Q I rx hs pl pu ⟨a, xs, rfl, SqT.of hx, hw, fun p np => q p _ (Same.new np _) upd_same⟩
end
end L2
namespace L2
open PySem PySem.Spec PyProof.Rows
section
variable {X : Cx}
end
end L2
namespace HD
open PySem
section
variable {prog : Program} {w : World} {A : Around} {E : Value → Shared → Prop} {s : Shared}
theorem keys_list {a : Addr} {o : Obj} {xs : Array Value} {k : Nat} {Q : Option Value → Shared → Prop} (gx : s.heap.get? a = some o) (hc : o.cls = .type "list") (hdat : o.data = .seq xs k) (hd : o.dict = none) (hA : A.handled = none)
    (h : ∀ h' tk, (∀ b o, s.heap.get? b = some o → h'.get? b = some o) → Q none { s with heap := h', toks := tk }) : wpAny (model prog w) A (getAttr? (.ref a) "keys") Q E s := by
  obtain ⟨c, dct, dat, sl⟩ := o
  simp only at hc hdat hd
  subst hc hdat hd
  obtain ⟨hp, gg, dd, tk, oo⟩ := s
  have tyT : ∀ tz, (⟨hp, gg, dd, tz, oo⟩ : Shared).TypeIs (.ref a) "list" := fun _ => ⟨_, gx, rfl⟩
  have u1 := sub_AttributeError
  have u3 := F.slot_list_getattribute.lookup
  have u4 := F.slot_list_getattribute.bind (.ref a)
  have u5 := am_list_getattr_none
  unfold getAttr? getAttrBy? getAttrBy
  repeat (any_goals (first | assumption | exact tyT _ | ((with_reducible show wpAny _ _ (call (Value.builtin "list.__getattribute__") _ _) _ _ _); refine call_meets F.slot_list_getattribute (tyT _) am_entry_list_getattribute (F.args_list_getattribute_2 _ _) (meets_getattribute_miss_list a xs k sl "keys" _ no_keysL (by decide) (by size_fits)) ⟨gx, hA, fun h' tz e gx' => ?_⟩) | wp_step))
  obtain ⟨t', u', he⟩ := gx'.there
  show wpAny _ _ (getattributeRaised _ _ _ _ _ _ _) _ _ _
  unfold getattributeRaised
  repeat (any_goals (first | assumption | wp_step))
  exact h h' tz gx'.of.keeps
end
end HD
namespace HD
open PySem
section
variable {prog : Program} {w : World} {A : Around} {E : Value → Shared → Prop} {s : Shared} {K : Type} [DecidableEq K] {knd : KeyKind prog w K}
structure StL (knd : KeyKind prog w K) (h0 : Heap) (its : List Value) (kvs : List (K × Value)) (a d it : Addr) (i : Nat) (h : Heap) : Prop where
  tup : h.IsList a its.toArray
  iter : h.IsListIter it a i
  dict : h.DictOf knd d (merged [] (kvs.take i))
  keep : ∀ b o, b ≠ d → b ≠ it → h0.get? b = some o → h.get? b = some o
theorem list_same {h h' : Heap} {a d : Addr} {xs : Array Value} (ht : h.IsList a xs) (hs : Heap.SameBut d h h') (hne : a ≠ d) : h'.IsList a xs := by
  obtain ⟨o, ho, r⟩ := ht
  exact ⟨o, (hs.2 a hne).trans ho, r⟩
theorem iter_sameL {h h' : Heap} {a d it : Addr} {i : Nat} (ht : h.IsListIter it a i) (hs : Heap.SameBut d h h') (hne : it ≠ d) : h'.IsListIter it a i := by
  obtain ⟨o, ho, r⟩ := ht
  exact ⟨o, (hs.2 it hne).trans ho, r⟩
theorem upd_loopL {its : List Value} {kvs : List (K × Value)} {a d it : Addr} {h0 : Heap} {R : Result → Shared → Prop} (hh : A.handled = none) (hP : PairsAt knd h0 its kvs) (hd : a ≠ d) (hit : a ≠ it) (hdi : d ≠ it) (hz : its.length ≤ 1000)
    (hd0 : h0.get? d = none) (hi0 : h0.get? it = none) (hml : ∀ i, (merged [] (kvs.take i)).length ≤ 1000)
    (hR : ∀ h tk, h.DictOf knd d (merged [] kvs) → (∀ b o, b ≠ d → b ≠ it → h0.get? b = some o → h.get? b = some o) → R (.ok (.ret .none)) { s with heap := h, toks := tk }) :
    ∀ (m i : Nat) (h : Heap) (tk : Nat), its.length - i = m → i ≤ its.length → StL knd h0 its kvs a d it i h → codeAny (model prog w) A (.builtin "dict.update.loop" ⟨[.ref d, .ref it, rawInt (i : Int), .none], []⟩) R { s with heap := h, toks := tk } := by
  intro m
  induction m with
  | zero =>
    intro i h tk hm hi st
    refine codeAny_builtin entry_loop ?_
    rw [Around.under_plainId plain_loop _]
    show wpAny _ A.in1 (pyNext (.ref it) >>= _) _ _ _
    refine wpAny_bind (wpAny_pyNext_list_end hh st.iter st.tup (by simp; omega) fun h' hk' => ?_)
    dsimp only
    refine wpAny_bind (m := Builtin.Dict.addKeywords d []) (wpAny_pure (wpAny_pure (hR h' _ ?_ ?_)))
    · have e : kvs.take i = kvs := List.take_of_length_le (by have := hP.1; omega)
      have := st.dict
      rw [e] at this
      exact this.extBut hk' hdi
    · intro b o n1 n2 e
      exact hk' b o n2 (st.keep b o n1 n2 e)
  | succ m ih =>
    intro i h tk hm hi st
    refine codeAny_builtin entry_loop ?_
    rw [Around.under_plainId plain_loop _]
    have hlt : i < its.length := by omega
    have hlk : i < kvs.length := by have := hP.1; omega
    have hgi : its[i]? = some its[i] := List.getElem?_eq_getElem hlt
    have hgk : kvs[i]? = some kvs[i] := List.getElem?_eq_getElem hlk
    obtain ⟨b, ob, key, n, ev, hb, hbc, hbd, hkey⟩ := hP.2 i _ _ hgi hgk
    have nb1 : b ≠ d := fun z => by rw [z, hd0] at hb; cases hb
    have nb2 : b ≠ it := fun z => by rw [z, hi0] at hb; cases hb
    show wpAny _ A.in1 (pyNext (.ref it) >>= _) _ _ _
    refine wpAny_bind (wpAny_pyNext_list_item (x := its[i]) st.iter st.tup (by simp [hlt]) fun h1 hI1 hs1 => ?_)
    rw [ev]
    dsimp only
    have hb1 : h1.get? b = some ob := (hs1.2 b nb2).trans (st.keep b ob nb1 nb2 hb)
    have ty : ∀ tk', Shared.TypeIs ⟨h1, s.gens, s.drawn, tk', s.os⟩ (.ref b) "tuple" := fun _ => ⟨ob, hb1, hbc⟩
    have hD1 : h1.DictOf knd d (merged [] (kvs.take i)) := by
      have := st.dict
      obtain ⟨o, es, ep, ho, r⟩ := this
      exact ⟨o, es, ep, (hs1.2 d hdi).trans ho, r⟩
    refine wpAny_bind (wpAny_holding (wpAny_bind (wpAny_tryCatch ?_)))
    unfold Builtin.Dict.pairItems
    refine wpAny_bind (wpAny_typeOf (ty _) ?_)
    rw [if_pos (by decide)]
    refine wpAny_bind (wpAny_seqItems hb1 hbd (wpAny_pure ?_))
    show wpAny _ _ (holding [key, kvs[i].2] (dictSet d key kvs[i].2)) _ _ _
    refine wpAny_holding (wpAny_dictSet_pairs hkey hD1 (fun h2 hd2 hs2 => ?_) (by have := hml i; rw [sizeLine_eq]; omega))
    refine wpAny_pure ⟨plainId_quiet plain_loop _, ih (i + 1) h2 _ (by omega) (by omega) ⟨?_, ?_, ?_, ?_⟩⟩
    · obtain ⟨o, ho, r⟩ := st.tup
      exact list_same ⟨o, (hs1.2 a hit).trans ho, r⟩ hs2 hd
    · exact iter_sameL hI1 hs2 hdi.symm
    · rw [merged_take_succ [] kvs i kvs[i] hgk]
      exact hd2
    · intro b' o' n1 n2 e
      exact (hs2.2 b' n1).trans ((hs1.2 b' n2).trans (st.keep b' o' n1 n2 e))
theorem call_dictL {a : Addr} {o : Obj} {its : List Value} {n : Nat} {kvs : List (K × Value)} {Q : Value → Shared → Prop} (hh : A.handled = none) (ho : s.heap.get? a = some o) (hc : o.cls = .type "list") (hdat : o.data = .seq its.toArray n) (hdn : o.dict = none)
    (hP : PairsAt knd s.heap its kvs) (hz : its.length ≤ 1000)
    (h : ∀ h' tk, h'.DictOf knd s.heap.objs.size (merged [] kvs) → (∀ b o, s.heap.get? b = some o → h'.get? b = some o) → Q (.ref s.heap.objs.size) { s with heap := h', toks := tk }) :
    wpAny (model prog w) A (call (.type "dict") [.ref a]) Q E s := by
  refine callType_codes (Q₁ := fun ob1 s₁ => ob1 = .ref s.heap.objs.size ∧ s₁ = { s with heap := s.heap.push { cls := .type "dict", data := .dict #[] } }) F.kt_called_dict (F.kt_typeCall_dict_1 _) F.entry_dict_init (kt_code_dict_new _ ⟨rfl, rfl⟩) ?_
  rintro ob1 s₁ ⟨rfl, rfl⟩
  have fresh0 : (s.heap.push { cls := .type "dict", data := .dict #[] }).DictOf knd s.heap.objs.size [] := Heap.DictOf.new s.heap
  have hsz1 : (s.heap.push { cls := .type "dict", data := .dict #[] }).objs.size = s.heap.objs.size + 1 := Heap.size_push ..
  have al : a < s.heap.objs.size := Heap.lt_size ho
  have hoa : (s.heap.push { cls := .type "dict", data := .dict #[] }).get? a = some o := Heap.get?_push_of_some _ ho
  refine ⟨fresh0.typeIs, F.args_dict_init_2 _ _, ?_⟩
  unfold Builtin.«dict.__init__»
  refine wpAny_bind ?_
  unfold Builtin.Dict.selfAndRest
  refine wpAny_bind (wpAny_notOrdered_dict fresh0.typeIs ?_)
  show wpAny _ _ (pure (s.heap.objs.size, [Value.ref a])) _ _ _
  refine wpAny_pure ?_
  show wpAny _ _ (Builtin.Dict.updateFrom "dict.__init__" s.heap.objs.size (.ref a) [] .none) _ _ _
  unfold Builtin.Dict.updateFrom
  refine wpAny_bind (wpAny_typeOf (T := "list") ⟨o, hoa, hc⟩ ?_)
  rw [if_pos (by decide)]
  refine wpAny_bind (keys_list hoa hc hdat hdn hh fun h2 tk2 k2 => ?_)
  rw [if_pos (show (none : Option Value).isNone = true from rfl)]
  refine wpAny_bind (wpAny_rule ?_)
  have ht2 : h2.IsList a its.toArray := ⟨o, k2 a o hoa, hc, n, hdat⟩
  refine wpAny_bind (wpAny_pyIter_list ht2 ?_)
  obtain ⟨od, _, _, hod, _⟩ := id fresh0
  have dl : s.heap.objs.size < h2.objs.size := Heap.lt_size (k2 _ _ hod)
  have e0 : rawInt 0 = rawInt ((0 : Nat) : Int) := rfl
  rw [e0]
  refine wpAny_pure ⟨plainId_quiet plain_loop _, upd_loopL (A := A.in1) (s := s) (knd := knd) (h0 := s.heap) (kvs := kvs) (its := its) (a := a) hh hP (Nat.ne_of_lt al) (Nat.ne_of_lt (Nat.lt_trans al dl)) (Nat.ne_of_lt dl) hz (Heap.get?_none_of_le (Nat.le_refl _)) (Heap.get?_none_of_le (Nat.le_of_lt dl))
    (fun i => ?_) (fun h' tk hD hk => ⟨rfl, h h' tk hD fun b ob e => hk b ob (Nat.ne_of_lt (Heap.lt_size e)) (Nat.ne_of_lt (Nat.lt_trans (Heap.lt_size e) dl)) e⟩) its.length 0 _ _ (by simp) (Nat.zero_le _) ⟨?_, ?_, ?_, ?_⟩⟩
  · have e1 := merged_length_le ([] : List (K × Value)) (kvs.take i)
    have e2 : (kvs.take i).length ≤ kvs.length := by rw [List.length_take]; omega
    have e3 := hP.1
    simp only [List.length_nil] at e1
    omega
  · exact Heap.IsList.push ht2 _
  · exact ⟨_, Heap.get?_push_size _ rfl, rfl, rfl⟩
  · rw [List.take_zero]
    have hd2 : h2.DictOf knd s.heap.objs.size [] := by
      obtain ⟨o', es, ep, ho', r⟩ := id fresh0
      exact ⟨o', es, ep, k2 _ _ ho', r⟩
    exact hd2.push _
  · intro b ob _ _ e
    exact Heap.get?_push_of_some _ (k2 b ob (Heap.get?_push_of_some _ e))
end
end HD
namespace L2
open PySem PySem.Spec PyProof.Rows
section
variable {X : Cx}
theorem call_dictLs (hc : X.calm = true) : CallR X (.type "dict") (fun xs H Q => ∃ a ys kvs, xs = [.ref a] ∧ H a = some (.lst ys) ∧ PairsV X.K H ys kvs ∧ ys.length ≤ 1000 ∧ ∀ p, H p = none → Q (.ref p) (upd H p (.dK (mergeK [] kvs)))) := by
  intro pins s σ H xs us Q I r h
  obtain ⟨a, ys, kvs, rfl, hH, hp, hz, q⟩ := h
  obtain ⟨u, rfl, ru⟩ := vals1 r
  cases ru
  obtain ⟨z, its, n, ri, hl, ho⟩ := I.lstM hH
  obtain ⟨vs, kv, hP⟩ := pairs_at I hp ri
  have lk : kvs.length ≤ 1000 := by
    have e1 := KV.length kv
    have e2 := hP.1
    omega
  refine HD.call_dictL (I.ok.hd hc) ho rfl rfl rfl hP (by omega) fun h' tk hD k => ?_
  have hm := length_mergeK kvs []
  have I2 : Inv X pins σ (upd H s.heap.objs.size (.dK (mergeK [] kvs))) { s with heap := h', toks := tk } := by
    refine I.laid (h' := h') (t' := tk) (o := .dK (mergeK [] kvs)) k (Nat.le_refl _) ⟨by rw [sizeLine_eq]; simp only [List.length_nil] at hm; omega, beq_eq_false_iff_ne.mpr (Ne.symm (Nat.ne_of_lt I.big)), merged [] vs, KV.merge kv .nil, hD⟩
  exact ⟨.ref s.heap.objs.size, _, I2, rfl, q _ I.fresh⟩
end
end L2
namespace HZ
open PySem PySem.Builtin
theorem meets_enumT (l : Addr) (xs : Array Value) : Meets (Builtin.«enumerate.__new__» ⟨[.type "enumerate", .ref l], []⟩) (fun _ R s => s.heap.IsTuple l xs ∧
      R (.ok (.ret (.ref (s.heap.push { cls := .type "tuple_iterator", data := .fields #[.ref l, .int 0 0] }).objs.size)))
        { s with heap := (s.heap.push { cls := .type "tuple_iterator", data := .fields #[.ref l, .int 0 0] }).push { cls := .type "enumerate", data := .fields #[.none, .bool false, .ref s.heap.objs.size, rawInt 0, .none, .none] } }) :=
  .of_wp fun prog w A R s h => by
    obtain ⟨hp, g, d, tk, os⟩ := s; obtain ⟨hl, h⟩ := h
    have hsub := sub_enumerate
    have hL : Heap.IsTuple (Shared.heap ⟨hp, g, d, tk, os⟩) l xs := hl
    wp_walk
    refine wpAny_stack_any fun st => wpAny_pure ?_
    split
    · rename_i c _ _ _ _ _
      cases (c == Value.type "enumerate")
      · wp_walk using wpAny_pyIter_tuple hL
        exact ⟨_, rfl, h⟩
      · wp_walk using wpAny_pyIter_tuple hL
        exact ⟨_, rfl, h⟩
    · wp_walk using wpAny_pyIter_tuple hL
      exact ⟨_, rfl, h⟩
end HZ
namespace HZ
open PySem PySem.Builtin
theorem drawsT {prog : Program} {w : World} {A : Around} (hh : A.handled = none) (it l : Addr) (hne : l ≠ it) (items : Array Value) :
    Draws prog w A it [it, l] items.size (fun i v => items[i]? = some v) (fun i h => h.IsTupleIter it l i ∧ h.IsTuple l items) where
  live := fun _ _ st => let ⟨o, ho, _⟩ := st.1; ⟨o, ho⟩
  frame := fun _ _ _ st hk => ⟨itAt st.1 fun o e => hk it (by simp) o e, tpAt st.2 fun o e => hk l (by simp) o e⟩
  item := fun i s Q E hi st hQ => by
    refine turn_item st.1 st.2 (x := items[i]) (by simp [hi]) fun h' hit' hs' => ?_
    exact hQ _ h' s.toks (by simp [hi]) ⟨hit', tpAt st.2 fun o e => sb hs' hne e⟩ hs'
  done := fun s Q E st hE => turn_end hh st.1 st.2 (by simp) hE
section
variable {prog : Program} {w : World} {A : Around} {E : Value → Shared → Prop} {s : Shared}
theorem next_enum_end {e it p : Addr} {k : Nat} {i : Int} {xs : Array Value} {old : Value} {Q : Option Value → Shared → Prop} (hh : A.handled = none) (he : IsEnum s.heap e it i old) (hc : s.heap.IsTupleIter it p k) (hp : s.heap.IsTuple p xs) (hx : xs[k]? = none)
    (hQ : ∀ h', Heap.ExtBut it s.heap h' → Q none { s with heap := h' }) : wpAny (model prog w) A (pyNext (.ref e)) Q E s := by
  have hT : s.TypeIs (.ref e) "enumerate" := ⟨_, he, rfl⟩
  unfold pyNext
  refine wpAny_bind (wpAny_attempt (wpAny_callSpecial?_slot (name := Str.ofString "__next__") hT F.slot_enumerate_next
    (wpAny_call_entry F.slot_enumerate_next hT F.entry_enumerate_next ?_ (F.args_enumerate_next_1 _))))
  show wpAny _ _ (field (.ref e) 2 >>= _) _ _ _
  refine wpAny_bind (wpAny_field he rfl (x := .ref it) rfl ?_)
  refine wpAny_bind (turn_end hh hc hp hx fun h' x he' hx' => ?_)
  obtain ⟨o, ho, hc⟩ := hx'
  refine wpAny_bind (wpAny_isInstance (T := "StopIteration") (b := true) ⟨o, ho, hc⟩ isSubtype_stop ?_)
  exact wpAny_pure (hQ _ he')
theorem call_enumT {l : Addr} {items : Array Value} {Q : Value → Shared → Prop} (hL : s.heap.IsTuple l items)
    (h : ∀ h', IsEnum h' (s.heap.objs.size + 1) s.heap.objs.size 0 .none → h'.IsTupleIter s.heap.objs.size l 0 → h'.objs.size = s.heap.objs.size + 2 →
      (∀ b o, s.heap.get? b = some o → h'.get? b = some o) → Q (.ref (s.heap.objs.size + 1)) { s with heap := h' }) :
    wpAny (model prog w) A (call (.type "enumerate") [.ref l]) Q E s := by
  refine callType_new F.called_enumerate (by decide) (F.typeCall_enumerate_1 _) (F.newCall_enumerate_1 _) (fun obj => F.args_object_init_2 obj _) F.entry_enumerate_new (meets_enumT l items) ⟨hL, ?_⟩
  have hz : (s.heap.push { cls := .type "tuple_iterator", data := .fields #[.ref l, .int 0 0] }).objs.size = s.heap.objs.size + 1 := Heap.size_push ..
  show _ ∧ _
  rw [hz]
  have he : IsEnum ((s.heap.push { cls := .type "tuple_iterator", data := .fields #[.ref l, .int 0 0] }).push
      { cls := .type "enumerate", data := .fields #[.none, .bool false, .ref s.heap.objs.size, rawInt 0, .none, .none] }) (s.heap.objs.size + 1) s.heap.objs.size 0 .none := by
    have := Heap.get?_push_size (s.heap.push { cls := .type "tuple_iterator", data := .fields #[.ref l, .int 0 0] })
      (o := { cls := .type "enumerate", data := .fields #[.none, .bool false, .ref s.heap.objs.size, rawInt 0, .none, .none] }) rfl
    rw [hz] at this; exact this
  refine ⟨⟨_, he, rfl⟩, h _ he ⟨_, Heap.get?_push_of_some _ (Heap.get?_push_size _ rfl), rfl, rfl⟩ (by rw [Heap.size_push, hz]) fun b o x => Heap.get?_push_of_some _ (Heap.get?_push_of_some _ x)⟩
end
end HZ
namespace L2
open PySem PySem.Spec PyProof.Rows
section
variable {X : Cx}
def IteT (K : PySem.W.Frag) (a : Addr) : It :=
  ⟨fun i H => ∃ xs x, SqT K H a xs ∧ xs[i]? = some x, fun i H x H' => ∃ p y, H p = none ∧ (∀ xs, SqT K H a xs → xs[i]? = some y) ∧ x = .ref p ∧ H' = upd H p (.tup [.int i, y]), fun i H => ∃ xs, SqT K H a xs ∧ xs.length ≤ i⟩
theorem turn_enumT {P : Program} {w : World} {K : PySem.W.Frag} {es : List Expr} {kt : Nat} {tp : Pos} (a e it : Addr) (hne : e ≠ it) :
    Turn P w K (.Tuple es kt tp) (IteT K a) [e, it] e (fun i h => (∃ old, IsEnum h e it i old) ∧ h.IsTupleIter it a i) where
  mem := by simp
  obj := fun i h st b hb => by
    obtain ⟨⟨old, he⟩, o, ho, _, hd⟩ := st
    rcases List.mem_cons.mp hb with rfl | hb
    · exact ⟨_, he, fun v z => by cases z⟩
    · obtain rfl := List.mem_singleton.mp hb
      exact ⟨o, ho, fun v z => by rw [hd] at z; cases z⟩
  keep := fun i h h' st k => by
    obtain ⟨⟨old, he⟩, o, ho, r⟩ := st
    exact ⟨⟨old, k e (by simp) _ he⟩, o, k it (by simp) o ho, r⟩
  item := by
    intro X hP hw hK hc i pins s σ H E I hf st hg
    subst hP hw hK
    obtain ⟨⟨old, he⟩, hit⟩ := st
    obtain ⟨xs, y, hq, hy⟩ := hg
    obtain ⟨its, rv, pl, hz⟩ := I.tuple hq
    obtain ⟨u, hu, ru⟩ := rv.get hy
    obtain ⟨e0, e1, e2, e3, e4, e5⟩ := hf e (by simp)
    obtain ⟨i0, i1, i2, i3, i4, i5⟩ := hf it (by simp)
    have pt : s.heap.IsTuple a its.toArray := pl
    have hai : a ≠ it := fun z => by obtain ⟨o1, g1, c1, _⟩ := hit; obtain ⟨o2, g2, c2, _⟩ := pt; rw [z, g1] at g2; cases g2; rw [c1] at c2; exact absurd c2 (by decide)
    have hae : e ≠ a := fun z => by obtain ⟨o2, g2, c2, _⟩ := pt; rw [← z, he] at g2; cases g2; injection c2 with c2; exact absurd c2 (by decide)
    refine wpAny_pyNext_enum_itemD (HZ.drawsT (A := X.A.in1) (show X.A.in1.handled = none from I.ok.hd hc) it a hai its.toArray) he ⟨hit, pt⟩ (by rw [List.size_toArray, ← rv.length]; exact (List.getElem?_eq_some_iff.mp hy).1) hne (by simp [hne, hae]) fun x' h' tk hx' ho hit' ht hz' kk => ?_
    obtain ⟨hit', _⟩ := hit'
    have ex : u = x' := by rw [List.getElem?_toArray] at hx'; exact Option.some.inj (hu.symm.trans hx')
    subst ex
    refine ⟨.ref s.heap.objs.size, rfl, ?_⟩
    refine wpAny_letOwnedTupleGo_enum ho fun h2 he2 sb2 => ?_
    have hpe : s.heap.objs.size ≠ e := Nat.ne_of_gt (Heap.lt_size he)
    have hit2 : h2.IsTupleIter it a (i + 1) := by
      obtain ⟨o, q1, q2⟩ := hit'
      exact ⟨o, by rw [sb2.2 it (Ne.symm hne)]; exact q1, q2⟩
    have ht2 : h2.get? s.heap.objs.size = some { cls := .type "tuple", data := .seq #[.int i tk, u] } := by rw [sb2.2 _ hpe]; exact ht
    have k2 : ∀ b o, b ≠ e → b ≠ it → s.heap.get? b = some o → h2.get? b = some o := fun b o b1 b2 q => by rw [sb2.2 b b1]; exact kk b o b1 b2 q
    obtain ⟨oi, gi, ri⟩ := id hit2
    obtain ⟨oi0, gi0, _⟩ := id hit
    have fi : oi.isFreed = false := (Heap.get?_some_iff.mp gi).2
    have fe : ({ cls := .type "enumerate", dict := none, data := .fields #[.none, .bool false, .ref it, rawInt ((i : Int) + 1), .none, u], slots := #[] } : Obj).isFreed = false := rfl
    have I1 : Inv X pins σ H { s with heap := s.heap.update it fun _ => oi } := I.turned (t' := s.toks) (fun b o hb q => by rw [Heap.get?_update_other _ _ (Ne.symm hb)]; exact q) i0 i1 i3 i4 i5
    have ge1 : (s.heap.update it fun _ => oi).get? e = some _ := (Heap.get?_update_other _ _ (Ne.symm hne)).trans he
    have I2 : Inv X pins σ H { s with heap := (s.heap.update it fun _ => oi).update e fun _ => { cls := .type "enumerate", dict := none, data := .fields #[.none, .bool false, .ref it, rawInt ((i : Int) + 1), .none, u], slots := #[] } } :=
      I1.turned (t' := s.toks) (fun b o hb q => by rw [Heap.get?_update_other _ _ (Ne.symm hb)]; exact q) e0 e1 e3 e4 e5
    have sz : ((s.heap.update it fun _ => oi).update e fun _ => { cls := .type "enumerate", dict := none, data := .fields #[.none, .bool false, .ref it, rawInt ((i : Int) + 1), .none, u], slots := #[] }).objs.size = s.heap.objs.size := by
      rw [(Heap.SameBut.update _ _ _).1, (Heap.SameBut.update _ _ _).1]
    have I3 : Inv X pins σ (upd H s.heap.objs.size (.tup [.int i, y])) { s with heap := h2, toks := tk + 1 } := by
      refine I2.laid (t' := tk + 1) (o := .tup [.int i, y]) (fun b o q => ?_) (Nat.le_of_eq sz) ⟨by show 2 ≤ sizeLine; decide, [.int i tk, u], .cons ⟨_, rfl⟩ (.cons ru .nil), ?_⟩
      · by_cases hbe : b = e
        · subst hbe
          rw [Heap.get?_update_self _ ge1 fe] at q
          rw [← Option.some.inj q]
          exact he2
        · rw [Heap.get?_update_other _ _ (Ne.symm hbe)] at q
          by_cases hbi : b = it
          · subst hbi
            rw [Heap.get?_update_self _ gi0 fi] at q
            rw [← Option.some.inj q]
            exact gi
          · rw [Heap.get?_update_other _ _ (Ne.symm hbi)] at q
            exact k2 b o hbe hbi q
      · exact ⟨⟨_, ht2, rfl, _, rfl⟩, _, ht2, rfl⟩
    have hn0 : H s.heap.objs.size = none := I.fresh
    refine ⟨.ref s.heap.objs.size, _, I3, rfl, ⟨_, y, hn0, fun ys hys => by rw [I.tuple_inj hys hq]; exact hy, rfl, rfl⟩, ⟨⟨u, he2⟩, hit2⟩, fun b hb => ?_⟩
    have hbp : b ≠ s.heap.objs.size := by
      rcases List.mem_cons.mp hb with rfl | hb
      · exact Nat.ne_of_lt (Heap.lt_size he)
      · obtain rfl := List.mem_singleton.mp hb
        exact Nat.ne_of_lt (Heap.lt_size gi0)
    rw [upd_ne hbp]
    exact (hf b hb).1
  done := by
    intro X hP hw hK hc i pins s σ H E I hf st hg
    subst hP hw hK
    obtain ⟨⟨old, he⟩, hit⟩ := st
    obtain ⟨xs, hq, hle⟩ := hg
    obtain ⟨its, rv, pl, hz⟩ := I.tuple hq
    obtain ⟨i0, i1, i2, i3, i4, i5⟩ := hf it (by simp)
    refine HZ.next_enum_end (I.ok.hd hc) he hit (show s.heap.IsTuple a its.toArray from pl) (by have := rv.length; simp; omega) fun h' kk => ⟨rfl, ?_⟩
    exact I.turned (t' := s.toks) (fun b o hb q => kk b o hb q) i0 i1 i3 i4 i5
  self := fun A i s Q E st h => by
    obtain ⟨⟨old, he⟩, _⟩ := st
    exact wpAny_pyIter_enum he h
def iEnumT (K : PySem.W.Frag) (tl : TE) : TI := fun σ H R => tl σ H fun x H1 => ∃ a, x = .ref a ∧ (∃ xs, SqT K H1 a xs) ∧ R (IteT K a) H1
theorem pi_enumT {l : Expr} {tl : TE} {es : List Expr} {kt : Nat} {tp p pos : Pos} (hl : PE X l tl) (hg : Gl X "enumerate") (hm : X.mg "enumerate" = none) (hs : starEach [l] X.env = [(false, eval l X.env)] := by rfl) :
    PI X (.Tuple es kt tp) (.Call (.Name "enumerate" p) [l] [] pos) (iEnumT X.K tl) := by
  intro pins s σ H R I h
  refine Call_ (ld_blt I hg hm boot_enumerate (PyProof.Rows.callWith_type1 ?_ hs rfl))
  rw [hs]
  show wpAny _ _ (spliced ((false, eval l X.env) :: [])) _ _ s
  refine Calls.spliced_cons (thn (hl pins s σ H _ I h) fun v s1 ⟨x, H1, I1, r1, q1⟩ => Calls.spliced_nil ?_)
  obtain ⟨a, e, ⟨xs, hq⟩, q⟩ := q1
  subst e
  cases r1
  obtain ⟨its, rv, pl, hz⟩ := I1.tuple hq
  refine HZ.call_enumT (show s1.heap.IsTuple a its.toArray from pl) fun h' he hit hsz kk => ?_
  refine wpAny_pyIter_enum he ?_
  have I2 : Inv X pins σ H1 { s1 with heap := h' } := I1.kept (t' := s1.toks) kk
  refine ⟨s1.heap.objs.size + 1, [s1.heap.objs.size + 1, s1.heap.objs.size], _, _, H1, rfl, I2, turn_enumT a _ _ (Nat.succ_ne_self _), ⟨⟨_, he⟩, hit⟩, fun b hb => ?_, q⟩
  rcases List.mem_cons.mp hb with rfl | hb
  · exact I1.fpOk (Nat.le_succ _) (I1.hok.fresh (Nat.le_succ _))
  · obtain rfl := List.mem_singleton.mp hb
    exact I1.fpOk (Nat.le_refl _) (I1.hok.fresh (Nat.le_refl _))
theorem for_enumT {K : PySem.W.Frag} {a : Addr} {xs : List V} {g : TG} {tb : TS} {D : Ends} {σ : St} {H : Hp} (Pv : Nat → St → Hp → Prop) (h0 : Pv 0 σ H) (hl : ∀ i σ H, i ≤ xs.length → Pv i σ H → SqT K H a xs)
    (hs : ∀ i x p σ H, xs[i]? = some x → H p = none → Pv i σ H → g (.ref p) σ (upd H p (.tup [.int i, x])) fun σ2 H2 => tb { D with nx := Pv (i + 1), ct := Pv (i + 1), bk := D.nx } σ2 H2) (hd : ∀ σ H, Pv xs.length σ H → D.nx σ H) :
    ∃ W : Nat → Nat → St → Hp → Prop, (∃ m, W 0 m σ H) ∧ ∀ i m σ H, W i m σ H →
      ((IteT K a).stop i H ∧ D.nx σ H) ∨ ((IteT K a).go i H ∧ ∃ N : St → Hp → Prop, (∀ σ' H', N σ' H' → ∃ m', m' < m ∧ W (i + 1) m' σ' H') ∧ ∀ x H', (IteT K a).yld i H x H' → g x σ H' fun σ2 H2 => tb { D with nx := N, ct := N, bk := D.nx } σ2 H2) := by
  refine ⟨fun i m σ H => m = xs.length - i ∧ i ≤ xs.length ∧ Pv i σ H, ⟨xs.length, by simp, Nat.zero_le _, h0⟩, ?_⟩
  rintro i m σ H ⟨rfl, hi, p⟩
  have q := hl i σ H hi p
  by_cases hlt : i < xs.length
  · refine .inr ⟨⟨xs, xs[i], q, by simp [hlt]⟩, Pv (i + 1), fun σ' H' p' => ⟨xs.length - (i + 1), by omega, rfl, hlt, p'⟩, fun x H' y => ?_⟩
    obtain ⟨pp, v, hn, hv, rfl, rfl⟩ := y
    exact hs i v pp σ H (hv xs q) hn p
  · have e : i = xs.length := by omega
    subst e
    exact .inl ⟨⟨xs, q, Nat.le_refl _⟩, hd σ H p⟩
end
end L2
namespace Mi
open PySem L2
abbrev Rw := Str × Str
def val (G : List Rw) (n : Str) : Option Str := (G.find? fun p => decide (p.1 = n)).map (·.2)
theorem val_nil (n : Str) : val [] n = none := rfl
theorem val_cons (p : Rw) (G : List Rw) (n : Str) : val (p :: G) n = if p.1 = n then some p.2 else val G n := by
  unfold val
  rw [List.find?_cons]
  by_cases h : p.1 = n
  · rw [if_pos h]; simp [h]
  · rw [if_neg h]; simp [h]
theorem val_none {G : List Rw} {n : Str} : val G n = none ↔ n ∉ G.map (·.1) := by
  induction G with
  | nil => simp [val_nil]
  | cons p G ih =>
    rw [val_cons, List.map_cons, List.mem_cons, not_or]
    by_cases h : p.1 = n
    · rw [if_pos h]; simp [h]
    · rw [if_neg h, ih]
      exact ⟨fun z => ⟨fun e => h e.symm, z⟩, fun z => z.2⟩
theorem val_mem {G : List Rw} {n m : Str} (h : val G n = some m) : (n, m) ∈ G := by
  induction G with
  | nil => cases h
  | cons p G ih =>
    rw [val_cons] at h
    by_cases e : p.1 = n
    · rw [if_pos e] at h
      cases h
      subst e
      exact List.mem_cons_self ..
    · rw [if_neg e] at h
      exact List.mem_cons_of_mem _ (ih h)
theorem val_of {G : List Rw} (nd : (G.map (·.1)).Nodup) {r : Rw} (h : r ∈ G) : val G r.1 = some r.2 := by
  induction G with
  | nil => cases h
  | cons p G ih =>
    rw [List.map_cons, List.nodup_cons] at nd
    rw [val_cons]
    rcases List.mem_cons.mp h with e | h
    · subst e; rw [if_pos rfl]
    · rw [if_neg fun e => nd.1 (by rw [e]; exact List.mem_map.mpr ⟨r, h, rfl⟩), ih nd.2 h]
def stopF (G : List Rw) : Nat → List Str → Str → Str
  | 0, _, n => n
  | f + 1, P, n => match val G n with
    | none => n
    | some m => if n ∈ P then n else stopF G f (P ++ [n]) m
def stop (G : List Rw) (n : Str) : Str := stopF G (G.length + 1) [] n
theorem stop_none {G : List Rw} {n : Str} (h : val G n = none) : stop G n = n := by
  unfold stop stopF
  rw [h]
theorem stopF_succ {G : List Rw} {f : Nat} {P : List Str} {n m : Str} (h : val G n = some m) (hn : n ∉ P) : stopF G (f + 1) P n = stopF G f (P ++ [n]) m := by
  show (match val G n with | none => n | some m => if n ∈ P then n else stopF G f (P ++ [n]) m) = _
  rw [h]
  exact if_neg hn
theorem stopF_none {G : List Rw} {f : Nat} {P : List Str} {n : Str} (h : val G n = none) : stopF G f P n = n := by
  cases f with
  | zero => rfl
  | succ f =>
    show (match val G n with | none => n | some m => if n ∈ P then n else stopF G f (P ++ [n]) m) = _
    rw [h]
theorem stopF_passed {G : List Rw} {f : Nat} {P : List Str} {n : Str} (h : n ∈ P) : stopF G f P n = n := by
  cases f with
  | zero => rfl
  | succ f =>
    show (match val G n with | none => n | some m => if n ∈ P then n else stopF G f (P ++ [n]) m) = _
    cases val G n with
    | none => rfl
    | some m => exact if_pos h
theorem stop_one {G : List Rw} {n m : Str} (h : val G n = some m) (h2 : val G m = none) : stop G n = m := by
  unfold stop
  rw [stopF_succ h (by simp), stopF_none h2]
structure Flat (R : List Rw) : Prop where
  nd : (R.map (·.1)).Nodup
  no : ∀ r ∈ R, val R r.2 = none
theorem Flat.stop {R : List Rw} (f : Flat R) (n : Str) : stop R n = (val R n).getD n ∧ val R (Mi.stop R n) = none := by
  cases h : val R n with
  | none => rw [stop_none h]; exact ⟨rfl, h⟩
  | some m =>
    have hm := f.no _ (val_mem h)
    rw [stop_one h hm]
    exact ⟨rfl, hm⟩
def flatL (R : List Rw) : List Rw := (R.map fun r => (r.1, Mi.stop R r.1)).filter fun r => (val R r.2).isNone
theorem Flat.flatL {R : List Rw} (f : Flat R) : flatL R = R := by
  unfold Mi.flatL
  have e : (R.map fun r => (r.1, Mi.stop R r.1)) = R := by
    have : ∀ r ∈ R, (r.1, Mi.stop R r.1) = r := fun r hr => by
      rw [(f.stop r.1).1, val_of f.nd hr]
      rfl
    have h2 := List.map_congr_left this
    rw [h2, List.map_id']
  rw [e, List.filter_eq_self]
  intro r hr
  rw [f.no r hr]
  rfl
def more (R : List Rw) (one en : Str) : List Rw := ((R.filter fun r => decide (r.1 ≠ one)).map fun r => (r.1, if r.2 = one then en else r.2)) ++ [(one, en)]
def with1 (R : List Rw) (one en : Str) : List Rw := (R.filter fun r => decide (r.1 ≠ one)) ++ [(one, en)]
theorem with1_val {R : List Rw} (nd : (R.map (·.1)).Nodup) (one en n : Str) : val (with1 R one en) n = if n = one then some en else val R n := by
  unfold with1
  induction R with
  | nil =>
    show val [(one, en)] n = _
    rw [val_cons]
    by_cases h : n = one
    · rw [if_pos h.symm, if_pos h]
    · rw [if_neg (Ne.symm h), if_neg h]
  | cons p R ih =>
    rw [List.map_cons, List.nodup_cons] at nd
    rw [List.filter_cons]
    by_cases h : p.1 = one
    · rw [if_neg (by simpa using h), ih nd.2, val_cons]
      by_cases e : n = one
      · rw [if_pos e, if_pos e]
      · rw [if_neg e, if_neg e, if_neg fun z => e (z.symm.trans h)]
    · rw [if_pos (by simpa using h), List.cons_append, val_cons, val_cons]
      by_cases e : p.1 = n
      · rw [if_pos e, if_pos e, if_neg fun z => h (e.trans z)]
      · rw [if_neg e, if_neg e, ih nd.2]
def Rise (R : List Rw) : Prop := R.Pairwise fun a b => HS.ltS a.1 b.1 = true
theorem Rise.nd {R : List Rw} (h : Rise R) : (R.map (·.1)).Nodup := by
  rw [List.Nodup, List.pairwise_map]
  exact h.imp fun {a b} z e => by rw [e, HS.ltS_irr] at z; cases z
theorem rise_eq : ∀ {A B : List Rw}, Rise A → Rise B → (∀ r, r ∈ A ↔ r ∈ B) → A = B
  | [], [], _, _, _ => rfl
  | [], b :: B, _, _, h => by have := (h b).mpr (List.mem_cons_self ..); cases this
  | a :: A, [], _, _, h => by have := (h a).mp (List.mem_cons_self ..); cases this
  | a :: A, b :: B, ha, hb, h => by
    have ha' := List.pairwise_cons.mp ha
    have hb' := List.pairwise_cons.mp hb
    have e : a = b := by
      rcases List.mem_cons.mp ((h a).mp (List.mem_cons_self ..)) with e | e
      · exact e
      · rcases List.mem_cons.mp ((h b).mpr (List.mem_cons_self ..)) with e2 | e2
        · exact e2.symm
        · have h1 := hb'.1 a e
          have h2 := ha'.1 b e2
          rw [HS.ltS_tot _ _ h1] at h2
          cases h2
    subst e
    rw [rise_eq (A := A) (B := B) ha'.2 hb'.2 fun r => ?_]
    constructor
    · intro hr
      rcases List.mem_cons.mp ((h r).mp (List.mem_cons_of_mem _ hr)) with e | e
      · subst e
        have := ha'.1 r hr
        rw [HS.ltS_irr] at this
        cases this
      · exact e
    · intro hr
      rcases List.mem_cons.mp ((h r).mpr (List.mem_cons_of_mem _ hr)) with e | e
      · subst e
        have := hb'.1 r hr
        rw [HS.ltS_irr] at this
        cases this
      · exact e
theorem rise_of {R : List Rw} (nd : (R.map (·.1)).Nodup) (h : R.Pairwise fun a b => HS.ltT [b.1, b.2] [a.1, a.2] = false) : Rise R := by
  have nd' : R.Pairwise fun a b => a.1 ≠ b.1 := by
    rw [List.Nodup, List.pairwise_map] at nd
    exact nd
  refine (h.and nd').imp fun {a b} z => ?_
  obtain ⟨z1, z2⟩ := z
  have e : HS.ltT [b.1, b.2] [a.1, a.2] = HS.ltS b.1 a.1 := by
    show (if b.1 = a.1 then _ else _) = _
    rw [if_neg (Ne.symm z2)]
  rw [e] at z1
  cases hc : HS.ltS a.1 b.1 with
  | true => rfl
  | false => exact absurd (HS.ltS_tri hc z1) z2
theorem more_val {R : List Rw} (nd : (R.map (·.1)).Nodup) (one en n : Str) : val (more R one en) n = if n = one then some en else (val R n).map fun g => if g = one then en else g := by
  cases h : val (more R one en) n with
  | none =>
    have hk := val_none.mp h
    have e : (more R one en).map (·.1) = (with1 R one en).map (·.1) := by
      unfold more with1
      rw [List.map_append, List.map_append, List.map_map]
      rfl
    rw [e] at hk
    have hw := val_none.mpr hk
    rw [with1_val nd] at hw
    by_cases c : n = one
    · rw [if_pos c] at hw; cases hw
    · rw [if_neg c] at hw
      rw [if_neg c, hw]
      rfl
  | some m =>
    have hm := val_mem h
    unfold more at hm
    rcases List.mem_append.mp hm with hm | hm
    · obtain ⟨q, hq, e⟩ := List.mem_map.mp hm
      obtain ⟨h1, h2⟩ := List.mem_filter.mp hq
      injection e with e1 e2
      subst e1 e2
      have h3 : ¬ q.1 = one := by simpa using h2
      show some (if q.2 = one then en else q.2) = if q.1 = one then some en else (val R q.1).map fun g => if g = one then en else g
      rw [if_neg h3, val_of nd h1]
      rfl
    · have : (n, m) = (one, en) := by simpa using hm
      injection this with e1 e2
      subst e1 e2
      rw [if_pos rfl]
def putS (D : List Rw) (n y : Str) : List Rw := if D.any (fun p => decide (p.1 = n)) then D.map (fun p => if p.1 = n then (p.1, y) else p) else D ++ [(n, y)]
def dkOf (D : List Rw) : List (Key × V) := D.map fun p => ((Sum.inr p.1 : Key), V.str p.2)
theorem dk_val (D : List Rw) (n : Str) : valV (dkOf D) (Sum.inr n) = (val D n).map V.str := by
  induction D with
  | nil => rfl
  | cons p D ih =>
    rw [val_cons]
    show valV ((Sum.inr p.1, V.str p.2) :: dkOf D) _ = _
    by_cases h : p.1 = n
    · rw [valV_pos (show ((Sum.inr p.1 : Key), V.str p.2).1 = Sum.inr n by rw [h]), if_pos h]; rfl
    · rw [valV_neg (show ¬ ((Sum.inr p.1 : Key), V.str p.2).1 = Sum.inr n from fun e => h (Sum.inr.inj e)), if_neg h, ih]
theorem putS_new {D : List Rw} {n y : Str} (h : val D n = none) : putS D n y = D ++ [(n, y)] := by
  have : ¬ D.any (fun p => decide (p.1 = n)) = true := fun z => by
    obtain ⟨p, hp, e⟩ := List.any_eq_true.mp z
    exact val_none.mp h (List.mem_map.mpr ⟨p, hp, by simpa using e⟩)
  unfold putS
  rw [if_neg this]
theorem dk_put (D : List Rw) (n y : Str) : putK (dkOf D) (Sum.inr n) (V.str y) = dkOf (putS D n y) := by
  have e1 : ((dkOf D).any fun kv => decide (kv.1 = (Sum.inr n : Key))) = D.any fun p => decide (p.1 = n) := by
    unfold dkOf
    rw [List.any_map]
    congr 1
    funext p
    show decide ((Sum.inr p.1 : Key) = Sum.inr n) = _
    rw [key_rr]
  unfold putK putS
  rw [e1]
  split
  · unfold dkOf
    rw [List.map_map, List.map_map]
    refine List.map_congr_left fun p _ => ?_
    show (if (Sum.inr p.1 : Key) = Sum.inr n then ((Sum.inr p.1 : Key), V.str y) else ((Sum.inr p.1 : Key), V.str p.2)) = _
    by_cases h : p.1 = n
    · rw [if_pos (by rw [h])]; show _ = ((Sum.inr (if p.1 = n then (p.1, y) else p).1 : Key), V.str (if p.1 = n then (p.1, y) else p).2); rw [if_pos h]
    · rw [if_neg fun e => h (Sum.inr.inj e)]; show _ = ((Sum.inr (if p.1 = n then (p.1, y) else p).1 : Key), V.str (if p.1 = n then (p.1, y) else p).2); rw [if_neg h]
  · unfold dkOf
    rw [List.map_append]
    rfl
theorem putS_val (D : List Rw) (n y m : Str) : val (putS D n y) m = if m = n then some y else val D m := by
  have h := valV_put (dkOf D) (Sum.inr n) (Sum.inr m) (V.str y)
  rw [dk_put, dk_val, dk_val] at h
  by_cases e : m = n
  · rw [if_pos (by rw [e])] at h
    rw [if_pos e]
    cases hv : val (putS D n y) m with
    | none => rw [hv] at h; cases h
    | some z => rw [hv] at h; injection h with h; injection h with h; rw [h]
  · rw [if_neg fun z => e (Sum.inr.inj z)] at h
    rw [if_neg e]
    cases hv : val (putS D n y) m with
    | none => cases hw : val D m with
      | none => rfl
      | some z => rw [hv, hw] at h; cases h
    | some z => cases hw : val D m with
      | none => rw [hv, hw] at h; cases h
      | some z' => rw [hv, hw] at h; injection h with h; injection h with h; rw [h]
theorem merge_nodup {R : List Rw} (nd : (R.map (·.1)).Nodup) : mergeK [] (dkOf R) = dkOf R := by
  have key : ∀ (B A : List Rw), ((A ++ B).map (·.1)).Nodup → mergeK (dkOf A) (dkOf B) = dkOf (A ++ B) := fun B => by
    induction B with
    | nil => intro A _; rw [List.append_nil]; rfl
    | cons p B ih =>
      intro A h
      have hp : val A p.1 = none := val_none.mpr fun z => by
        rw [List.map_append, List.nodup_append] at h
        exact h.2.2 p.1 z p.1 (by simp) rfl
      show mergeK (putK (dkOf A) (Sum.inr p.1) (V.str p.2)) (dkOf B) = _
      rw [dk_put, putS_new hp, ih (A ++ [p]) (by rw [List.append_assoc]; exact h), List.append_assoc]
      rfl
  exact key R [] nd
end Mi
namespace Co
open PySem L2 Mi
def Has (P : Program) (w : World) (K : PySem.W.Frag) (mg : Str → Option Value) (base : Heap) (x : Str) (k : Nat) (ps : List Str) (sp : Sp) : Prop :=
  ∃ (f : Addr) (fd : FuncData), FnOk P w K mg base CX0 k f fd ps sp ∧ Binds K fd ps [] ∧ PySem.W.keepIn K (.ref f) = true ∧ mg x = some (.ref f)
def HasE (P : Program) (w : World) (K : PySem.W.Frag) (mg : Str → Option Value) (base : Heap) (x : Str) (k : Nat) (ps : List Str) (sp : Sp) : Prop :=
  ∃ (f : Addr) (fd : FuncData), FnOk P w K mg base (CXE P w) k f fd ps sp ∧ Binds K fd ps [] ∧ PySem.W.keepIn K (.ref f) = true ∧ mg x = some (.ref f)
theorem pe_callH {X : Cx} {x : Str} {k : Nat} {ps : List Str} {sp : Sp} {e : Expr} {es : List Expr} {t : TA} {p pos : Pos} (h : Has X.prog X.w X.K X.mg X.base x k ps sp) (hr : Room k X.A) (hg : Gl X x) (ha : PA X (e :: es) t)
    (hdb : (x == ("__debug__" : Str)) = false := by decide) (he : starEach (e :: es) X.env = (false, eval e X.env) :: starEach es X.env := by rfl) (hpl : (backTo pos (starEach es X.env)).any (·.1) = false := by rfl) :
    PE X (.Call (.Name x p) (e :: es) [] pos) (tCall sp [] E0 t) := by
  obtain ⟨f, fd, F, b, kp, m⟩ := h
  exact pe_call F hr hg m kp b .nil pass0 ha hdb he hpl
theorem Has.mono {P : Program} {w : World} {K : PySem.W.Frag} {mg : Str → Option Value} {base : Heap} {x : Str} {j k : Nat} {ps : List Str} {sp : Sp} (h : Has P w K mg base x j ps sp) (hk : j ≤ k) : Has P w K mg base x k ps sp := by
  obtain ⟨f, fd, F, b, kp, m⟩ := h
  exact ⟨f, fd, F.mono hk, b, kp, m⟩
theorem HasE.mono {P : Program} {w : World} {K : PySem.W.Frag} {mg : Str → Option Value} {base : Heap} {x : Str} {j k : Nat} {ps : List Str} {sp : Sp} (h : HasE P w K mg base x j ps sp) (hk : j ≤ k) : HasE P w K mg base x k ps sp := by
  obtain ⟨f, fd, F, b, kp, m⟩ := h
  exact ⟨f, fd, F.mono hk, b, kp, m⟩
theorem boot_sorted : bootBuiltins (Str.ofString "sorted") = some (Value.builtin "sorted") := by decide +kernel
theorem boot_tuple : bootBuiltins (Str.ofString "tuple") = some (Value.type "tuple") := by decide +kernel
theorem boot_list : bootBuiltins (Str.ofString "list") = some (Value.type "list") := by decide +kernel
theorem boot_dict : bootBuiltins (Str.ofString "dict") = some (Value.type "dict") := by decide +kernel
theorem big (n : Nat) (h : n ≤ 100000) : n ≤ sizeLine := by rw [sizeLine_eq]; omega
theorem bigl (n : Nat) (h : n ≤ 100000) : n < sizeLine := by rw [sizeLine_eq]; omega
structure Blt (mg : Str → Option Value) : Prop where
  len : mg "len" = none
  all : mg "all" = none
  isi : mg "isinstance" = none
  str : mg "str" = none
  int : mg "int" = none
  bool : mg "bool" = none
  tuple : mg "tuple" = none
  list : mg "list" = none
  range : mg "range" = none
  zip : mg "zip" = none
  any : mg "any" = none
  sorted : mg "sorted" = none
  dict : mg "dict" = none
  enumerate : mg "enumerate" = none
abbrev IsInt (mg : Str → Option Value) (x : Str) (n : Int) : Prop := ∃ t, mg x = some (.int n t)
theorem inV_strs (x : Str) : ∀ ts : List Str, inV (.str x) (ts.map V.str) = decide (x ∈ ts)
  | [] => by simp [inV]
  | t :: ts => by
    have ih := inV_strs x ts
    unfold inV at ih ⊢
    rw [List.map_cons, List.any_cons, ih]
    by_cases e : t = x
    · subst e; simp [eqV]
    · have e' : x ≠ t := fun z => e z.symm
      simp [eqV, e, e']
theorem flat_strs (ts : List Str) : (ts.map V.str).all flatV = true := by
  induction ts with
  | nil => rfl
  | cons t ts ih => rw [List.map_cons, List.all_cons, ih]; rfl
theorem app_len (a b : Str) : (a ++ b).length = a.length + b.length := strLen_append a b
def Scr (K : PySem.W.Frag) (H : Hp) (a : Addr) (ns : List Int) : Prop :=
  (∃ o, H a = some (.frz o (.lst (ns.map V.int)))) ∨
    ∃ (o : Obj) (its : Array Value) (n : Nat), K.lookup a = some o ∧ o.cls = .type "list" ∧ o.dict = none ∧ o.data = .seq its n ∧ its.size ≤ sizeLine ∧ Vals (ns.map V.int) its.toList
theorem Scr.sq {K : PySem.W.Frag} {H : Hp} {a : Addr} {ns : List Int} (h : Scr K H a ns) : SqL K H a (ns.map V.int) := by
  rcases h with ⟨o, h⟩ | h
  · exact .inl (.inr ⟨o, h⟩)
  · exact .inr h
def Stp (t : Addr) (H H' : Hp) : Prop := ∀ b o, b ≠ t → H b = some o → H' b = some o
theorem Stp.refl (t : Addr) (H : Hp) : Stp t H H := fun _ _ _ h => h
theorem Stp.trans {t : Addr} {H H1 H2 : Hp} (a : Stp t H H1) (b : Stp t H1 H2) : Stp t H H2 := fun c o hc h => b c o hc (a c o hc h)
theorem _root_.L2.Same.stp {t : Addr} {H H' : Hp} (s : Same H H') : Stp t H H' := fun b o _ h => s b o h
theorem Stp.upd {t : Addr} {H : Hp} (o : HO) : Stp t H (upd H t o) := fun b u hb h => by rw [upd_ne hb]; exact h
theorem Scr.stp {K : PySem.W.Frag} {H H' : Hp} {a t : Addr} {ns : List Int} {zs : List V} (h : Scr K H a ns) (ht : H t = some (.lst zs)) (s : Stp t H H') : Scr K H' a ns := by
  rcases h with ⟨o, h⟩ | h
  · refine .inl ⟨o, s a _ (fun e => ?_) h⟩
    rw [e, ht] at h
    cases h
  · exact .inr h
theorem Scr.same {K : PySem.W.Frag} {H H' : Hp} {a : Addr} {ns : List Int} (h : Scr K H a ns) (s : Same H H') : Scr K H' a ns := by
  rcases h with ⟨o, h⟩ | h
  · exact .inl ⟨o, s a _ h⟩
  · exact .inr h
theorem tup_stp {K : PySem.W.Frag} {H H' : Hp} {p t : Addr} {xs zs : List V} (h : SqT K H p xs) (ht : H t = some (.lst zs)) (s : Stp t H H') : SqT K H' p xs := by
  rcases h with (h | ⟨o, h⟩) | h
  · exact .inl (.inl (s p _ (fun e => by rw [e, ht] at h; cases h) h))
  · exact .inl (.inr ⟨o, s p _ (fun e => by rw [e, ht] at h; cases h) h⟩)
  · exact .inr h
def spDraw (K : PySem.W.Frag) : Sp := fun vs H Q _ => ∃ (a t : Addr) (ns : List Int) (zs : List V) (m : Int), vs = [.ref a, .ref t, .int m] ∧ Scr K H a ns ∧ ns.length ≤ 63 ∧ H t = some (.lst zs) ∧ zs.length < 100000 ∧ 0 < m ∧
  ∀ (r : Int) (H' : Hp), 0 ≤ r → r < m → H' t = some (.lst (zs ++ [.int 0])) → Stp t H H' → Q (.int r) H'
def spPick (K : PySem.W.Frag) : Sp := fun vs H Q _ => ∃ (a t : Addr) (ns : List Int) (zs : List V), Scr K H a ns ∧ ns.length ≤ 63 ∧ H t = some (.lst zs) ∧ zs.length < 100000 ∧
  ((∃ (l : Addr) (xs : List V), vs = [.ref a, .ref t, .ref l] ∧ H l = some (.lst xs) ∧ l ≠ t ∧ 0 < xs.length ∧ ∀ (x : V) (H' : Hp), x ∈ xs → H' t = some (.lst (zs ++ [.int 0])) → Stp t H H' → Q x H') ∨
   (∃ z : Str, vs = [.ref a, .ref t, .str z] ∧ 0 < z.length ∧ z.length ≤ 1000 ∧ ∀ (c : Nat) (H' : Hp), c ∈ z.cps.toList → H' t = some (.lst (zs ++ [.int 0])) → Stp t H H' → Q (.str ⟨#[c]⟩) H'))
theorem at_mod {ns : List Int} (h : ns ≠ []) (k : Int) : ∃ v : Int, atI (ns.map V.int) (k % ((ns.map V.int).length : Int)) = some (.int v) := by
  have hl : 0 < ns.length := List.length_pos_iff.mpr h
  have e : ((ns.map V.int).length : Int) = (ns.length : Int) := by rw [List.length_map]
  rw [e]
  have h0 := Int.emod_nonneg k (b := (ns.length : Int)) (by omega)
  have h1 := Int.emod_lt_of_pos k (b := (ns.length : Int)) (by omega)
  generalize k % (ns.length : Int) = i at h0 h1 ⊢
  obtain ⟨j, rfl⟩ : ∃ j : Nat, i = (j : Int) := ⟨i.toNat, by omega⟩
  have hj : j < ns.length := by omega
  exact ⟨ns[j], atI_nat (by rw [List.getElem?_map, List.getElem?_eq_getElem hj]; rfl)⟩
theorem at_place {α : Type} {xs : List α} {r : Int} (h0 : 0 ≤ r) (h1 : r < (xs.length : Int)) : ∃ v, atI xs r = some v ∧ v ∈ xs := by
  obtain ⟨j, rfl⟩ : ∃ j : Nat, r = (j : Int) := ⟨r.toNat, by omega⟩
  have hj : j < xs.length := by omega
  exact ⟨xs[j], atI_nat (List.getElem?_eq_getElem hj), List.getElem_mem hj⟩
def spLaw (K : PySem.W.Frag) : Sp := fun vs H Q _ => ∃ (a : Addr) (ns : List Int), vs = [.ref a] ∧ Scr K H a ns ∧ ns.length ≤ 63 ∧ ∀ H', Q (.bl true) H'
theorem scr_of {K : PySem.W.Frag} {H : Hp} {a : Addr} {ns : List Int} (hO : Only H) (hS : SqL K H a (ns.map V.int)) : Scr K H a ns := by
  rcases hS with (h | ⟨o, h⟩) | h
  · rcases hO a with z | ⟨o, xs, z⟩
    · rw [z] at h; cases h
    · rw [z] at h; cases h
  · exact .inl ⟨o, h⟩
  · exact .inr h
def Alike0 (x y : V) : Prop := (x = .non ∧ y = .non) ∨ (∃ b, x = .bl b ∧ y = .bl b) ∨ (∃ i, x = .int i ∧ y = .int i) ∨ ∃ z, x = .str z ∧ y = .str z
def Alike (K : PySem.W.Frag) (H : Hp) : Nat → V → V → Prop
  | 0, x, y => Alike0 x y
  | n + 1, x, y => Alike0 x y ∨ ∃ a b xs ys, x = .ref a ∧ y = .ref b ∧ SqT K H a xs ∧ SqT K H b ys ∧ xs.length = ys.length ∧ xs.length ≤ 1000 ∧ ∀ (i : Nat) u v, xs[i]? = some u → ys[i]? = some v → Alike K H n u v
theorem Alike.same {K : PySem.W.Frag} {H H' : Hp} (s : Same H H') : ∀ {n : Nat} {x y : V}, Alike K H n x y → Alike K H' n x y
  | 0, _, _, h => h
  | n + 1, _, _, h => by
    rcases h with h | ⟨a, b, xs, ys, e1, e2, h1, h2, hl, hm, h3⟩
    · exact .inl h
    · exact .inr ⟨a, b, xs, ys, e1, e2, s.tup h1, s.tup h2, hl, hm, fun i u v hu hv => (h3 i u v hu hv).same s⟩
theorem Alike.up {K : PySem.W.Frag} {H : Hp} : ∀ {n : Nat} {x y : V}, Alike K H n x y → Alike K H (n + 1) x y
  | 0, _, _, h => .inl h
  | n + 1, _, _, h => by
    rcases h with h | ⟨a, b, xs, ys, e1, e2, h1, h2, hl, hm, h3⟩
    · exact .inl h
    · exact .inr ⟨a, b, xs, ys, e1, e2, h1, h2, hl, hm, fun i u v hu hv => (h3 i u v hu hv).up⟩
theorem Alike.mono {K : PySem.W.Frag} {H : Hp} {m n : Nat} {x y : V} (h : Alike K H m x y) (hm : m ≤ n) : Alike K H n x y := by
  induction hm with
  | refl => exact h
  | step _ ih => exact ih.up
def Thg0 (K : PySem.W.Frag) (H : Hp) (v : V) : Prop := (∃ x : Str, v = .str x ∧ x.length ≤ 100) ∨ v = .non ∨ (∃ i, v = .int i) ∨ (∃ b, v = .bl b) ∨ (∃ a xs, v = .ref a ∧ SqT K H a xs) ∨ ∃ a xs, v = .ref a ∧ H a = some (.lst xs)
theorem Thg0.same {K : PySem.W.Frag} {H H' : Hp} {v : V} (h : Thg0 K H v) (s : Same H H') : Thg0 K H' v := by
  rcases h with h | h | h | h | ⟨a, xs, e, h⟩ | ⟨a, xs, e, h⟩
  · exact .inl h
  · exact .inr (.inl h)
  · exact .inr (.inr (.inl h))
  · exact .inr (.inr (.inr (.inl h)))
  · exact .inr (.inr (.inr (.inr (.inl ⟨a, xs, e, s.tup h⟩))))
  · exact .inr (.inr (.inr (.inr (.inr ⟨a, xs, e, s _ _ h⟩))))
def NoT (H : Hp) (v : V) : Prop := (∃ x : Str, v = .str x ∧ x.length ≤ 100) ∨ v = .non ∨ (∃ i, v = .int i) ∨ (∃ b, v = .bl b) ∨ ∃ a xs, v = .ref a ∧ H a = some (.lst xs)
theorem NoT.thg {K : PySem.W.Frag} {H : Hp} {v : V} (h : NoT H v) : Thg0 K H v := by
  rcases h with h | h | h | h | h
  · exact .inl h
  · exact .inr (.inl h)
  · exact .inr (.inr (.inl h))
  · exact .inr (.inr (.inr (.inl h)))
  · exact .inr (.inr (.inr (.inr (.inr h))))
end Co
namespace Co
open PySem L2 Mi
def Thg (K : PySem.W.Frag) (H : Hp) (v : V) : Prop := NoT H v ∨ ∃ a xs, v = .ref a ∧ SqT K H a xs ∧ xs.length ≤ 1000 ∧ ∀ x ∈ xs, Thg0 K H x
theorem Thg.t0 {K : PySem.W.Frag} {H : Hp} {v : V} (h : Thg K H v) : Thg0 K H v := by
  rcases h with h | ⟨a, xs, e, h, _⟩
  · exact h.thg
  · exact .inr (.inr (.inr (.inr (.inl ⟨a, xs, e, h⟩))))
theorem NoT.same {H H' : Hp} {v : V} (h : NoT H v) (s : Same H H') : NoT H' v := by
  rcases h with h | h | h | h | ⟨a, xs, e, h⟩
  · exact .inl h
  · exact .inr (.inl h)
  · exact .inr (.inr (.inl h))
  · exact .inr (.inr (.inr (.inl h)))
  · exact .inr (.inr (.inr (.inr ⟨a, xs, e, s _ _ h⟩)))
theorem Thg.same {K : PySem.W.Frag} {H H' : Hp} {v : V} (h : Thg K H v) (s : Same H H') : Thg K H' v := by
  rcases h with h | ⟨a, xs, e, h, hl, hx⟩
  · exact .inl (h.same s)
  · exact .inr ⟨a, xs, e, s.tup h, hl, fun x hm => (hx x hm).same s⟩
theorem NoT.stp {H H' : Hp} {t : Addr} {zs zs' : List V} {v : V} (h : NoT H v) (s : Stp t H H') (h2 : H' t = some (.lst zs')) : NoT H' v := by
  rcases h with h | h | h | h | ⟨a, xs, e, h⟩
  · exact .inl h
  · exact .inr (.inl h)
  · exact .inr (.inr (.inl h))
  · exact .inr (.inr (.inr (.inl h)))
  · by_cases ha : a = t
    · exact .inr (.inr (.inr (.inr ⟨a, zs', e, ha ▸ h2⟩)))
    · exact .inr (.inr (.inr (.inr ⟨a, xs, e, s a _ ha h⟩)))
theorem Thg0.stp {K : PySem.W.Frag} {H H' : Hp} {t : Addr} {zs zs' : List V} {v : V} (h : Thg0 K H v) (ht : H t = some (.lst zs)) (s : Stp t H H') (h2 : H' t = some (.lst zs')) : Thg0 K H' v := by
  rcases h with h | h | h | h | ⟨a, xs, e, h⟩ | ⟨a, xs, e, h⟩
  · exact .inl h
  · exact .inr (.inl h)
  · exact .inr (.inr (.inl h))
  · exact .inr (.inr (.inr (.inl h)))
  · exact .inr (.inr (.inr (.inr (.inl ⟨a, xs, e, tup_stp h ht s⟩))))
  · by_cases ha : a = t
    · exact .inr (.inr (.inr (.inr (.inr ⟨a, zs', e, ha ▸ h2⟩))))
    · exact .inr (.inr (.inr (.inr (.inr ⟨a, xs, e, s a _ ha h⟩))))
theorem Thg.stp {K : PySem.W.Frag} {H H' : Hp} {t : Addr} {zs zs' : List V} {v : V} (h : Thg K H v) (ht : H t = some (.lst zs)) (s : Stp t H H') (h2 : H' t = some (.lst zs')) : Thg K H' v := by
  rcases h with h | ⟨a, xs, e, h, hl, hx⟩
  · exact .inl (h.stp (zs := zs) s h2)
  · exact .inr ⟨a, xs, e, tup_stp h ht s, hl, fun x hm => (hx x hm).stp ht s h2⟩
section
variable {X : Cx}
theorem pe_mono {e : Expr} {t u : TE} (h : PE X e t) (hi : ∀ σ H Q, u σ H Q → t σ H Q) : PE X e u := fun pins s σ H Q I q => h pins s σ H Q I (hi σ H Q q)
def eltsOf : Expr → List Expr
  | .List es _ => es
  | _ => []
def isLst : Expr → Bool
  | .List _ _ => true
  | _ => false
end
end Co
namespace Co
open PySem L2 Mi
abbrev VE : List Value := [.type "ValueError", .type "Exception", .type "BaseException", .type "object"]
def RowsIn (H : Hp) (rs : List (Addr × Rw)) : Prop := ∀ r ∈ rs, H r.1 = some (.tup [V.str r.2.1, V.str r.2.2])
abbrev refs (rs : List (Addr × Rw)) : List V := rs.map fun r => V.ref r.1
def RowsAt (H : Hp) (a : Addr) (R : List Rw) : Prop := ∃ rs : List (Addr × Rw), H a = some (.tup (refs rs)) ∧ RowsIn H rs ∧ rs.map (·.2) = R
theorem RowsIn.ts {H H' : Hp} {rs : List (Addr × Rw)} (h : RowsIn H rs) (s : TS' H H') : RowsIn H' rs := fun r hr => s _ _ (h r hr)
theorem RowsAt.ts {H H' : Hp} {a : Addr} {R : List Rw} (h : RowsAt H a R) (s : TS' H H') : RowsAt H' a R := by
  obtain ⟨rs, h1, h2, h3⟩ := h
  exact ⟨rs, s _ _ h1, h2.ts s, h3⟩
theorem RowsAt.same {H H' : Hp} {a : Addr} {R : List Rw} (h : RowsAt H a R) (s : Same H H') : RowsAt H' a R := h.ts s.ts
theorem Stp.ts {t : Addr} {H H' : Hp} {zs : List V} (s : Stp t H H') (h : H t = some (.lst zs)) : TS' H H' := fun b xs hb => s b _ (fun e => by rw [e, h] at hb; cases hb) hb
theorem rows_pairs {K : PySem.W.Frag} {H : Hp} : ∀ {rs : List (Addr × Rw)}, RowsIn H rs → PairsV K H (refs rs) (dkOf (rs.map (·.2)))
  | [], _ => .nil
  | r :: rs, h => .cons ⟨r.1, rfl, SqT.of (h r (List.mem_cons_self ..))⟩ (rows_pairs fun q hq => h q (List.mem_cons_of_mem _ hq))
theorem nodup_len {α : Type} [DecidableEq α] : ∀ {P L : List α}, P.Nodup → (∀ x ∈ P, x ∈ L) → P.length ≤ L.length
  | [], _, _, _ => Nat.zero_le _
  | a :: P, L, nd, h => by
    rw [List.nodup_cons] at nd
    have ha := h a (List.mem_cons_self ..)
    have ih := nodup_len (P := P) (L := L.erase a) nd.2 fun x hx => (List.mem_erase_of_ne (fun (e : x = a) => nd.1 (e ▸ hx))).mpr (h x (List.mem_cons_of_mem _ hx))
    have hl : (L.erase a).length = L.length - 1 := List.length_erase_of_mem ha
    have hp : 0 < L.length := List.length_pos_of_mem ha
    rw [List.length_cons]
    omega
def rowOf (H : Hp) : V → Option Rw
  | .ref b => match H b with
    | some (.tup [.str x, .str y]) => some (x, y)
    | _ => none
  | _ => none
theorem rowOf_of {H : Hp} {r : Addr × Rw} (h : H r.1 = some (.tup [V.str r.2.1, V.str r.2.2])) : rowOf H (.ref r.1) = some r.2 := by
  show (match H r.1 with | some (.tup [.str x, .str y]) => some (x, y) | _ => none) = _
  rw [h]
theorem filter_refs {H : Hp} {rs : List (Addr × Rw)} (h : RowsIn H rs) (p : Rw → Bool) : (refs rs).filter (fun v => ((rowOf H v).map p).getD false) = refs (rs.filter fun r => p r.2) := by
  unfold refs
  rw [List.filter_map]
  congr 1
  refine List.filter_congr fun r hr => ?_
  show ((rowOf H (V.ref r.1)).map p).getD false = _
  rw [rowOf_of (h r hr)]
  rfl
theorem filter_snd (rs : List (Addr × Rw)) (p : Rw → Bool) : (rs.filter fun r => p r.2).map (·.2) = (rs.map (·.2)).filter p := by
  rw [List.filter_map]
  rfl
theorem RowsIn.filter {H : Hp} {rs : List (Addr × Rw)} (h : RowsIn H rs) (p : Addr × Rw → Bool) : RowsIn H (rs.filter p) := fun r hr => h r (List.mem_filter.mp hr).1
theorem mem_refs {rs : List (Addr × Rw)} {v : V} (h : v ∈ refs rs) : ∃ r ∈ rs, v = .ref r.1 := by
  obtain ⟨r, hr, e⟩ := List.mem_map.mp h
  exact ⟨r, hr, e.symm⟩
theorem made_rows {α : Type} {H : Hp} {f : α → Rw} {g : α → V} {L : List α} (hi : ∀ r ∈ L, ∀ r' ∈ L, g r = g r' → f r = f r') : ∀ {xs : List α} {ys : List V}, (∀ x ∈ xs, x ∈ L) → Paired (fun x v => ∃ r ∈ L, x = g r ∧ ∃ b, v = V.ref b ∧ H b = some (.tup [V.str (f r).1, V.str (f r).2])) (xs.map g) ys →
    ∃ rs : List (Addr × Rw), ys = refs rs ∧ RowsIn H rs ∧ rs.map (·.2) = xs.map f
  | [], _, _, h => by cases h; exact ⟨[], rfl, (fun r hr => by cases hr), rfl⟩
  | x :: xs, _, hs, h => by
    rw [List.map_cons] at h
    cases h with
    | cons h1 h2 =>
      obtain ⟨r, hr, e, b, rfl, hb⟩ := h1
      obtain ⟨rs, e1, e2, e3⟩ := made_rows hi (fun q hq => hs q (List.mem_cons_of_mem _ hq)) h2
      have ef := hi _ (hs x (List.mem_cons_self ..)) _ hr e
      refine ⟨(b, f x) :: rs, by rw [e1]; rfl, fun q hq => ?_, by rw [List.map_cons, List.map_cons, e3]⟩
      rcases List.mem_cons.mp hq with rfl | hq
      · show H b = some (.tup [V.str (f x).1, V.str (f x).2])
        rw [ef]; exact hb
      · exact e2 q hq
theorem sort_back {rs : List (Addr × Rw)} {ss : List (Addr × List Str)} (h : ss.Perm (rs.map fun r => (r.1, [r.2.1, r.2.2]))) : ∃ rs2 : List (Addr × Rw), rs2.Perm rs ∧ ss = rs2.map fun r => (r.1, [r.2.1, r.2.2]) := by
  let g : Addr × List Str → Addr × Rw := fun s => (s.1, (s.2.getD 0 "", s.2.getD 1 ""))
  refine ⟨ss.map g, ?_, ?_⟩
  · have := h.map g
    rw [List.map_map] at this
    have e : (rs.map (g ∘ fun r => (r.1, [r.2.1, r.2.2]))) = rs := by
      have : ∀ r ∈ rs, (g ∘ fun (r : Addr × Rw) => (r.1, [r.2.1, r.2.2])) r = r := fun r _ => rfl
      rw [List.map_congr_left this, List.map_id']
    rw [e] at this
    exact this
  · rw [List.map_map]
    have : ∀ s ∈ ss, ((fun (r : Addr × Rw) => (r.1, [r.2.1, r.2.2])) ∘ g) s = s := fun s hs => by
      obtain ⟨r, _, rfl⟩ := List.mem_map.mp (h.mem_iff.mp hs)
      rfl
    rw [List.map_congr_left this, List.map_id']
def spStop : Sp := fun vs H Q _ => ∃ (d : Addr) (R : List Rw) (n : Str), vs = [.ref d, .str n] ∧ H d = some (.dK (dkOf R)) ∧ R.length ≤ 1000 ∧ ∀ H', Same H H' → Q (.str (stop R n)) H'
def Txt1 (n : Str) : Prop := n.length ≤ 100 ∧ ∀ c ∈ n.cps.toList, c < 16 ^ 8
def spEnd (C : Addr) : Sp := fun vs H Q E => ∃ (a : Addr) (R : List Rw) (n : Str), vs = [.ref a, .str n] ∧ RowsAt H a R ∧ (R.map (·.1)).Nodup ∧ R.length ≤ 1000 ∧ Txt1 n ∧
  (val R (stop R n) = none → ∀ H', Same H H' → Q (.str (stop R n)) H') ∧ (val R (stop R n) ≠ none → ∀ H', Same H H' → E (.ref C) none H')
def spFlat : Sp := fun vs H Q _ => ∃ (a : Addr) (R : List Rw), vs = [.ref a] ∧ RowsAt H a R ∧ (R.map (·.1)).Nodup ∧ R.length < 64 ∧ ∀ p R' H', Same H H' → RowsAt H' p R' → R'.Perm (flatL R) → Rise R' → Q (.ref p) H'
end Co
namespace Mi
open PySem L2
theorem turn_end {R D : List Rw} {one en : Str} (nd : (R.map (·.1)).Nodup) (hv : ∀ n, val D n = (val R n).map fun g => if n ∈ (R.map (·.1)).take (R.map (·.1)).length ∧ g = one then en else g) : ∀ n, val (putS D one en) n = val (more R one en) n := fun n => by
  rw [putS_val, more_val nd, hv, List.take_length]
  by_cases c : n = one
  · rw [if_pos c, if_pos c]
  · rw [if_neg c, if_neg c]
    cases h : val R n with
    | none => rfl
    | some g =>
      have hm : n ∈ R.map (·.1) := List.mem_map.mpr ⟨_, val_mem h, rfl⟩
      simp [hm]
end Mi
namespace Co
open PySem L2 Mi
end Co
namespace Co
open PySem L2 Mi
def strsOf : List Expr → List Str → Bool
  | [], [] => true
  | .Constant (.str x) _ _ :: es, t :: ts => decide (x = t) && strsOf es ts
  | _, _ => false
def tStrs (ts : List Str) : TA := fun _ H Q => Q (ts.map V.str) H
theorem pa_strs {X : Cx} : ∀ {es : List Expr} (ts : List Str), strsOf es ts = true → PA X es (tStrs ts)
  | [], [], _ => fun pos pins s σ H Q I q => pa_nil pos pins s σ H Q I q
  | [], _ :: _, h => by cases h
  | e :: es, [], h => by cases e <;> first | cases h | (rename_i c _ _; cases c <;> cases h)
  | e :: es, t :: ts, h => by
    cases e with
    | Constant c k p =>
      cases c with
      | str x =>
        have h' : (decide (x = t) && strsOf es ts) = true := h
        rw [Bool.and_eq_true, decide_eq_true_eq] at h'
        obtain ⟨rfl, h2⟩ := h'
        have ih := pa_strs (X := X) ts h2
        intro pos pins s σ H Q I q
        exact pa_cons pe_str ih rfl pos pins s σ H Q I q
      | _ => cases h
    | _ => cases h
end Co
namespace Co
open PySem L2 Mi
theorem pe_strsL {X : Cx} {e : Expr} {ts : List Str} (h0 : isLst e = true) (h : strsOf (eltsOf e) ts = true) (hl : ts.length ≤ 1000) : PE X e (fun _ H Q => ∀ p, H p = none → Q (.ref p) (upd H p (.lst (ts.map V.str)))) := by
  cases e <;> first | cases h0 | skip
  rename_i es pos
  refine pe_mono (pe_lst (pa_strs ts h)) fun σ H Q q => ?_
  exact ⟨big _ (by rw [List.length_map]; omega), q⟩
end Co
namespace Co
open PySem L2 Mi
end Co
namespace Mi
open PySem L2
def wayF (R : List Rw) : Nat → List Str → Str → List Str
  | 0, P, n => P ++ [n]
  | f + 1, P, n => match val R n with
    | none => P ++ [n]
    | some m => if n ∈ P then P ++ [n] else wayF R f (P ++ [n]) m
def way (R : List Rw) (n : Str) : List Str := wayF R (R.length + 1) [] n
def Ch (R : List Rw) : List Str → Str → Prop
  | [], _ => True
  | x :: P, n => val R x = some (P.headD n) ∧ Ch R P n
theorem Ch.snoc {R : List Rw} : ∀ {P : List Str} {n m : Str}, Ch R P n → val R n = some m → Ch R (P ++ [n]) m
  | [], n, m, _, h => ⟨h, trivial⟩
  | x :: P, n, m, h, hv => by
    obtain ⟨h1, h2⟩ := h
    refine ⟨?_, h2.snoc hv⟩
    cases P with
    | nil => exact h1
    | cons y P => exact h1
theorem Ch.drop {R : List Rw} : ∀ {A B : List Str} {n : Str}, Ch R (A ++ B) n → Ch R B n
  | [], _, _, h => h
  | _ :: A, B, n, h => Ch.drop (A := A) h.2
def Leads (R : List Rw) (n : Str) : Str → List Str → Prop
  | cur, [] => cur = n
  | cur, x :: L => cur = x ∧ x ≠ n ∧ ∃ m, val R x = some m ∧ Leads R n m L
theorem leads_of {R : List Rw} {n : Str} : ∀ {L : List Str}, Ch R L n → n ∉ L → Leads R n (L.headD n) L
  | [], _, _ => rfl
  | x :: L, h, hn => by
    obtain ⟨h1, h2⟩ := h
    exact ⟨rfl, fun e => hn (by rw [e]; exact List.mem_cons_self ..), _, h1, leads_of h2 fun z => hn (List.mem_cons_of_mem _ z)⟩
structure Way (R : List Rw) (W : List Str) (s : Str) : Prop where
  last : ∃ P, W = P ++ [s] ∧ (∀ x ∈ P, x ∈ R.map (·.1)) ∧ P.Nodup
  out : val R s = none → s ∉ W.dropLast
  ring : val R s ≠ none → ∃ A L, W = A ++ s :: L ++ [s] ∧ s ∉ A ∧ s ∉ L ∧ ∃ m, val R s = some m ∧ Leads R s m L
theorem nodup_len' {P L : List Str} (h1 : P.Nodup) (h2 : ∀ x ∈ P, x ∈ L) : P.length ≤ L.length := by
  induction P generalizing L with
  | nil => exact Nat.zero_le _
  | cons a P ih =>
    rw [List.nodup_cons] at h1
    have ha := h2 a (List.mem_cons_self ..)
    have hl := List.length_erase_of_mem ha
    have hp := List.length_pos_of_mem ha
    have := ih (L := L.erase a) h1.2 fun x hx => (List.mem_erase_of_ne (fun (e : x = a) => h1.1 (e ▸ hx))).mpr (h2 x (List.mem_cons_of_mem _ hx))
    rw [List.length_cons]
    omega
theorem way_of {R : List Rw} : ∀ (f : Nat) (P : List Str) (n : Str), Ch R P n → P.Nodup → (∀ x ∈ P, x ∈ R.map (·.1)) → f + P.length = R.length + 1 → Way R (wayF R f P n) (stopF R f P n)
  | 0, P, n, hc, nd, hk, hf => by
    have := nodup_len' nd hk
    rw [List.length_map] at this
    omega
  | f + 1, P, n, hc, nd, hk, hf => by
    cases hv : val R n with
    | none =>
      have e1 : wayF R (f + 1) P n = P ++ [n] := by
        show (match val R n with | none => P ++ [n] | some m => if n ∈ P then P ++ [n] else wayF R f (P ++ [n]) m) = _
        rw [hv]
      rw [e1, stopF_none hv]
      refine ⟨⟨P, rfl, hk, nd⟩, fun _ => ?_, fun h => absurd hv h⟩
      rw [List.dropLast_concat]
      exact fun h => val_none.mp hv (hk n h)
    | some m =>
      by_cases hp : n ∈ P
      · have e1 : wayF R (f + 1) P n = P ++ [n] := by
          show (match val R n with | none => P ++ [n] | some m => if n ∈ P then P ++ [n] else wayF R f (P ++ [n]) m) = _
          rw [hv]
          exact if_pos hp
        rw [e1, stopF_passed hp]
        refine ⟨⟨P, rfl, hk, nd⟩, (fun h => by rw [hv] at h; cases h), fun _ => ?_⟩
        obtain ⟨A, L, e, hA⟩ := List.append_of_mem hp |>.imp fun A h => h.imp fun L e => (⟨e, by
          rw [e, List.nodup_append] at nd
          exact fun z => nd.2.2 n z n (List.mem_cons_self ..) rfl⟩ : P = A ++ n :: L ∧ n ∉ A)
        have hL : n ∉ L := by
          rw [e, List.nodup_append] at nd
          exact (List.nodup_cons.mp nd.2.1).1
        have hcL : Ch R (n :: L) n := Ch.drop (A := A) (e ▸ hc)
        refine ⟨A, L, by rw [e], hA, hL, L.headD n, hcL.1, leads_of hcL.2 hL⟩
      · have e1 : wayF R (f + 1) P n = wayF R f (P ++ [n]) m := by
          show (match val R n with | none => P ++ [n] | some m => if n ∈ P then P ++ [n] else wayF R f (P ++ [n]) m) = _
          rw [hv]
          exact if_neg hp
        rw [e1, stopF_succ hv hp]
        refine way_of f (P ++ [n]) m (hc.snoc hv) ?_ (fun x hx => ?_) (by rw [List.length_append, List.length_singleton]; omega)
        · rw [List.nodup_append]
          exact ⟨nd, by simp, fun x hx y hy e => by rw [List.mem_singleton.mp hy] at e; exact hp (e ▸ hx)⟩
        · rcases List.mem_append.mp hx with hx | hx
          · exact hk x hx
          · rw [List.mem_singleton.mp hx]; exact List.mem_map.mpr ⟨_, val_mem hv, rfl⟩
theorem way_is (R : List Rw) (n : Str) : Way R (way R n) (stop R n) := way_of (R.length + 1) [] n trivial List.nodup_nil (fun x hx => by cases hx) (by simp)
theorem idx_skip {s : Str} {B : List Str} : ∀ {A : List Str}, s ∉ A → (A ++ s :: B).idxOf s = A.length
  | [], _ => by simp
  | a :: A, h => by
    have h1 : a ≠ s := fun e => h (by rw [e]; exact List.mem_cons_self ..)
    have ih := idx_skip (B := B) (A := A) fun z => h (List.mem_cons_of_mem _ z)
    rw [List.cons_append, List.idxOf_cons, ih, beq_false_of_ne h1]
    rfl
def ringOf (R : List Rw) (n : Str) : List Str := ((way R n).drop ((way R n).idxOf (stop R n))).dropLast
theorem ring_is {R : List Rw} {n : Str} (h : val R (stop R n) ≠ none) : ∃ L m, ringOf R n = stop R n :: L ∧ val R (stop R n) = some m ∧ Leads R (stop R n) m L ∧ L.length ≤ R.length := by
  have w := way_is R n
  obtain ⟨A, L, e, hA, hL, m, hm, hl⟩ := w.ring h
  obtain ⟨P, eP, hk, nd⟩ := w.last
  refine ⟨L, m, ?_, hm, hl, ?_⟩
  · unfold ringOf
    have ei : (way R n).idxOf (stop R n) = A.length := by
      rw [e, List.append_assoc]
      exact idx_skip hA
    rw [ei, e, List.append_assoc, List.drop_left]
    show (stop R n :: (L ++ [stop R n])).dropLast = _
    rw [← List.cons_append, List.dropLast_concat]
  · have ep : P = A ++ stop R n :: L := by
      rw [e] at eP
      exact (List.append_inj_left' eP rfl).symm
    have := nodup_len' nd hk
    rw [List.length_map, ep, List.length_append, List.length_cons] at this
    omega
def least (ts : List Str) : List Str := ts.drop (ts.idxOf (minS ts)) ++ ts.take (ts.idxOf (minS ts))
theorem least_ne {ts : List Str} (h : ts ≠ []) : least ts ≠ [] := by
  intro e
  have := congrArg List.length e
  unfold least at this
  rw [List.length_append, List.length_drop, List.length_take] at this
  have hl := List.length_pos_iff.mpr h
  have hi := List.idxOf_lt_length_of_mem (minS_mem h)
  simp at this
  omega
theorem tups_eq : ∀ {A B : List (List Str)}, A.Pairwise (fun a b => HS.ltT a b = true) → B.Pairwise (fun a b => HS.ltT a b = true) → (∀ r, r ∈ A ↔ r ∈ B) → A = B
  | [], [], _, _, _ => rfl
  | [], b :: B, _, _, h => by have := (h b).mpr (List.mem_cons_self ..); cases this
  | a :: A, [], _, _, h => by have := (h a).mp (List.mem_cons_self ..); cases this
  | a :: A, b :: B, ha, hb, h => by
    have ha' := List.pairwise_cons.mp ha
    have hb' := List.pairwise_cons.mp hb
    have irr : ∀ x : List Str, HS.ltT x x = true → False := fun x hx => by
      have := HS.ltT_tot _ _ hx
      rw [this] at hx
      cases hx
    have e : a = b := by
      rcases List.mem_cons.mp ((h a).mp (List.mem_cons_self ..)) with e | e
      · exact e
      · rcases List.mem_cons.mp ((h b).mpr (List.mem_cons_self ..)) with e2 | e2
        · exact e2.symm
        · have h1 := hb'.1 a e
          have h2 := ha'.1 b e2
          rw [HS.ltT_tot _ _ h1] at h2
          cases h2
    subst e
    rw [tups_eq (A := A) (B := B) ha'.2 hb'.2 fun r => ?_]
    constructor
    · intro hr
      rcases List.mem_cons.mp ((h r).mp (List.mem_cons_of_mem _ hr)) with e | e
      · subst e; exact (irr _ (ha'.1 r hr)).elim
      · exact e
    · intro hr
      rcases List.mem_cons.mp ((h r).mpr (List.mem_cons_of_mem _ hr)) with e | e
      · subst e; exact (irr _ (hb'.1 r hr)).elim
      · exact e
end Mi
namespace Co
open PySem L2 Mi
def grp (Rs : List Rw) (g : Str) : List Str := (Rs.filter fun r => decide (r.2 = g)).map (·.1)
theorem grp_snoc (Rs : List Rw) (r : Rw) (g : Str) : grp (Rs ++ [r]) g = grp Rs g ++ (if r.2 = g then [r.1] else []) := by
  unfold grp
  rw [List.filter_append, List.map_append]
  congr 1
  by_cases h : r.2 = g
  · rw [if_pos h]; simp [h]
  · rw [if_neg h]; simp [h]
theorem putK_keys {kvs : List (Key × V)} {us : List Str} {u : Str} {v : V} (h : kvs.map (·.1) = us.map Sum.inr) : (putK kvs (Sum.inr u) v).map (·.1) = (if u ∈ us then us else us ++ [u]).map Sum.inr := by
  have hany : (kvs.any fun kv => decide (kv.1 = (Sum.inr u : Key))) = decide (u ∈ us) := by
    rw [Bool.eq_iff_iff, List.any_eq_true, decide_eq_true_eq]
    constructor
    · rintro ⟨kv, hm, e⟩
      have hk : kv.1 ∈ kvs.map (·.1) := List.mem_map.mpr ⟨kv, hm, rfl⟩
      rw [h] at hk
      obtain ⟨t, ht, e2⟩ := List.mem_map.mp hk
      have e3 : kv.1 = Sum.inr u := by simpa using e
      have e4 : (Sum.inr t : Key) = Sum.inr u := e2.trans e3
      rw [← Sum.inr.inj e4]
      exact ht
    · intro hu
      have hk : (Sum.inr u : Key) ∈ us.map Sum.inr := List.mem_map.mpr ⟨u, hu, rfl⟩
      rw [← h] at hk
      obtain ⟨kv, hm, e⟩ := List.mem_map.mp hk
      exact ⟨kv, hm, by simpa using e⟩
  unfold putK
  rw [hany]
  by_cases c : u ∈ us
  · rw [decide_eq_true c, if_pos rfl, if_pos c, List.map_map, ← h]
    refine List.map_congr_left fun kv _ => ?_
    show (if kv.1 = Sum.inr u then (kv.1, v) else kv).1 = kv.1
    split <;> rfl
  · rw [decide_eq_false c, if_neg Bool.false_ne_true, if_neg c, List.map_append, List.map_append, h]
    rfl
def GrpAt (H : Hp) (d : Addr) (Rs : List Rw) (gs : List Str) : Prop := ∃ kvs : List (Key × V), H d = some (.dK kvs) ∧ kvs.map (·.1) = gs.map Sum.inr ∧ gs.Nodup ∧ (∀ g, g ∈ gs ↔ ∃ r ∈ Rs, r.2 = g) ∧ gs.length ≤ Rs.length ∧
  ∀ g, (g ∈ gs → ∃ b, valV kvs (Sum.inr g) = some (.ref b) ∧ H b = some (.tup ((grp Rs g).map V.str))) ∧ (g ∉ gs → valV kvs (Sum.inr g) = none)
theorem grp_nil {H : Hp} {d : Addr} (h : H d = some (.dK [])) : GrpAt H d [] [] := ⟨[], h, rfl, List.nodup_nil, by simp, Nat.le_refl _, fun g => ⟨(fun z => by cases z), fun _ => rfl⟩⟩
theorem GrpAt.ts {H H' : Hp} {d : Addr} {Rs : List Rw} {gs : List Str} (h : GrpAt H d Rs gs) (s : TS' H H') (hd : ∀ kvs, H d = some (.dK kvs) → H' d = some (.dK kvs)) : GrpAt H' d Rs gs := by
  obtain ⟨kvs, h1, h2, h3, h4, h5, h6⟩ := h
  refine ⟨kvs, hd _ h1, h2, h3, h4, h5, fun g => ⟨fun hg => ?_, (h6 g).2⟩⟩
  obtain ⟨b, e1, e2⟩ := (h6 g).1 hg
  exact ⟨b, e1, s _ _ e2⟩
theorem GrpAt.same {H H' : Hp} {d : Addr} {Rs : List Rw} {gs : List Str} (h : GrpAt H d Rs gs) (s : Same H H') : GrpAt H' d Rs gs := h.ts s.ts fun kvs e => s _ _ e
theorem GrpAt.get {H : Hp} {d : Addr} {Rs : List Rw} {gs : List Str} (h : GrpAt H d Rs gs) (g : Str) {e : Addr} (he : H e = some (.tup [])) : ∃ o b, DGet H d (.str g) o ∧ o.getD (.ref e) = .ref b ∧ H b = some (.tup ((grp Rs g).map V.str)) := by
  obtain ⟨kvs, h1, h2, h3, h4, h5, h6⟩ := h
  by_cases hg : g ∈ gs
  · obtain ⟨b, e1, e2⟩ := (h6 g).1 hg
    exact ⟨_, b, DGet.k (k := Sum.inr g) h1, by rw [e1]; rfl, e2⟩
  · have hn : grp Rs g = [] := by
      unfold grp
      rw [List.map_eq_nil_iff, List.filter_eq_nil_iff]
      intro r hr hc
      exact hg ((h4 g).mpr ⟨r, hr, by simpa using hc⟩)
    exact ⟨_, e, DGet.k (k := Sum.inr g) h1, by rw [(h6 g).2 hg]; rfl, by rw [hn]; exact he⟩
theorem GrpAt.at {H : Hp} {d : Addr} {Rs : List Rw} {gs : List Str} (h : GrpAt H d Rs gs) {g : Str} (hg : g ∈ gs) : ∃ b, DGet H d (.str g) (some (.ref b)) ∧ H b = some (.tup ((grp Rs g).map V.str)) := by
  obtain ⟨kvs, h1, h2, h3, h4, h5, h6⟩ := h
  obtain ⟨b, e1, e2⟩ := (h6 g).1 hg
  have := DGet.k (k := Sum.inr g) h1
  rw [e1] at this
  exact ⟨b, this, e2⟩
theorem GrpAt.put {H : Hp} {d : Addr} {Rs : List Rw} {gs : List Str} (h : GrpAt H d Rs gs) (r : Rw) {b : Addr} (hb : H b = some (.tup ((grp Rs r.2 ++ [r.1]).map V.str))) (hl : Rs.length ≤ 1000) :
    ∃ H', DPut H d (.str r.2) (.ref b) H' ∧ GrpAt H' d (Rs ++ [r]) (if r.2 ∈ gs then gs else gs ++ [r.2]) ∧ ∀ c o, c ≠ d → H c = some o → H' c = some o := by
  obtain ⟨kvs, h1, h2, h3, h4, h5, h6⟩ := h
  have hkl : kvs.length = gs.length := by have := congrArg List.length h2; rw [List.length_map, List.length_map] at this; exact this
  refine ⟨_, DPut.k (k := Sum.inr r.2) h1 (bigl _ (by omega)), ⟨_, upd_same, putK_keys h2, ?_, fun g => ?_, ?_, fun g => ?_⟩, fun c o hc e => by rw [upd_ne hc]; exact e⟩
  · by_cases c : r.2 ∈ gs
    · rw [if_pos c]; exact h3
    · rw [if_neg c, List.nodup_append]
      exact ⟨h3, by simp, fun x hx y hy e => by rw [List.mem_singleton.mp hy] at e; exact c (e ▸ hx)⟩
  · have base' : (∃ z ∈ Rs ++ [r], z.2 = g) ↔ g ∈ gs ∨ g = r.2 := by
      rw [h4]
      constructor
      · rintro ⟨z, hz, e⟩
        rcases List.mem_append.mp hz with hz | hz
        · exact .inl ⟨z, hz, e⟩
        · rw [List.mem_singleton.mp hz] at e; exact .inr e.symm
      · rintro (⟨z, hz, e⟩ | e)
        · exact ⟨z, List.mem_append_left _ hz, e⟩
        · exact ⟨r, List.mem_append_right _ (by simp), e.symm⟩
    rw [base']
    by_cases c : r.2 ∈ gs
    · rw [if_pos c]; exact ⟨.inl, fun h => h.elim id fun e => e ▸ c⟩
    · rw [if_neg c, List.mem_append, List.mem_singleton]
  · rw [List.length_append, List.length_singleton]
    by_cases c : r.2 ∈ gs
    · rw [if_pos c]; omega
    · rw [if_neg c, List.length_append, List.length_singleton]; omega
  · have ndb : ∀ b' xs, H b' = some (.tup xs) → (upd H d (.dK (putK kvs (Sum.inr r.2) (.ref b))) : Hp) b' = some (.tup xs) := fun b' xs e => by
      rw [upd_ne (fun z => by rw [z, h1] at e; cases e)]; exact e
    rw [grp_snoc, valV_put]
    by_cases e : g = r.2
    · subst e
      have c1 : (if (Sum.inr r.2 : Key) = Sum.inr r.2 then some (V.ref b) else valV kvs (Sum.inr r.2)) = some (V.ref b) := if_pos rfl
      have c2 : (if r.2 = r.2 then [r.1] else []) = [r.1] := if_pos rfl
      rw [c1, c2]
      refine ⟨fun _ => ⟨b, rfl, ndb _ _ hb⟩, fun hn => absurd ?_ hn⟩
      by_cases c : r.2 ∈ gs
      · rw [if_pos c]; exact c
      · rw [if_neg c]; exact List.mem_append_right _ (by simp)
    · rw [if_neg (fun z => e (Sum.inr.inj z)), if_neg (Ne.symm e), List.append_nil]
      have hg : (g ∈ if r.2 ∈ gs then gs else gs ++ [r.2]) ↔ g ∈ gs := by
        by_cases c : r.2 ∈ gs
        · rw [if_pos c]
        · rw [if_neg c, List.mem_append, List.mem_singleton]
          exact ⟨fun h => h.elim id fun z => absurd z e, .inl⟩
      rw [hg]
      refine ⟨fun h => ?_, (h6 g).2⟩
      obtain ⟨b', e1, e2⟩ := (h6 g).1 h
      exact ⟨b', e1, ndb _ _ e2⟩
def TurnAt (H : Hp) (p : Addr) (U : List (Str × List Str)) : Prop := ∃ qs : List (Addr × Str × Addr × List Str), H p = some (.tup (qs.map fun q => V.ref q.1)) ∧ (∀ q ∈ qs, H q.1 = some (.tup [.str q.2.1, .ref q.2.2.1]) ∧ H q.2.2.1 = some (.tup (q.2.2.2.map V.str))) ∧ qs.map (fun q => (q.2.1, q.2.2.2)) = U
theorem TurnAt.ts {H H' : Hp} {p : Addr} {U : List (Str × List Str)} (h : TurnAt H p U) (s : TS' H H') : TurnAt H' p U := by
  obtain ⟨qs, h1, h2, h3⟩ := h
  exact ⟨qs, s _ _ h1, fun q hq => ⟨s _ _ (h2 q hq).1, s _ _ (h2 q hq).2⟩, h3⟩
theorem made_turn {H : Hp} {F : Str → List Str} : ∀ {ts : List Str} {ys : List V}, Paired (fun x v => ∃ g, x = V.str g ∧ ∃ b c, v = V.ref b ∧ H b = some (.tup [.str g, .ref c]) ∧ H c = some (.tup ((F g).map V.str))) (ts.map V.str) ys →
    ∃ qs : List (Addr × Str × Addr × List Str), ys = (qs.map fun q => V.ref q.1) ∧ (∀ q ∈ qs, H q.1 = some (.tup [.str q.2.1, .ref q.2.2.1]) ∧ H q.2.2.1 = some (.tup (q.2.2.2.map V.str))) ∧ qs.map (fun q => (q.2.1, q.2.2.2)) = ts.map fun g => (g, F g)
  | [], _, h => by cases h; exact ⟨[], rfl, (fun q hq => by cases hq), rfl⟩
  | t :: ts, _, h => by
    rw [List.map_cons] at h
    cases h with
    | cons h1 h2 =>
      obtain ⟨g, e, b, c, rfl, hb, hc⟩ := h1
      injection e with e
      subst e
      obtain ⟨qs, e1, e2, e3⟩ := made_turn h2
      refine ⟨(b, t, c, F t) :: qs, by rw [e1]; rfl, fun q hq => ?_, by rw [List.map_cons, List.map_cons, e3]⟩
      rcases List.mem_cons.mp hq with rfl | hq
      · exact ⟨hb, hc⟩
      · exact e2 q hq
end Co
namespace Co
open PySem L2 Mi
theorem compF_rowsT {K : PySem.W.Frag} {J : It} {rs : List (Addr × Rw)} {tt : TT} {te : TE} {fr : St} {H1 : Hp} {QD : Hp → Prop} (f : Addr × Rw → V) (p : Addr × Rw → Bool) (D : Addr) (hD : H1 D = none) (T : Tells J H1 (refs rs)) (hrs : RowsIn H1 rs) (hz : rs.length < sizeLine)
    (ht : ∀ r H R, r ∈ rs → Same H1 H → (∀ H', Same H H' → R (p r) H') → tt (some (.str r.2.1) :: some (.str r.2.2) :: fr) H R)
    (he : ∀ r H R, r ∈ rs → p r = true → Same H1 H → (∀ H', Same H H' → R (f r) H') → te (some (.str r.2.1) :: some (.str r.2.2) :: fr) H R)
    (hd : ∀ H', Same H1 H' → H' D = some (.lst ((rs.filter p).map f)) → QD H') :
    ∃ W : Nat → Nat → List V → Hp → Prop, (∃ m, W 0 m [] (upd H1 D (.lst []))) ∧ ∀ i m ys H2, W i m ys H2 → H2 D = some (.lst ys) ∧
      ((J.stop i H2 ∧ QD H2) ∨ (J.go i H2 ∧ ∀ x H3, J.yld i H2 x H3 → ∀ pre : St, pre.length = 2 → gTup K 2 (gCons (gName 0) (gCons (gName 1) gNil)) x (pre ++ fr) H3 fun σ4 H4 => (∃ pre' : St, pre'.length = 2 ∧ σ4 = pre' ++ fr) ∧
        tt σ4 H4 fun b H5 => if b = true then te σ4 H5 (fun y H6 => H6 D = some (.lst ys) ∧ ys.length < sizeLine ∧ ∃ m', m' < m ∧ W (i + 1) m' (ys ++ [y]) (upd H6 D (.lst (ys ++ [y])))) else ∃ m', m' < m ∧ W (i + 1) m' ys H5)) := by
  refine ⟨fun i m ys H2 => m = rs.length - i ∧ i ≤ rs.length ∧ ys = ((rs.take i).filter p).map f ∧ H2 D = some (.lst ys) ∧ Same H1 H2, ⟨rs.length, by simp, Nat.zero_le _, by simp, upd_same, Same.new hD _⟩, ?_⟩
  rintro i m ys H2 ⟨rfl, hi, rfl, hD2, sm⟩
  refine ⟨hD2, ?_⟩
  by_cases hlt : i < rs.length
  · refine .inr ⟨T.go H2 i sm (by rw [List.length_map]; exact hlt), fun x H3 y pre hpre => ?_⟩
    obtain ⟨rfl, hx⟩ := T.yld H2 i x H3 sm y
    rw [List.getElem?_map, List.getElem?_eq_getElem hlt] at hx
    cases hx
    have hm : rs[i] ∈ rs := List.getElem_mem hlt
    obtain ⟨a0, a1, rfl⟩ : ∃ a0 a1, pre = [a0, a1] := by
      cases pre with
      | nil => simp at hpre
      | cons a0 r => cases r with
        | nil => simp at hpre
        | cons a1 r => cases r with
          | nil => exact ⟨a0, a1, rfl⟩
          | cons _ _ => simp at hpre
    refine ⟨rs[i].1, _, rfl, SqT.of (sm _ _ (hrs _ hm)), rfl, _, _, rfl, _, _, rfl, rfl, ⟨[some (.str rs[i].2.1), some (.str rs[i].2.2)], rfl, rfl⟩, ?_⟩
    have htk : (rs.take (i + 1)).filter p = (rs.take i).filter p ++ (if p rs[i] = true then [rs[i]] else []) := by
      rw [List.take_add_one, List.getElem?_eq_getElem hlt, List.filter_append]
      cases hp : p rs[i] <;> simp [hp]
    refine ht rs[i] H3 _ hm sm fun H5 s5 => ?_
    cases hp : p rs[i] with
    | false =>
      rw [hp, if_neg Bool.false_ne_true, List.append_nil] at htk
      exact iteF ⟨rs.length - (i + 1), by omega, rfl, hlt, by rw [htk], s5 _ _ hD2, sm.trans s5⟩
    | true =>
      rw [hp, if_pos rfl] at htk
      refine iteT (he rs[i] H5 _ hm hp (sm.trans s5) fun H6 s6 => ?_)
      have hl : (((rs.take i).filter p).map f).length ≤ i := by
        rw [List.length_map]
        refine Nat.le_trans (List.length_filter_le _ _) ?_
        rw [List.length_take]; omega
      refine ⟨s6 _ _ (s5 _ _ hD2), by omega, rs.length - (i + 1), by omega, rfl, hlt, ?_, upd_same, ?_⟩
      · rw [htk, List.map_append]; rfl
      · intro b o e
        have hb : b ≠ D := ne_of_none e hD
        rw [upd_ne hb]
        exact s6 _ _ (s5 _ _ (sm _ _ e))
  · have e : i = rs.length := by omega
    subst e
    rw [List.take_length] at hD2
    have hst := T.stop H2 sm
    rw [List.length_map] at hst
    exact .inl ⟨hst, hd H2 sm hD2⟩
end Co
namespace Mi
open PySem L2
theorem mem_flatL {R : List Rw} {r : Rw} (h : r ∈ flatL R) : r.1 ∈ R.map (·.1) ∧ r.2 = stop R r.1 ∧ val R r.2 = none := by
  unfold flatL at h
  obtain ⟨h1, h2⟩ := List.mem_filter.mp h
  obtain ⟨q, hq, rfl⟩ := List.mem_map.mp h1
  refine ⟨List.mem_map.mpr ⟨q, hq, rfl⟩, rfl, ?_⟩
  simpa using h2
theorem strs_eq {as bs : List Str} (ha : as.Pairwise fun a b => HS.ltS a b = true) (hb : bs.Pairwise fun a b => HS.ltS a b = true) (h : ∀ n, n ∈ as ↔ n ∈ bs) : as = bs := by
  have e := rise_eq (A := as.map fun n => (n, ("" : Str))) (B := bs.map fun n => (n, ("" : Str))) (by unfold Rise; rw [List.pairwise_map]; exact ha) (by unfold Rise; rw [List.pairwise_map]; exact hb) fun r => by
    constructor
    · intro hr
      obtain ⟨n, hn, rfl⟩ := List.mem_map.mp hr
      exact List.mem_map.mpr ⟨n, (h n).mp hn, rfl⟩
    · intro hr
      obtain ⟨n, hn, rfl⟩ := List.mem_map.mp hr
      exact List.mem_map.mpr ⟨n, (h n).mpr hn, rfl⟩
  have e2 := congrArg (List.map fun (r : Rw) => r.1) e
  rw [List.map_map, List.map_map] at e2
  have id' : ∀ l : List Str, l.map ((fun (r : Rw) => r.1) ∘ fun n => (n, ("" : Str))) = l := fun l => by
    have : ∀ n ∈ l, ((fun (r : Rw) => r.1) ∘ fun n => (n, ("" : Str))) n = n := fun n _ => rfl
    rw [List.map_congr_left this, List.map_id']
  rw [id', id'] at e2
  exact e2
end Mi
namespace Co
open PySem L2 Mi
def St1 (K : PySem.W.Frag) (a t : Addr) (ns : List Int) (n : Nat) (H : Hp) : Prop := (∃ zs, H t = some (.lst zs) ∧ zs.length ≤ n) ∧ Scr K H a ns
theorem St1.same {K : PySem.W.Frag} {a t : Addr} {ns : List Int} {n : Nat} {H H' : Hp} (h : St1 K a t ns n H) (s : Same H H') : St1 K a t ns n H' := by
  obtain ⟨⟨zs, h1, h2⟩, h3⟩ := h
  exact ⟨⟨zs, s _ _ h1, h2⟩, h3.same s⟩
theorem St1.up {K : PySem.W.Frag} {a t : Addr} {ns : List Int} {n m : Nat} {H : Hp} (h : St1 K a t ns n H) (hm : n ≤ m) : St1 K a t ns m H := by
  obtain ⟨⟨zs, h1, h2⟩, h3⟩ := h
  exact ⟨⟨zs, h1, by omega⟩, h3⟩
theorem St1.drawn {K : PySem.W.Frag} {a t : Addr} {ns : List Int} {n m : Nat} {H H' : Hp} {zs zs' : List V} (h : St1 K a t ns n H) (h0 : H t = some (.lst zs)) (h1 : H' t = some (.lst zs')) (hl : zs'.length ≤ m) (s : Stp t H H') : St1 K a t ns m H' ∧ TS' H H' :=
  ⟨⟨⟨_, h1, hl⟩, h.2.stp h0 s⟩, s.ts h0⟩
theorem St1.frz {K : PySem.W.Frag} {a t g : Addr} {ns : List Int} {n : Nat} {H : Hp} {o : Obj} {kvs : List (Key × V)} (h : St1 K a t ns n H) (hg : H g = some (.dK kvs)) : St1 K a t ns n (upd H g (.frz o (.dK kvs))) ∧ TS' H (upd H g (.frz o (.dK kvs))) := by
  obtain ⟨⟨zs, h1, h2⟩, h3⟩ := h
  refine ⟨⟨⟨zs, by rw [upd_ne (fun e => by rw [e, hg] at h1; cases h1)]; exact h1, h2⟩, ?_⟩, fun b xs hb => ?_⟩
  · rcases h3 with ⟨o', h3⟩ | h3
    · exact .inl ⟨o', by rw [upd_ne (fun e => by rw [e, hg] at h3; cases h3)]; exact h3⟩
    · exact .inr h3
  · rw [upd_ne (fun e => by rw [e, hg] at hb; cases hb)]; exact hb
end Co
namespace Mi
open PySem L2
def nx (R : List Rw) (n : Str) : Str := (val R n).getD n
def it (R : List Rw) : Nat → Str → Str
  | 0, n => n
  | k + 1, n => it R k (nx R n)
theorem it_add (R : List Rw) : ∀ (j k : Nat) (n : Str), it R (j + k) n = it R k (it R j n)
  | 0, k, n => by rw [Nat.zero_add]; rfl
  | j + 1, k, n => by
    rw [Nat.succ_add]
    exact it_add R j k (nx R n)
theorem it_succ' (R : List Rw) (k : Nat) (n : Str) : it R (k + 1) n = nx R (it R k n) := it_add R k 1 n
theorem nx_none {R : List Rw} {n : Str} (h : val R n = none) : nx R n = n := by unfold nx; rw [h]; rfl
theorem nx_some {R : List Rw} {n m : Str} (h : val R n = some m) : nx R n = m := by unfold nx; rw [h]; rfl
theorem it_fix {R : List Rw} {e : Str} (h : val R e = none) : ∀ k, it R k e = e
  | 0 => rfl
  | k + 1 => by show it R k (nx R e) = e; rw [nx_none h]; exact it_fix h k
theorem stopF_it {R : List Rw} : ∀ (f : Nat) (P : List Str) (n : Str), P.Nodup → (∀ x ∈ P, x ∈ R.map (·.1)) → ∃ j, stopF R f P n = it R j n ∧ (j = 0 ∨ j + P.length ≤ R.length)
  | 0, _, n, _, _ => ⟨0, rfl, .inl rfl⟩
  | f + 1, P, n, nd, hk => by
    cases h : val R n with
    | none => exact ⟨0, stopF_none h, .inl rfl⟩
    | some m =>
      by_cases hp : n ∈ P
      · exact ⟨0, stopF_passed hp, .inl rfl⟩
      · have nd2 : (P ++ [n]).Nodup := by
          rw [List.nodup_append]
          exact ⟨nd, by simp, fun x hx y hy e => by rw [List.mem_singleton.mp hy] at e; exact hp (e ▸ hx)⟩
        have hk2 : ∀ x ∈ P ++ [n], x ∈ R.map (·.1) := fun x hx => by
          rcases List.mem_append.mp hx with hx | hx
          · exact hk x hx
          · rw [List.mem_singleton.mp hx]; exact List.mem_map.mpr ⟨_, val_mem h, rfl⟩
        obtain ⟨j, e, hj⟩ := stopF_it f (P ++ [n]) m nd2 hk2
        have hl := nodup_len' nd2 hk2
        rw [List.length_map, List.length_append, List.length_singleton] at hl
        rw [List.length_append, List.length_singleton] at hj
        refine ⟨j + 1, ?_, .inr (by omega)⟩
        rw [stopF_succ h hp, e]
        show it R j m = it R j (nx R n)
        rw [nx_some h]
theorem stop_it (R : List Rw) (n : Str) : ∃ j, stop R n = it R j n ∧ j ≤ R.length := by
  obtain ⟨j, e, h⟩ := stopF_it (R := R) (R.length + 1) [] n List.nodup_nil (fun x hx => by cases hx)
  refine ⟨j, e, ?_⟩
  rcases h with h | h
  · omega
  · simpa using h
theorem leads_mem {R : List Rw} {n : Str} : ∀ {L : List Str} {cur : Str}, Leads R n cur L → cur ∈ n :: L ∧ (∀ x ∈ L, val R x ≠ none ∧ nx R x ∈ n :: L)
  | [], cur, h => ⟨by rw [show cur = n from h]; exact List.mem_cons_self .., (fun x hx => by cases hx)⟩
  | x :: L, cur, h => by
    obtain ⟨rfl, hne, m, hm, hl⟩ := h
    obtain ⟨h1, h2⟩ := leads_mem hl
    have up : ∀ y, y ∈ n :: L → y ∈ n :: cur :: L := fun y hy => by
      rcases List.mem_cons.mp hy with rfl | hy
      · exact List.mem_cons_self ..
      · exact List.mem_cons_of_mem _ (List.mem_cons_of_mem _ hy)
    refine ⟨List.mem_cons_of_mem _ (List.mem_cons_self ..), fun y hy => ?_⟩
    rcases List.mem_cons.mp hy with rfl | hy
    · exact ⟨(by rw [hm]; exact fun e => nomatch e), by rw [nx_some hm]; exact up _ h1⟩
    · exact ⟨(h2 y hy).1, up _ (h2 y hy).2⟩
theorem on_ring {R : List Rw} {n : Str} (h : val R (stop R n) ≠ none) (k : Nat) : val R (it R k (stop R n)) ≠ none := by
  obtain ⟨L, m, _, hm, hl, _⟩ := ring_is h
  obtain ⟨h1, h2⟩ := leads_mem hl
  have cl : ∀ x ∈ stop R n :: L, val R x ≠ none ∧ nx R x ∈ stop R n :: L := fun x hx => by
    rcases List.mem_cons.mp hx with rfl | hx
    · exact ⟨h, by rw [nx_some hm]; exact h1⟩
    · exact h2 x hx
  have all : ∀ k x, x ∈ stop R n :: L → it R k x ∈ stop R n :: L := fun k => by
    induction k with
    | zero => exact fun x hx => hx
    | succ k ih => exact fun x hx => ih _ (cl x hx).2
  exact (cl _ (all k _ (List.mem_cons_self ..))).1
theorem ends_iff {R : List Rw} {n e : Str} : (val R (stop R n) = none ∧ stop R n = e) ↔ ∃ k, it R k n = e ∧ val R e = none := by
  obtain ⟨j, ej, _⟩ := stop_it R n
  constructor
  · rintro ⟨h1, rfl⟩; exact ⟨j, ej.symm, h1⟩
  · rintro ⟨k, hk, he⟩
    have e1 : it R k (stop R n) = e := by rw [ej, ← it_add, Nat.add_comm, it_add, hk]; exact it_fix he j
    by_cases h : val R (stop R n) = none
    · exact ⟨h, by rw [← e1, it_fix h]⟩
    · exact absurd (e1 ▸ he) (on_ring h k)
theorem ends_step {R : List Rw} {n m : Str} (h : val R n = some m) (e : Str) : (val R (stop R n) = none ∧ stop R n = e) ↔ (val R (stop R m) = none ∧ stop R m = e) := by
  rw [ends_iff, ends_iff]
  constructor
  · rintro ⟨k, hk, he⟩
    cases k with
    | zero => rw [show n = e from hk, he] at h; cases h
    | succ k => refine ⟨k, ?_, he⟩; rw [← nx_some h]; exact hk
  · rintro ⟨k, hk, he⟩
    refine ⟨k + 1, ?_, he⟩
    show it R k (nx R n) = e
    rw [nx_some h]; exact hk
theorem ends_goal {R : List Rw} {n m : Str} (h : val R n = some m) : (val R (stop R n) = none ↔ val R (stop R m) = none) ∧ (val R (stop R n) = none → stop R n = stop R m) := by
  refine ⟨⟨fun h1 => ((ends_step h (stop R n)).mp ⟨h1, rfl⟩).1, fun h1 => ((ends_step h (stop R m)).mpr ⟨h1, rfl⟩).1⟩, fun h1 => ((ends_step h (stop R n)).mp ⟨h1, rfl⟩).2.symm⟩
structure Cyc (R : List Rw) (h : Str) (l : Nat) : Prop where
  pos : 0 < l
  back : it R l h = h
  first : ∀ i, 0 < i → i < l → it R i h ≠ h
  go : ∀ i, val R (it R i h) ≠ none
def orb (R : List Rw) (h : Str) (l : Nat) : List Str := (List.range l).map fun i => it R i h
theorem orb_len (R : List Rw) (h : Str) (l : Nat) : (orb R h l).length = l := by unfold orb; rw [List.length_map, List.length_range]
theorem orb_get {R : List Rw} {h : Str} {l i : Nat} (hi : i < l) : (orb R h l)[i]? = some (it R i h) := by
  unfold orb
  rw [List.getElem?_map, List.getElem?_range hi]; rfl
theorem orb_mem {R : List Rw} {h x : Str} {l : Nat} : x ∈ orb R h l ↔ ∃ i, i < l ∧ it R i h = x := by
  unfold orb
  simp [List.mem_map, List.mem_range]
theorem Cyc.mul {R : List Rw} {h : Str} {l : Nat} (c : Cyc R h l) : ∀ q, it R (q * l) h = h
  | 0 => by rw [Nat.zero_mul]; rfl
  | q + 1 => by rw [Nat.succ_mul, it_add, c.mul q, c.back]
theorem Cyc.mem {R : List Rw} {h : Str} {l : Nat} (c : Cyc R h l) (k : Nat) : it R k h ∈ orb R h l := by
  refine orb_mem.mpr ⟨k % l, Nat.mod_lt _ c.pos, ?_⟩
  conv => rhs; rw [← Nat.div_add_mod k l, Nat.mul_comm, it_add, c.mul]
theorem leads_it {R : List Rw} {n : Str} : ∀ {L : List Str} {cur : Str}, Leads R n cur L → (∀ i x, L[i]? = some x → x = it R i cur ∧ x ≠ n) ∧ it R L.length cur = n
  | [], cur, h => ⟨(fun i x hx => by simp at hx), h⟩
  | x :: L, cur, h => by
    obtain ⟨rfl, hne, m, hm, hl⟩ := h
    obtain ⟨h1, h2⟩ := leads_it hl
    refine ⟨fun i y hy => ?_, ?_⟩
    · cases i with
      | zero => simp at hy; subst hy; exact ⟨rfl, hne⟩
      | succ i =>
        have := h1 i y (by simpa using hy)
        refine ⟨?_, this.2⟩
        rw [this.1]
        show it R i m = it R i (nx R cur)
        rw [nx_some hm]
    · show it R L.length (nx R cur) = n
      rw [nx_some hm]; exact h2
theorem ring_cyc {R : List Rw} {n : Str} (h : val R (stop R n) ≠ none) : ∃ l, ringOf R n = orb R (stop R n) l ∧ Cyc R (stop R n) l ∧ l ≤ R.length + 1 := by
  obtain ⟨L, m, e, hm, hl, hLl⟩ := ring_is h
  obtain ⟨h1, h2⟩ := leads_it hl
  refine ⟨L.length + 1, ?_, ⟨Nat.succ_pos _, ?_, fun i h0 hi => ?_, on_ring h⟩, by omega⟩
  · rw [e]
    refine List.ext_getElem? fun i => ?_
    by_cases hi : i < L.length + 1
    · rw [orb_get hi]
      cases i with
      | zero => rfl
      | succ i =>
        have hi' : i < L.length := by omega
        have := h1 i L[i] (List.getElem?_eq_getElem hi')
        rw [List.getElem?_cons_succ, List.getElem?_eq_getElem hi', this.1]
        show some (it R i m) = some (it R i (nx R (stop R n)))
        rw [nx_some hm]
    · rw [List.getElem?_eq_none (by rw [List.length_cons]; omega), List.getElem?_eq_none (by rw [orb_len]; omega)]
  · show it R L.length (nx R (stop R n)) = stop R n
    rw [nx_some hm]; exact h2
  · obtain ⟨i', rfl⟩ : ∃ i', i = i' + 1 := ⟨i - 1, by omega⟩
    have hi' : i' < L.length := by omega
    have := h1 i' L[i'] (List.getElem?_eq_getElem hi')
    show it R i' (nx R (stop R n)) ≠ stop R n
    rw [nx_some hm, ← this.1]
    exact this.2
theorem Cyc.turn {R : List Rw} {h : Str} {l i : Nat} (c : Cyc R h l) (hi : i < l) : Cyc R (it R i h) l ∧ (orb R h l).drop i ++ (orb R h l).take i = orb R (it R i h) l := by
  refine ⟨⟨c.pos, ?_, fun j h0 hj e => ?_, fun j => ?_⟩, ?_⟩
  · rw [← it_add, Nat.add_comm, it_add, c.back]
  · have e2 : it R (l - i) (it R i h) = h := by rw [← it_add, show i + (l - i) = l by omega, c.back]
    have e3 : it R j h = h := by
      conv => lhs; rw [← e2]
      rw [← it_add, Nat.add_comm, it_add, e, e2]
    exact c.first j h0 hj e3
  · rw [← it_add]; exact c.go _
  · refine List.ext_getElem? fun j => ?_
    by_cases hj : j < l
    · rw [orb_get hj]
      by_cases hd : j < l - i
      · rw [List.getElem?_append_left (by rw [List.length_drop, orb_len]; exact hd), List.getElem?_drop, orb_get (by omega), it_add]
      · rw [List.getElem?_append_right (by rw [List.length_drop, orb_len]; omega), List.length_drop, orb_len, List.getElem?_take, if_pos (by omega), orb_get (by omega)]
        rw [← it_add, show i + j = l + (j - (l - i)) by omega, it_add, c.back]
    · rw [List.getElem?_eq_none (by rw [List.length_append, List.length_drop, List.length_take, orb_len]; omega), List.getElem?_eq_none (by rw [orb_len]; omega)]
theorem best_is (g : Nat → Str) : ∀ k i, i ≤ k → HS.ltS (g i) (g (argBest (fun i j => HS.ltS (g i) (g j)) k)) = false
  | 0, i, hi => by
    have : i = 0 := by omega
    subst this
    exact HS.ltS_irr _
  | k + 1, i, hi => by
    have ih := best_is g k
    have e : argBest (fun i j => HS.ltS (g i) (g j)) (k + 1) = if HS.ltS (g (k + 1)) (g (argBest (fun i j => HS.ltS (g i) (g j)) k)) then k + 1 else argBest (fun i j => HS.ltS (g i) (g j)) k := rfl
    rw [e]
    cases h : HS.ltS (g (k + 1)) (g (argBest (fun i j => HS.ltS (g i) (g j)) k)) with
    | true =>
      rw [if_pos rfl]
      by_cases hk : i = k + 1
      · rw [hk]; exact HS.ltS_irr _
      · exact HS.ltS_tr _ _ _ (HS.ltS_tot _ _ h) (ih i (by omega))
    | false =>
      rw [if_neg Bool.false_ne_true]
      by_cases hk : i = k + 1
      · rw [hk]; exact h
      · exact ih i (by omega)
theorem minS_le {ts : List Str} {x : Str} (h : x ∈ ts) : HS.ltS x (minS ts) = false := by
  obtain ⟨i, hi, rfl⟩ := List.mem_iff_getElem.mp h
  have := best_is (fun i => ts.getD i "") (ts.length - 1) i (by omega)
  have e : ts.getD i "" = ts[i] := by rw [List.getD_eq_getElem?_getD, List.getElem?_eq_getElem hi]; rfl
  simp only [e] at this
  exact this
structure Rg (R : List Rw) (u : List Str) (h : Str) (l : Nat) : Prop where
  is : u = orb R h l
  cyc : Cyc R h l
  min : ∀ x ∈ u, HS.ltS x h = false
theorem least_rg {R : List Rw} {n : Str} (h : val R (stop R n) ≠ none) : ∃ h l, Rg R (least (ringOf R n)) h l ∧ l ≤ R.length + 1 ∧ ∀ k, it R k (stop R n) ∈ least (ringOf R n) := by
  obtain ⟨l, e, c, hl⟩ := ring_cyc h
  have hne : ringOf R n ≠ [] := fun z => by
    have := congrArg List.length z
    rw [e, orb_len] at this
    exact absurd this (Nat.ne_of_gt c.pos)
  have hm := minS_mem hne
  have hi := List.idxOf_lt_length_of_mem hm
  have hi2 : (ringOf R n).idxOf (minS (ringOf R n)) < l := by
    have : (ringOf R n).length = l := by rw [e, orb_len]
    omega
  have hh : it R ((ringOf R n).idxOf (minS (ringOf R n))) (stop R n) = minS (ringOf R n) := by
    have h1 := orb_get (R := R) (h := stop R n) hi2
    rw [← e, List.getElem?_eq_getElem hi, List.getElem_idxOf] at h1
    exact (Option.some.inj h1).symm
  obtain ⟨c2, e2⟩ := c.turn hi2
  have e3 : least (ringOf R n) = orb R (it R ((ringOf R n).idxOf (minS (ringOf R n))) (stop R n)) l := by
    unfold least
    rw [← e2]
    conv => lhs; lhs; arg 2; rw [e]
    conv => lhs; rhs; arg 2; rw [e]
  have hmem : ∀ x, x ∈ least (ringOf R n) → x ∈ ringOf R n := fun x hx => by
    unfold least at hx
    rcases List.mem_append.mp hx with hx | hx
    · exact List.mem_of_mem_drop hx
    · exact List.mem_of_mem_take hx
  have hmem2 : ∀ x, x ∈ ringOf R n → x ∈ least (ringOf R n) := fun x hx => by
    unfold least
    rw [← List.take_append_drop ((ringOf R n).idxOf (minS (ringOf R n))) (ringOf R n)] at hx
    rcases List.mem_append.mp hx with hx | hx
    · exact List.mem_append_right _ hx
    · exact List.mem_append_left _ hx
  refine ⟨_, l, ⟨e3, c2, fun x hx => ?_⟩, hl, fun k => hmem2 _ (by rw [e]; exact c.mem k)⟩
  rw [hh]
  exact minS_le (hmem x hx)
theorem Rg.len {R : List Rw} {u : List Str} {h : Str} {l : Nat} (r : Rg R u h l) : u.length = l := by rw [r.is, orb_len]
theorem Rg.get {R : List Rw} {u : List Str} {h : Str} {l i : Nat} (r : Rg R u h l) (hi : i < l) : u[i]? = some (it R i h) := by rw [r.is]; exact orb_get hi
theorem Rg.next {R : List Rw} {u : List Str} {h x : Str} {l i : Nat} (r : Rg R u h l) (hx : u[i]? = some x) : ∃ y, val R x = some y ∧ (if i + 1 < l then u[i + 1]? = some y else y = h) := by
  have hi : i < l := by rw [← r.len]; exact (List.getElem?_eq_some_iff.mp hx).1
  rw [r.get hi] at hx
  injection hx with hx
  have hg := r.cyc.go i
  cases hv : val R (it R i h) with
  | none => exact absurd hv hg
  | some y =>
    have e : it R (i + 1) h = y := by rw [it_succ', nx_some hv]
    refine ⟨y, by rw [← hx]; exact hv, ?_⟩
    by_cases c : i + 1 < l
    · rw [if_pos c, r.get c, e]
    · rw [if_neg c, ← e, show i + 1 = l by omega, r.cyc.back]
theorem Rg.nd {R : List Rw} {u : List Str} {h : Str} {l i j : Nat} (r : Rg R u h l) (hi : i < j) (hj : j < l) : it R i h ≠ it R j h := fun e => by
  have e2 : it R (l - j + i) h = h := by
    rw [Nat.add_comm, it_add, e, ← it_add, show j + (l - j) = l by omega, r.cyc.back]
  exact r.cyc.first (l - j + i) (by omega) (by omega) e2
theorem Rg.same {R : List Rw} {u u' : List Str} {h h' x : Str} {l l' : Nat} (r : Rg R u h l) (r' : Rg R u' h' l') (h1 : x ∈ u) (h2 : x ∈ u') : u = u' := by
  have key : ∀ {u u' : List Str} {h h' : Str} {l l' : Nat}, Rg R u h l → Rg R u' h' l' → x ∈ u → x ∈ u' → h ∈ u' := fun {u u' h h' l l'} r r' h1 h2 => by
    rw [r.is] at h1
    rw [r'.is] at h2 ⊢
    obtain ⟨i, hi, e⟩ := orb_mem.mp h1
    obtain ⟨j, hj, e'⟩ := orb_mem.mp h2
    have e3 : it R (j + (l - i)) h' = h := by rw [it_add, e', ← e, ← it_add, show i + (l - i) = l by omega, r.cyc.back]
    rw [← e3]
    exact r'.cyc.mem _
  have hh : h = h' := HS.ltS_tri (r'.min h (key r r' h1 h2)) (r.min h' (key r' r h2 h1))
  subst hh
  have hl : l = l' := by
    rcases Nat.lt_trichotomy l l' with c | c | c
    · exact absurd r.cyc.back (r'.cyc.first l r.cyc.pos c)
    · exact c
    · exact absurd r'.cyc.back (r.cyc.first l' r'.cyc.pos c)
  rw [r.is, r'.is, hl]
theorem round_of {R : List Rw} {n : Str} (h : ∀ k, val R (it R k n) ≠ none) : val R (stop R n) ≠ none := by
  obtain ⟨j, e, _⟩ := stop_it R n
  rw [e]
  exact h j
end Mi
namespace Co
open PySem L2 Mi
theorem dat_strs {K : PySem.W.Frag} {H : Hp} : ∀ ts : List Str, AreDat K H (ts.map Dat.str) (ts.map V.str)
  | [] => rfl
  | t :: ts => ⟨_, _, rfl, rfl, dat_strs ts⟩
theorem deep_strs : ∀ ts : List Str, Dat.deeps (ts.map Dat.str) ≤ 3
  | [] => by decide
  | t :: ts => by
    have ih := deep_strs ts
    have e : Dat.deeps ((t :: ts).map Dat.str) = max (Dat.deep (.str t)) (Dat.deeps (ts.map Dat.str)) := rfl
    have e2 : Dat.deep (.str t) ≤ 3 := by
      show 0 ≤ 3
      omega
    rw [e]
    omega
theorem hu8 {A : Around} {k : Nat} (hr : Room k A) : A.units + 8 < cLine := Nat.lt_of_le_of_lt (Nat.add_le_add_left (by decide : 8 ≤ 64) _) hr.units
abbrev tupD (u : List Str) : Dat := .tup (u.map Dat.str)
theorem deeps0 : ∀ u : List Str, Dat.deeps (u.map Dat.str) = 0
  | [] => rfl
  | t :: u => by show max 0 (Dat.deeps (u.map Dat.str)) = 0; rw [deeps0 u]; rfl
theorem dat_tups {K : PySem.W.Frag} {H : Hp} : ∀ {rs : List (Addr × List Str)}, (∀ r ∈ rs, H r.1 = some (.tup (r.2.map V.str))) → AreDat K H ((rs.map (·.2)).map tupD) (rs.map fun r => V.ref r.1)
  | [], _ => rfl
  | r :: rs, h => ⟨_, _, rfl, ⟨r.1, _, rfl, SqT.of (h r (List.mem_cons_self ..)), dat_strs _⟩, dat_tups fun q hq => h q (List.mem_cons_of_mem _ hq)⟩
theorem deep_tups : ∀ T : List (List Str), Dat.deeps (T.map tupD) ≤ 3
  | [] => by decide
  | u :: T => by
    have ih := deep_tups T
    have e : Dat.deeps ((u :: T).map tupD) = max (Dat.deeps (u.map Dat.str) + 1) (Dat.deeps (T.map tupD)) := rfl
    rw [e, deeps0]
    omega
abbrev turnD (u : Str × List Str) : Dat := .tup [.str u.1, tupD u.2]
theorem dat_turn {K : PySem.W.Frag} {H : Hp} : ∀ {qs : List (Addr × Str × Addr × List Str)}, (∀ q ∈ qs, H q.1 = some (.tup [.str q.2.1, .ref q.2.2.1]) ∧ H q.2.2.1 = some (.tup (q.2.2.2.map V.str))) → AreDat K H ((qs.map fun q => (q.2.1, q.2.2.2)).map turnD) (qs.map fun q => V.ref q.1)
  | [], _ => rfl
  | r :: rs, h => by
    obtain ⟨h1, h2⟩ := h r (List.mem_cons_self ..)
    exact ⟨_, _, rfl, ⟨r.1, _, rfl, SqT.of h1, _, _, rfl, rfl, _, _, rfl, ⟨r.2.2.1, _, rfl, SqT.of h2, dat_strs _⟩, rfl⟩, dat_turn fun q hq => h q (List.mem_cons_of_mem _ hq)⟩
theorem deep_turn : ∀ U : List (Str × List Str), Dat.deeps (U.map turnD) ≤ 3
  | [] => by decide
  | u :: U => by
    have ih := deep_turn U
    have e : Dat.deeps ((u :: U).map turnD) = max (max 0 (max (Dat.deeps (u.2.map Dat.str) + 1) 0) + 1) (Dat.deeps (U.map turnD)) := rfl
    rw [e, deeps0]
    omega
theorem for_dict {a : Addr} {o : Obj} {kvs : List (Key × V)} {g : TG} {tb : TS} {D : Ends} {σ : St} {H : Hp} (Pv : Nat → St → Hp → Prop) (h0 : Pv 0 σ H) (hl : ∀ i σ H, Pv i σ H → H a = some (.frz o (.dK kvs)))
    (hs : ∀ i x σ H, (kvs.map fun p => kV p.1)[i]? = some x → Pv i σ H → g x σ H fun σ2 H2 => tb { D with nx := Pv (i + 1), ct := Pv (i + 1), bk := D.nx } σ2 H2) (hd : ∀ σ H, Pv kvs.length σ H → D.nx σ H) :
    ∃ W : Nat → Nat → St → Hp → Prop, (∃ m, W 0 m σ H) ∧ ∀ i m σ H, W i m σ H →
      ((Itd a o kvs).stop i H ∧ D.nx σ H) ∨ ((Itd a o kvs).go i H ∧ ∃ N : St → Hp → Prop, (∀ σ' H', N σ' H' → ∃ m', m' < m ∧ W (i + 1) m' σ' H') ∧ ∀ x H', (Itd a o kvs).yld i H x H' → g x σ H' fun σ2 H2 => tb { D with nx := N, ct := N, bk := D.nx } σ2 H2) := by
  refine ⟨fun i m σ H => m = kvs.length - i ∧ i ≤ kvs.length ∧ Pv i σ H, ⟨kvs.length, by simp, Nat.zero_le _, h0⟩, ?_⟩
  rintro i m σ H ⟨rfl, hi, p⟩
  have q := hl i σ H p
  by_cases hlt : i < kvs.length
  · refine .inr ⟨⟨q, hlt⟩, Pv (i + 1), fun σ' H' p' => ⟨kvs.length - (i + 1), by omega, rfl, hlt, p'⟩, fun x H' y => ?_⟩
    obtain ⟨rfl, hx⟩ := y
    exact hs i x σ _ hx p
  · have e : i = kvs.length := by omega
    subst e
    exact .inl ⟨⟨q, Nat.le_refl _⟩, hd σ H p⟩
end Co
namespace LW
open PySem L2 Mi Co
def top (i : Nat) : Stmt := PySem.Challenge.pw_pagenames_k28_whole_rows_step_by_step.main.body.getD i (.Pass ⟨0, 0, 0, 0⟩)
abbrev sStop : Stmt := top 6
abbrev sLeads : Stmt := top 7
abbrev sEnd : Stmt := top 8
abbrev sRingFrom : Stmt := top 9
abbrev sLeast : Stmt := top 10
abbrev sRings : Stmt := top 11
abbrev sFlat : Stmt := top 12
abbrev sLed : Stmt := top 13
abbrev sTurned : Stmt := top 14
abbrev sDraw : Stmt := top 16
abbrev sPick : Stmt := top 17
abbrev sMixed : Stmt := top 18
abbrev sRows : Stmt := top 19
abbrev sLEnd : Stmt := top 20
abbrev sHold : Stmt := top 21
abbrev sLaw : Stmt := top 22
end LW
namespace LW
open PySem L2 Mi Co
section
variable {P : Program} {w : World} {K : PySem.W.Frag} {mg : Str → Option Value} {base : Heap} {f : Addr} {fd : FuncData}
def passedK (P : List Str) : List (Key × V) := P.map fun n => ((Sum.inr n : Key), V.bl true)
theorem passed_val (P : List Str) (n : Str) : (valV (passedK P) (Sum.inr n)).isSome = decide (n ∈ P) := by
  induction P with
  | nil => rfl
  | cons p P ih =>
    show (valV ((Sum.inr p, V.bl true) :: passedK P) _).isSome = _
    by_cases h : p = n
    · rw [valV_pos (show ((Sum.inr p : Key), V.bl true).1 = Sum.inr n by rw [h])]
      simp [h]
    · rw [valV_neg (show ¬ ((Sum.inr p : Key), V.bl true).1 = Sum.inr n from fun e => h (Sum.inr.inj e)), ih]
      simp [fun e => h (Eq.symm e), Ne.symm h]
theorem passed_put {P : List Str} {n : Str} (h : n ∉ P) : putK (passedK P) (Sum.inr n) (.bl true) = passedK (P ++ [n]) := by
  have : valV (passedK P) (Sum.inr n) = none := by
    have e := passed_val P n
    rw [decide_eq_false h] at e
    cases hv : valV (passedK P) (Sum.inr n) with
    | none => rfl
    | some v => rw [hv] at e; cases e
  rw [putK_new _ this]
  unfold passedK
  rw [List.map_append]
  rfl
theorem scStop : FnScope ["goals", "name", "passed"] ["goals", "name"] (defScope sStop) := ⟨rfl, rfl, rfl, by decide +kernel, rfl, by decide +kernel, by decide +kernel⟩
theorem ok_stop {k : Nat} (F : Fun K "stop_of" "stop_of" sStop f fd) : FnOk P w K mg base CX0 (k + 1) f fd ["goals", "name"] spStop := by
  refine F.ok scStop (fun vs H Q E h => ?_) (fun cdv A outer s H vs Q E hr h => ?_)
  · obtain ⟨d, R, n, rfl, _⟩ := h
    rfl
  obtain ⟨d, R, n, rfl, hd, hz, q⟩ := h
  have hu := hu_of hr
  refine ⟨_, pss_cons (ps_set (i := 2) scStop.nd rfl (Or.inl rfl) pe_dnewK)
    (pss_cons (ps_while PassesOwn.never (PW.pt (pw_and (pt_cmp (pc_din hu (pv 1) (pv 0)) (by with_unfolding_all rfl)) (pw_and1 (pt_cmp (pc_dnotin hu (pv 1) (pv 2)) (by with_unfolding_all rfl)))))
      (pss_cons (ps_dput hu (pv 2) (pv 1) pe_bl rfl) (pss_one (ps_set (i := 1) scStop.nd rfl (Or.inl rfl) (pe_dget hu (pv 0) (pv 1) fun _ _ => rfl)))))
    (pss_one (ps_ret (pv 1)))), ?_⟩
  intro p np
  have hpd : d ≠ p := ne_of_none hd np
  refine ⟨fun m σ H' => ∃ (n' : Str) (P : List Str), σ = [some (.ref d), some (.str n'), some (.ref p)] ∧ H' p = some (.dK (passedK P)) ∧ Same H H' ∧ P.Nodup ∧ (∀ x ∈ P, x ∈ R.map (·.1)) ∧ stopF R m P n' = stop R n ∧ m + P.length = R.length + 1,
    ⟨R.length + 1, n, [], rfl, upd_same, Same.new np _, List.nodup_nil, by simp, rfl, by simp⟩, ?_⟩
  rintro m σ H1 ⟨n', P, rfl, hp, sm, nd, hP, hs, hm⟩
  have hd1 := sm _ _ hd
  refine ⟨_, rfl, _, rfl, d, _, rfl, DGet.k (k := Sum.inr n') hd1, _, rfl, ?_⟩
  rw [dk_val]
  cases hv : val R n' with
  | none =>
    refine iteF ⟨_, rfl, ?_⟩
    rw [← hs, stopF_none hv] at q
    exact q H1 sm
  | some g =>
    refine iteT ⟨_, rfl, _, rfl, p, _, rfl, DGet.k (k := Sum.inr n') hp, _, rfl, ?_⟩
    rw [passed_val]
    by_cases hn : n' ∈ P
    · rw [decide_eq_true hn]
      refine iteF ⟨_, rfl, ?_⟩
      rw [← hs, stopF_passed hn] at q
      exact q H1 sm
    · rw [decide_eq_false hn]
      have hk : n' ∈ R.map (·.1) := List.mem_map.mpr ⟨_, val_mem hv, rfl⟩
      have hlen := nodup_len (P := n' :: P) (L := R.map (·.1)) (List.nodup_cons.mpr ⟨hn, nd⟩) fun x hx => by
        rcases List.mem_cons.mp hx with rfl | hx
        · exact hk
        · exact hP x hx
      rw [List.length_map, List.length_cons] at hlen
      obtain ⟨m', rfl⟩ : ∃ m', m = m' + 1 := ⟨m - 1, by omega⟩
      have hl : (passedK P).length = P.length := by unfold passedK; rw [List.length_map]
      refine iteT ⟨fun σ' H' => ∃ m'', m'' < m' + 1 ∧ ∃ (n' : Str) (P : List Str), σ' = [some (.ref d), some (.str n'), some (.ref p)] ∧ H' p = some (.dK (passedK P)) ∧ Same H H' ∧ P.Nodup ∧ (∀ x ∈ P, x ∈ R.map (·.1)) ∧ stopF R m'' P n' = stop R n ∧ m'' + P.length = R.length + 1, fun σ' H' h => h, ?_⟩
      refine ⟨_, rfl, _, rfl, p, _, rfl, DPut.k (k := Sum.inr n') hp (bigl _ (by omega)), ?_⟩
      have s2 : Same H (upd H1 p (.dK (putK (passedK P) (Sum.inr n') (.bl true)))) := fun b o e => by
        have hb : b ≠ p := ne_of_none e np
        rw [upd_ne hb]
        exact sm _ _ e
      refine ⟨_, rfl, _, rfl, d, V.str g, rfl, ?_, ?_⟩
      · have := DGet.k (k := Sum.inr n') (s2 _ _ hd)
        rw [dk_val, hv] at this
        exact this
      · refine ⟨m', Nat.lt_succ_self _, g, P ++ [n'], rfl, ?_, s2, ?_, ?_, ?_, ?_⟩
        · rw [upd_same, passed_put hn]
        · rw [List.nodup_append]
          exact ⟨nd, by simp, fun x hx y hy e => by rw [List.mem_singleton.mp hy] at e; exact hn (e ▸ hx)⟩
        · intro x hx
          rcases List.mem_append.mp hx with hx | hx
          · exact hP x hx
          · rw [List.mem_singleton.mp hx]; exact hk
        · rw [← hs, stopF_succ hv hn]
        · rw [List.length_append, List.length_singleton]; omega
end
end LW
namespace LW
open PySem L2 Mi Co
section
variable {P : Program} {w : World} {K : PySem.W.Frag} {mg : Str → Option Value} {base : Heap} {f : Addr} {fd : FuncData}
theorem scEnd : FnScope ["rows", "name", "goals", "stop"] ["rows", "name"] (defScope sEnd) := ⟨rfl, rfl, rfl, by decide +kernel, rfl, by decide +kernel, by decide +kernel⟩
theorem ok_end {k : Nat} {C : Addr} (F : Fun K "end_of" "end_of" sEnd f fd) (G : Blt mg) (O : PyProof.Rows.OwnCls "Ring" C VE "ValueError.__new__" mg base) (hS : Has P w K mg base "stop_of" k ["goals", "name"] spStop) :
    FnOk P w K mg base (CXE P w) (k + 1) f fd ["rows", "name"] (spEnd C) := by
  refine F.okE scEnd (fun vs H Q E h => ?_) (fun cdv A outer s H vs Q E hr h => ?_)
  · obtain ⟨a, R, n, rfl, _⟩ := h
    rfl
  obtain ⟨a, R, n, rfl, ⟨rs, ha, hrs, hR⟩, nd, hz, ⟨hn, hc⟩, qy, qn⟩ := h
  have hu := hu_of hr
  refine ⟨_, pss_cons (ps_set (i := 2) scEnd.nd rfl (Or.inl rfl) (pe_callTy (call_dictT rfl) rfl G.dict boot_dict (pa_cons (pv 0) pa_nil)))
    (pss_cons (ps_set (i := 3) scEnd.nd rfl (Or.inl rfl) (pe_callH hS hr rfl (pa_cons (pv 2) (pa_cons (pv 1) pa_nil))))
    (pss_cons (ps_if (pt_cmp (pc_din hu (pv 3) (pv 2)) (by with_unfolding_all rfl))
      (pss_one (ps_raise (E := E) rfl raises_cx O PySem.F.excBase_ValueError rfl PySem.F.excBase_ValueError rfl (pa_cons (pe_join2 pe_str (pe_fmtR (pv 1))) pa_nil))) pss_nil)
    (pss_one (ps_ret (pv 3))))), ?_⟩
  have hlz : rs.length ≤ 1000 := by rw [← hR, List.length_map] at hz; exact hz
  have hpv := rows_pairs (K := K) hrs
  rw [hR] at hpv
  refine ⟨_, rfl, a, _, _, rfl, ha, hpv, by rw [List.length_map]; omega, fun d nd' => ?_⟩
  rw [merge_nodup nd]
  have s1 := Same.new nd' (.dK (dkOf R))
  refine ⟨_, rfl, _, rfl, d, _, n, rfl, upd_same, hz, fun H2 s2 => ?_⟩
  have s02 := s1.trans s2
  refine ⟨_, rfl, _, rfl, d, _, rfl, DGet.k (k := Sum.inr (stop R n)) (s2 _ _ upd_same), _, rfl, ?_⟩
  rw [dk_val]
  cases hv : val R (stop R n) with
  | none => exact iteF ⟨_, rfl, qy hv H2 s02⟩
  | some g =>
    have hrep : (reprText n).length ≤ 10 * n.length + 2 := StrLaws.reprText_len n hc
    have l0 : (Str.empty ++ ("this leads into a ring: " : Str)).length ≤ 100 := by decide +kernel
    refine iteT ⟨_, rfl, big _ (by omega), _, rfl, n, rfl, big _ (by omega), _, rfl, big _ (by rw [app_len]; omega), by simp, qn (by rw [hv]; exact fun e => nomatch e) H2 s02⟩
theorem scFlat : FnScope ["rows", "goals", "ends"] ["rows"] (defScope sFlat) := ⟨rfl, rfl, rfl, by decide +kernel, rfl, by decide +kernel, by decide +kernel⟩
theorem nd1 : (["row", "goals"] : List Str).Nodup := by decide +kernel
theorem ok_flat {k : Nat} (F : Fun K "flat" "flat" sFlat f fd) (G : Blt mg) (h0 : IsInt mg "FIRST" 0) (h1 : IsInt mg "GOAL" 1) (hS : Has P w K mg base "stop_of" k ["goals", "name"] spStop) :
    FnOk P w K mg base CX0 (k + 1) f fd ["rows"] spFlat := by
  refine F.ok scFlat (fun vs H Q E h => ?_) (fun cdv A outer s H vs Q E hr h => ?_)
  · obtain ⟨a, R, rfl, _⟩ := h
    rfl
  obtain ⟨a, R, rfl, ⟨rs, ha, hrs, hR⟩, nd, hz, q⟩ := h
  obtain ⟨t0, m0⟩ := h0
  obtain ⟨t1, m1⟩ := h1
  have hu := hu_of hr
  refine ⟨_, pss_cons (ps_set (i := 1) scFlat.nd rfl (Or.inr rfl) (pe_callTy (call_dictT rfl) rfl G.dict boot_dict (pa_cons (pv 0) pa_nil)))
    (pss_cons (ps_compF (ix := 2) (te := tTup (tCons (tOp (rIxT K) (tVar 0) (tC (.int 0))) (tCons (tCall spStop [] E0 (tCons (tVar 1) (tCons (tOp (rIxT K) (tVar 0) (tC (.int 0))) tNil))) tNil))) (xs := ["row"]) (ys := ["goals"]) (js := [1]) rfl (by decide +kernel) (by decide +kernel) rfl (by decide +kernel) ⟨rfl, .inl rfl, rfl, trivial⟩
      (pi_tup (pv 0)) (fun _ _ _ _ _ => pg_name (i := 0) nd1 rfl (Or.inl rfl) (.inr rfl)) (fun _ _ _ _ _ => pts_nil)
      (fun _ _ _ _ _ => pe_tup (pa_cons (pe_ix ix_tup (pv 0) (pe_glob rfl m0 (v := .int 0) ⟨_, rfl⟩) fun _ _ => rfl) (pa_cons (pe_callH hS hr rfl (pa_cons (pv 1) (pa_cons (pe_ix ix_tup (pv 0) (pe_glob rfl m0 (v := .int 0) ⟨_, rfl⟩) fun _ _ => rfl) pa_nil))) pa_nil)))
      scFlat.nd rfl (Or.inl rfl))
    (pss_one (ps_ret (pe_callTy call_tuple_of rfl G.tuple boot_tuple (pa_cons (pe_callB call_sortT rfl G.sorted boot_sorted (pa_cons (pe_compF (tt := tB (tDNotIn (tOp (rIxT K) (tVar 0) (tC (.int 1))) (tVar 1))) (xs := ["row"]) (ys := ["goals"]) (js := [1]) rfl (by decide +kernel) (by decide +kernel) rfl (by decide +kernel) ⟨rfl, .inl rfl, rfl, trivial⟩
      (pi_list (pv 2)) (fun _ _ _ _ _ => pg_name (i := 0) nd1 rfl (Or.inl rfl) (.inr rfl)) (fun _ _ _ _ _ => pts_one (pt_cmp (pc_dnotin hu (pe_ix ix_tup (pv 0) (pe_glob rfl m1 (v := .int 1) ⟨_, rfl⟩) fun _ _ => rfl) (pv 1)) (by with_unfolding_all rfl)))
      (fun _ _ _ _ _ => pv 0)) pa_nil)) pa_nil))))), ?_⟩
  have hlz : rs.length < 64 := by rw [← hR, List.length_map] at hz; exact hz
  have hpv := rows_pairs (K := K) hrs
  rw [hR] at hpv
  refine ⟨_, rfl, a, _, _, rfl, ha, hpv, by rw [List.length_map]; omega, fun d nd' => ?_⟩
  rw [merge_nodup nd]
  have s1 := Same.new nd' (.dK (dkOf R))
  have hd1 : (upd H d (.dK (dkOf R)) : Hp) d = some (.dK (dkOf R)) := upd_same
  generalize (upd H d (.dK (dkOf R)) : Hp) = H1 at *
  refine ⟨_, rfl, a, rfl, ⟨_, SqT.of (s1 _ _ ha)⟩, fun D hD => ?_⟩
  refine compF_rel (xs := refs rs) (fr := [some (.ref d)]) (fun x v H' => ∃ r ∈ rs, x = .ref r.1 ∧ ∃ b, v = V.ref b ∧ H' b = some (.tup [V.str (r.2.1, stop R r.2.1).1, V.str (r.2.1, stop R r.2.1).2])) (fun x v H H' s h => ?_) D hD (tells_tup (SqT.of (s1 _ _ ha))) (bigl _ (by rw [List.length_map]; omega)) ?_ ?_
  · obtain ⟨r, hr', e, b, e2, hb⟩ := h
    exact ⟨r, hr', e, b, e2, s _ _ hb⟩
  · intro x H2 Rr hx s2 hR2
    obtain ⟨r, hr', rfl⟩ := mem_refs hx
    have hrow := (s1.trans s2) _ _ (hrs r hr')
    refine ⟨_, rfl, r.1, _, _, V.str r.2.1, rfl, rfl, SqT.of hrow, rfl, _, rfl, _, rfl, r.1, _, _, V.str r.2.1, rfl, rfl, SqT.of hrow, rfl, d, R, r.2.1, rfl, s2 _ _ hd1, by omega, fun H3 s3 => ?_⟩
    refine ⟨big _ (by simp), fun b nb => ?_⟩
    exact hR2 _ _ (s3.trans (Same.new nb _)) ⟨r, hr', rfl, b, rfl, upd_same⟩
  · intro H2 ys s2 hD2 hp
    obtain ⟨rs2, rfl, hrs2, e2⟩ := made_rows (H := H2) (f := fun (r : Addr × Rw) => (r.2.1, stop R r.2.1)) (g := fun r => V.ref r.1) (L := rs) (fun r h r' h' e => by
      injection e with e
      have z1 := hrs r h
      have z2 := hrs r' h'
      rw [e, z2] at z1
      injection z1 with z1
      injection z1 with z1
      simp only [List.cons.injEq, V.str.injEq, and_true] at z1
      show (r.2.1, stop R r.2.1) = (r'.2.1, stop R r'.2.1)
      rw [z1.1]) (xs := rs) (fun x h => h) hp
    have hl2 : rs2.length = rs.length := by
      have := congrArg List.length e2
      rw [List.length_map, List.length_map] at this
      exact this
    have em : rs2.map (·.2) = R.map fun r => (r.1, stop R r.1) := by rw [e2, ← hR, List.map_map]; rfl
    refine ⟨_, rfl, D, rfl, ⟨_, SqL.of hD2⟩, fun D2 hD2' => ?_⟩
    refine compF_all (xs := refs rs2) (fr := [some (.ref d)]) (f := id) (p := fun v => ((rowOf H2 v).map fun r => (val R r.2).isNone).getD false) D2 hD2' (tells_list (SqL.of hD2)) (bigl _ (by rw [List.length_map]; omega)) ?_ ?_ ?_
    · intro x H3 Rr hx s3 hR3
      obtain ⟨r, hr', rfl⟩ := mem_refs hx
      have hrow := s3 _ _ (hrs2 r hr')
      refine ⟨_, rfl, r.1, _, _, V.str r.2.2, rfl, rfl, SqT.of hrow, rfl, _, rfl, d, _, rfl, DGet.k (k := Sum.inr r.2.2) ((s2.trans s3) _ _ hd1), _, rfl, ?_⟩
      have := hR3 H3 (Same.refl _)
      rw [rowOf_of (hrs2 r hr')] at this
      rw [dk_val]
      show Rr (!((val R r.2.2).map V.str).isSome) H3
      cases hv : val R r.2.2 with
      | none => simpa [hv] using this
      | some g => simpa [hv] using this
    · intro x H3 Rr hx _ s3 hR3
      exact ⟨_, rfl, hR3 H3 (Same.refl _)⟩
    · intro H3 s3 hD3
      rw [filter_refs hrs2 fun r => (val R r.2).isNone, List.map_id] at hD3
      have hrs3 := (hrs2.filter fun r => (val R r.2.2).isNone).ts s3.ts
      have ef : ((rs2.filter fun r => (val R r.2.2).isNone).map (·.2)) = flatL R := by
        rw [filter_snd rs2 fun r => (val R r.2).isNone, em]
        rfl
      have hl3 : (rs2.filter fun r => (val R r.2.2).isNone).length ≤ rs2.length := List.length_filter_le _ _
      generalize (rs2.filter fun r => (val R r.2.2).isNone) = rs3 at *
      refine ⟨D2, rs3.map fun r => (r.1, [r.2.1, r.2.2]), rfl, .inl (SqL.of (by rw [List.map_map]; exact hD3)), by rw [List.length_map]; omega, fun r hr' => ?_, fun l ss nl hp hs => ?_⟩
      · obtain ⟨q', hq', rfl⟩ := List.mem_map.mp hr'
        exact ⟨SqT.of (hrs3 q' hq'), fun e => nomatch e⟩
      · obtain ⟨rs4, hp4, rfl⟩ := sort_back hp
        have sl := Same.new nl (.lst ((rs4.map fun r => (r.1, [r.2.1, r.2.2])).map fun r => V.ref r.1))
        refine ⟨l, _, rfl, .inl ⟨SqL.of upd_same, fun l2 nl2 => ?_⟩⟩
        have sl2 := Same.new nl2 (.tup ((rs4.map fun r => (r.1, [r.2.1, r.2.2])).map fun r => V.ref r.1))
        have sA := (((s1.trans s2).trans s3).trans sl).trans sl2
        have hperm : (rs4.map (·.2)).Perm (flatL R) := by rw [← ef]; exact hp4.map _
        have ndf : ((flatL R).map (·.1)).Nodup := by
          have hsub : ((flatL R).map (·.1)).Sublist (R.map (·.1)) := by
            have e : (R.map (·.1)) = ((R.map fun r => (r.1, stop R r.1)).map (·.1)) := by rw [List.map_map]; rfl
            rw [e]
            exact (List.filter_sublist).map _
          exact nd.sublist hsub
        refine q l2 (rs4.map (·.2)) _ sA ⟨rs4, ?_, fun r hr' => ?_, rfl⟩ hperm (rise_of ((hperm.map (·.1)).nodup_iff.mpr ndf) ?_)
        · rw [upd_same, List.map_map]
          rfl
        · exact (sl.trans sl2) _ _ (hrs3 r (hp4.mem_iff.mp hr'))
        · rw [List.pairwise_map] at hs ⊢
          exact hs
end
end LW
namespace LW
open PySem L2 Mi Co
def spLeads : Sp := fun vs H Q _ => ∃ (a : Addr) (R : List Rw) (n : Str), vs = [.ref a, .str n] ∧ RowsAt H a R ∧ (R.map (·.1)).Nodup ∧ R.length ≤ 1000 ∧ ∀ H', Same H H' → Q (.bl (val R (stop R n)).isSome) H'
section
variable {P : Program} {w : World} {K : PySem.W.Frag} {mg : Str → Option Value} {base : Heap} {f : Addr} {fd : FuncData}
theorem scLeads : FnScope ["rows", "name", "goals"] ["rows", "name"] (defScope sLeads) := ⟨rfl, rfl, rfl, by decide +kernel, rfl, by decide +kernel, by decide +kernel⟩
theorem ok_leads {k : Nat} (F : Fun K "leads_round" "leads_round" sLeads f fd) (G : Blt mg) (hS : Has P w K mg base "stop_of" k ["goals", "name"] spStop) :
    FnOk P w K mg base CX0 (k + 1) f fd ["rows", "name"] spLeads := by
  refine F.ok scLeads (fun vs H Q E h => ?_) (fun cdv A outer s H vs Q E hr h => ?_)
  · obtain ⟨a, R, n, rfl, _⟩ := h
    rfl
  obtain ⟨a, R, n, rfl, ⟨rs, ha, hrs, hR⟩, nd, hz, q⟩ := h
  have hu := hu_of hr
  refine ⟨_, pss_cons (ps_set (i := 2) scLeads.nd rfl (Or.inl rfl) (pe_callTy (call_dictT rfl) rfl G.dict boot_dict (pa_cons (pv 0) pa_nil)))
    (pss_one (ps_ret (pe_cmp (pc_din hu (pe_callH hS hr rfl (pa_cons (pv 2) (pa_cons (pv 1) pa_nil))) (pv 2)) (by with_unfolding_all rfl)))), ?_⟩
  have hlz : rs.length ≤ 1000 := by rw [← hR, List.length_map] at hz; exact hz
  have hpv := rows_pairs (K := K) hrs
  rw [hR] at hpv
  refine ⟨_, rfl, a, _, _, rfl, ha, hpv, by rw [List.length_map]; omega, fun d nd' => ?_⟩
  rw [merge_nodup nd]
  have s1 := Same.new nd' (.dK (dkOf R))
  refine ⟨_, rfl, _, rfl, d, _, n, rfl, upd_same, hz, fun H2 s2 => ?_⟩
  refine ⟨_, rfl, d, _, rfl, DGet.k (k := Sum.inr (stop R n)) (s2 _ _ upd_same), ?_⟩
  rw [dk_val, Option.isSome_map]
  exact q H2 (s1.trans s2)
end
end LW
namespace LW
open PySem L2 Mi Co
def spRingFrom : Sp := fun vs H Q _ => ∃ (d : Addr) (R : List Rw) (n m : Str) (L : List Str), vs = [.ref d, .str n] ∧ H d = some (.dK (dkOf R)) ∧ val R n = some m ∧ Leads R n m L ∧ L.length ≤ 1000 ∧ ∀ (p : Addr) (H' : Hp), Same H H' → H' p = some (.lst ((n :: L).map V.str)) → Q (.ref p) H'
def spLeast : Sp := fun vs H Q _ => ∃ (a : Addr) (ts : List Str), vs = [.ref a] ∧ H a = some (.lst (ts.map V.str)) ∧ ts ≠ [] ∧ ts.length ≤ 1001 ∧ ∀ (p : Addr) (H' : Hp), Same H H' → H' p = some (.tup ((least ts).map V.str)) → Q (.ref p) H'
def TupsAt (H : Hp) (p : Addr) (T : List (List Str)) : Prop := ∃ rs : List (Addr × List Str), H p = some (.tup (rs.map fun r => V.ref r.1)) ∧ (∀ r ∈ rs, H r.1 = some (.tup (r.2.map V.str))) ∧ rs.map (·.2) = T
structure RingsOf (R : List Rw) (T : List (List Str)) : Prop where
  rise : T.Pairwise fun a b => HS.ltT a b = true
  mem : ∀ u, u ∈ T ↔ ∃ r ∈ R, val R (stop R r.1) ≠ none ∧ u = least (ringOf R r.1)
def spRings : Sp := fun vs H Q _ => ∃ (a : Addr) (R : List Rw), vs = [.ref a] ∧ RowsAt H a R ∧ (R.map (·.1)).Nodup ∧ R.length < 60 ∧ ∀ (p : Addr) (T : List (List Str)) (H' : Hp), Same H H' → TupsAt H' p T → RingsOf R T → Q (.ref p) H'
section
variable {P : Program} {w : World} {K : PySem.W.Frag} {mg : Str → Option Value} {base : Heap} {f : Addr} {fd : FuncData}
theorem scRingFrom : FnScope ["goals", "name", "ring", "following"] ["goals", "name"] (defScope sRingFrom) := ⟨rfl, rfl, rfl, by decide +kernel, rfl, by decide +kernel, by decide +kernel⟩
theorem ok_ringfrom {k : Nat} (F : Fun K "ring_from" "ring_from" sRingFrom f fd) : FnOk P w K mg base CX0 (k + 1) f fd ["goals", "name"] spRingFrom := by
  refine F.ok scRingFrom (fun vs H Q E h => ?_) (fun cdv A outer s H vs Q E hr h => ?_)
  · obtain ⟨d, R, n, m, L, rfl, _⟩ := h
    rfl
  obtain ⟨d, R, n, m, L, rfl, hd, hv, hL, hz, q⟩ := h
  have hu := hu_of hr
  refine ⟨_, pss_cons (ps_set (i := 2) scRingFrom.nd rfl (Or.inl rfl) (pe_lst (pa_cons (pv 1) pa_nil)))
    (pss_cons (ps_set (i := 3) scRingFrom.nd rfl (Or.inl rfl) (pe_dget hu (pv 0) (pv 1) fun _ _ => rfl))
    (pss_cons (ps_while PassesOwn.never (pt_cmpR op_ne (pv 3) (pv 1) (nomark _))
      (pss_cons (ps_expr (pe_bm PySem.F.plainAttrs_list PySem.F.slot_list_append PySem.F.type_list_append mt_append (pv 2) (pa_cons (pv 3) pa_nil)))
      (pss_one (ps_set (i := 3) scRingFrom.nd rfl (Or.inl rfl) (pe_dget hu (pv 0) (pv 3) fun _ _ => rfl)))))
    (pss_one (ps_ret (pv 2))))), ?_⟩
  refine ⟨_, rfl, big _ (by simp), fun p np => ?_⟩
  have s1 := Same.new np (.lst [V.str n])
  have hpd : d ≠ p := ne_of_none hd np
  have hp1 : (upd H p (.lst [V.str n]) : Hp) p = some (.lst ([n].map V.str)) := upd_same
  generalize (upd H p (.lst [V.str n]) : Hp) = H1 at *
  have get : ∀ (H' : Hp) (x y : Str), Same H H' → val R x = some y → DGet H' d (V.str x) (some (V.str y)) := fun H' x y s' hxy => by
    have := DGet.k (k := Sum.inr x) (s' _ _ hd)
    rw [dk_val, hxy] at this
    exact this
  refine ⟨_, rfl, _, rfl, d, V.str m, rfl, get H1 n m s1 hv, ?_⟩
  refine ⟨fun j σ H' => ∃ (done rest : List Str) (cur : Str), σ = [some (.ref d), some (.str n), some (.ref p), some (.str cur)] ∧ H' p = some (.lst ((n :: done).map V.str)) ∧ Same H H' ∧ L = done ++ rest ∧ Leads R n cur rest ∧ j = rest.length,
    ⟨_, [], L, m, rfl, hp1, s1, rfl, hL, rfl⟩, ?_⟩
  rintro j σ H2 ⟨done, rest, cur, rfl, hp2, s2, eL, hl, rfl⟩
  refine ⟨_, rfl, _, rfl, rfl, _, rfl, ?_⟩
  cases rest with
  | nil =>
    have ec : cur = n := hl
    subst ec
    have e : (!decide (V.str cur = V.str cur)) = false := by rw [decide_eq_true rfl]; rfl
    rw [e]
    rw [List.append_nil] at eL
    subst eL
    exact iteF ⟨_, rfl, q p H2 s2 hp2⟩
  | cons x rest =>
    obtain ⟨e1, hne, m', hm', hl'⟩ := hl
    subst e1
    have e : (!decide (V.str cur = V.str n)) = true := by rw [decide_eq_false fun e => hne (by injection e)]; rfl
    rw [e]
    have hlen : done.length ≤ 1000 := by have := congrArg List.length eL; rw [List.length_append] at this; omega
    refine iteT ⟨fun σ' H' => ∃ j', j' < (cur :: rest).length ∧ ∃ (done rest : List Str) (cur : Str), σ' = [some (.ref d), some (.str n), some (.ref p), some (.str cur)] ∧ H' p = some (.lst ((n :: done).map V.str)) ∧ Same H H' ∧ L = done ++ rest ∧ Leads R n cur rest ∧ j' = rest.length, fun σ' H' h => h, ?_⟩
    refine ⟨_, rfl, .inl ⟨rfl, _, SqL.of hp2⟩, _, rfl, p, _, _, rfl, rfl, hp2, bigl _ (by rw [List.length_map, List.length_cons]; omega), ?_⟩
    have s3 : Same H (upd H2 p (.lst ((n :: done).map V.str ++ [V.str cur]))) := fun b o eb => by
      have hb : b ≠ p := ne_of_none eb np
      rw [upd_ne hb]
      exact s2 _ _ eb
    refine ⟨_, rfl, _, rfl, d, V.str m', rfl, get _ cur m' s3 hm', ?_⟩
    refine ⟨rest.length, by simp, done ++ [cur], rest, m', rfl, ?_, s3, by rw [eL, List.append_assoc]; rfl, hl', rfl⟩
    rw [upd_same]
    simp
theorem scLeast : FnScope ["ring", "place"] ["ring"] (defScope sLeast) := ⟨rfl, rfl, rfl, by decide +kernel, rfl, by decide +kernel, by decide +kernel⟩
theorem boot_min : bootBuiltins (Str.ofString "min") = some (Value.builtin "min") := by decide +kernel
theorem ok_least {k : Nat} (F : Fun K "from_least" "from_least" sLeast f fd) (G : Blt mg) (hmin : mg "min" = none) : FnOk P w K mg base CX0 (k + 1) f fd ["ring"] spLeast := by
  refine F.ok scLeast (fun vs H Q E h => ?_) (fun cdv A outer s H vs Q E hr h => ?_)
  · obtain ⟨a, ts, rfl, _⟩ := h
    rfl
  obtain ⟨a, ts, rfl, ha, hne, hz, q⟩ := h
  refine ⟨_, pss_cons (ps_set (i := 1) scLeast.nd rfl (Or.inl rfl) (pe_bm PySem.F.plainAttrs_list PySem.F.slot_list_index PySem.F.type_list_index (r := fun x vs H Q => rIndex K x vs H Q) mt_index (pv 0) (pa_cons (pe_callB (call_minS rfl) rfl hmin boot_min (pa_cons (pv 0) pa_nil)) pa_nil)))
    (pss_one (ps_ret (pe_callTy call_tuple_of rfl G.tuple boot_tuple (pa_cons (pe_op op_cat (pe_slice sl_list (pv 0) (po_some (pv 1)) po_none) (pe_slice sl_list (pv 0) po_none (po_some (pv 1)))) pa_nil)))), ?_⟩
  have hsq : SqL K H a (ts.map V.str) := SqL.of ha
  refine ⟨_, rfl, .inl ⟨rfl, _, hsq⟩, _, rfl, a, ts, rfl, hsq, hne, a, ts, minS ts, rfl, rfl, hsq, minS_mem hne, by omega, ?_⟩
  refine ⟨_, rfl, _, rfl, _, rfl, a, _, rfl, hsq, fun l1 n1 => ?_⟩
  have s1 := Same.new n1 (.lst (cutV (ts.map V.str) (some (ts.idxOf (minS ts) : Int)) none))
  refine ⟨_, rfl, _, rfl, _, rfl, a, _, rfl, s1.seq hsq, fun l2 n2 => ?_⟩
  have s2 := Same.new n2 (.lst (cutV (ts.map V.str) none (some (ts.idxOf (minS ts) : Int))))
  refine ⟨l1, l2, _, _, rfl, rfl, s2 _ _ upd_same, upd_same, ?_, fun l3 n3 => ?_⟩
  · have h1 := cutV_length (ts.map V.str) (some (ts.idxOf (minS ts) : Int)) none
    have h2 := cutV_length (ts.map V.str) none (some (ts.idxOf (minS ts) : Int))
    rw [List.length_map] at h1 h2
    exact big _ (by omega)
  have s3 := Same.new n3 (.lst (cutV (ts.map V.str) (some (ts.idxOf (minS ts) : Int)) none ++ cutV (ts.map V.str) none (some (ts.idxOf (minS ts) : Int))))
  refine ⟨l3, _, rfl, .inl ⟨SqL.of upd_same, fun q2 nq => ?_⟩⟩
  refine q q2 _ (((s1.trans s2).trans s3).trans (Same.new nq _)) ?_
  rw [upd_same, cut_from, cut_to]
  unfold least
  rw [List.map_append, List.map_drop, List.map_take]
end
end LW
namespace LW
open PySem L2 Mi Co
theorem inr_inj {a b : List Str} (h : (a.map Sum.inr : List Key) = b.map Sum.inr) : a = b := by
  have e := congrArg (List.map strK) h
  rw [List.map_map, List.map_map] at e
  have id' : ∀ l : List Str, l.map (strK ∘ (Sum.inr : Str → Key)) = l := fun l => by
    have : ∀ z ∈ l, (strK ∘ (Sum.inr : Str → Key)) z = z := fun z _ => rfl
    rw [List.map_congr_left this, List.map_id']
  rw [id', id'] at e
  exact e
theorem putT_keys {kvs : List (List Key × V)} {us : List (List Str)} {u : List Str} {v : V} (h : kvs.map (·.1) = us.map fun t => t.map Sum.inr) :
    (putK kvs (u.map Sum.inr) v).map (·.1) = (if u ∈ us then us else us ++ [u]).map fun t => t.map Sum.inr := by
  have hany : (kvs.any fun kv => decide (kv.1 = u.map Sum.inr)) = decide (u ∈ us) := by
    rw [Bool.eq_iff_iff, List.any_eq_true, decide_eq_true_eq]
    constructor
    · rintro ⟨kv, hm, e⟩
      have hk : kv.1 ∈ kvs.map (·.1) := List.mem_map.mpr ⟨kv, hm, rfl⟩
      rw [h] at hk
      obtain ⟨t, ht, e2⟩ := List.mem_map.mp hk
      have e3 : kv.1 = u.map Sum.inr := by simpa using e
      rw [← inr_inj (e2.trans e3)]
      exact ht
    · intro hu
      have hk : (u.map Sum.inr : List Key) ∈ us.map fun t => t.map Sum.inr := List.mem_map.mpr ⟨u, hu, rfl⟩
      rw [← h] at hk
      obtain ⟨kv, hm, e⟩ := List.mem_map.mp hk
      exact ⟨kv, hm, by simpa using e⟩
  unfold putK
  rw [hany]
  by_cases c : u ∈ us
  · rw [decide_eq_true c, if_pos rfl, if_pos c, List.map_map, ← h]
    refine List.map_congr_left fun kv _ => ?_
    show (if kv.1 = u.map Sum.inr then (kv.1, v) else kv).1 = kv.1
    split <;> rfl
  · rw [decide_eq_false c, if_neg Bool.false_ne_true, if_neg c, List.map_append, List.map_append, h]
    rfl
section
variable {P : Program} {w : World} {K : PySem.W.Frag} {mg : Str → Option Value} {base : Heap} {f : Addr} {fd : FuncData}
theorem scRings : FnScope ["rows", "goals", "known", "row", "stop"] ["rows"] (defScope sRings) := ⟨rfl, rfl, rfl, by decide +kernel, rfl, by decide +kernel, by decide +kernel⟩
theorem ok_rings {k : Nat} (F : Fun K "rings" "rings" sRings f fd) (G : Blt mg) (h0 : IsInt mg "FIRST" 0) (hS : Has P w K mg base "stop_of" k ["goals", "name"] spStop) (hRF : Has P w K mg base "ring_from" k ["goals", "name"] spRingFrom) (hLe : Has P w K mg base "from_least" k ["ring"] spLeast) :
    FnOk P w K mg base CX0 (k + 1) f fd ["rows"] spRings := by
  refine F.ok scRings (fun vs H Q E h => ?_) (fun cdv A outer s H vs Q E hr h => ?_)
  · obtain ⟨a, R, rfl, _⟩ := h
    rfl
  obtain ⟨a, R, rfl, ⟨rs, ha, hrs, hR⟩, nd, hz, q⟩ := h
  obtain ⟨t0, m0⟩ := h0
  have hu := hu_of hr
  refine ⟨_, pss_cons (ps_set (i := 1) scRings.nd rfl (Or.inl rfl) (pe_callTy (call_dictT rfl) rfl G.dict boot_dict (pa_cons (pv 0) pa_nil)))
    (pss_cons (ps_set (i := 2) scRings.nd rfl (Or.inl rfl) pe_dnewT)
    (pss_cons (ps_for PassesOwn.never rfl (pi_tup (pv 0)) (pg_name (i := 3) scRings.nd rfl (Or.inl rfl))
      (pss_cons (ps_set (i := 4) scRings.nd rfl (Or.inl rfl) (pe_callH hS hr rfl (pa_cons (pv 1) (pa_cons (pe_ix ix_tup (pv 3) (pe_glob rfl m0 (v := .int 0) ⟨_, rfl⟩) fun _ _ => rfl) pa_nil))))
      (pss_one (ps_if (pt_cmp (pc_din hu (pv 4) (pv 1)) (by with_unfolding_all rfl))
        (pss_one (ps_dput hu (pv 2) (pe_callH hLe hr rfl (pa_cons (pe_callH hRF hr rfl (pa_cons (pv 1) (pa_cons (pv 4) pa_nil))) pa_nil)) pe_bl rfl)) pss_nil))))
    (pss_one (ps_ret (pe_callTy call_tuple_of rfl G.tuple boot_tuple (pa_cons (pe_callB (call_sortDT rfl) rfl G.sorted boot_sorted (pa_cons (pv 2) pa_nil)) pa_nil)))))), ?_⟩
  have hlz : rs.length < 60 := by rw [← hR, List.length_map] at hz; exact hz
  have hpv := rows_pairs (K := K) hrs
  rw [hR] at hpv
  refine ⟨_, rfl, a, _, _, rfl, ha, hpv, by rw [List.length_map]; omega, fun d nd' => ?_⟩
  rw [merge_nodup nd]
  have s1 := Same.new nd' (.dK (dkOf R))
  have hd1 : (upd H d (.dK (dkOf R)) : Hp) d = some (.dK (dkOf R)) := upd_same
  generalize (upd H d (.dK (dkOf R)) : Hp) = H1 at *
  intro kn nk
  have s2 := Same.new nk (.dT [])
  have hk2 : (upd H1 kn (.dT []) : Hp) kn = some (.dT []) := upd_same
  have hH1k := nk
  have hd2 := s2 _ _ hd1
  have ha2 := (s1.trans s2) _ _ ha
  have s12 := s1.trans s2
  generalize (upd H1 kn (.dT []) : Hp) = H2 at *
  refine ⟨_, rfl, a, rfl, ⟨_, SqT.of ha2⟩, ?_⟩
  refine for_tup (xs := refs rs) (fun i σ H' => ∃ (v3 v4 : Option V) (kvs : List (List Key × V)) (us : List (List Str)), σ = [some (.ref a), some (.ref d), some (.ref kn), v3, v4] ∧ Same H1 H' ∧ H' kn = some (.dT kvs) ∧ kvs.map (·.1) = (us.map fun t => t.map Sum.inr) ∧ us.Nodup ∧ us.length ≤ i ∧
      ∀ u, u ∈ us ↔ ∃ r ∈ R.take i, val R (stop R r.1) ≠ none ∧ u = least (ringOf R r.1))
    ⟨_, _, [], [], rfl, s2, hk2, rfl, List.nodup_nil, Nat.le_refl _, by simp⟩ (fun i σ H' _ h => by obtain ⟨_, _, _, _, _, s', _⟩ := h; exact SqT.of (s' _ _ (s1 _ _ ha))) ?_ ?_
  · rintro i x σ H3 hx ⟨v3, v4, kvs, us, rfl, s3, hk3, hkeys, ndu, hlu, hmem⟩
    rw [List.getElem?_map] at hx
    obtain ⟨r, hri, rfl⟩ : ∃ r, rs[i]? = some r ∧ V.ref r.1 = x := by
      cases hh : rs[i]? with
      | none => rw [hh] at hx; cases hx
      | some y => rw [hh] at hx; injection hx with hx; exact ⟨y, rfl, hx⟩
    have hr' : r ∈ rs := List.mem_of_getElem? hri
    have hli : i < rs.length := (List.getElem?_eq_some_iff.mp hri).1
    have htk : R.take (i + 1) = R.take i ++ [r.2] := by
      have : R[i]? = some r.2 := by rw [← hR, List.getElem?_map, hri]; rfl
      rw [List.take_add_one, this]
      rfl
    refine ⟨_, rfl, _, rfl, r.1, _, _, V.str r.2.1, rfl, rfl, SqT.of ((s1.trans s3) _ _ (hrs r hr')), rfl, d, R, r.2.1, rfl, s3 _ _ hd1, by omega, fun H4 s4 => ?_⟩
    have hd4 := (s3.trans s4) _ _ hd1
    refine ⟨_, rfl, _, rfl, d, _, rfl, DGet.k (k := Sum.inr (stop R r.2.1)) hd4, _, rfl, ?_⟩
    rw [dk_val]
    cases hv : val R (stop R r.2.1) with
    | none =>
      refine iteF ⟨_, _, kvs, us, rfl, s3.trans s4, s4 _ _ hk3, hkeys, ndu, by omega, fun u => ?_⟩
      rw [hmem, htk]
      constructor
      · rintro ⟨z, hz, h1, h2⟩; exact ⟨z, List.mem_append_left _ hz, h1, h2⟩
      · rintro ⟨z, hz, h1, h2⟩
        rcases List.mem_append.mp hz with hz | hz
        · exact ⟨z, hz, h1, h2⟩
        · rw [List.mem_singleton.mp hz] at h1; exact absurd hv h1
    | some g =>
      obtain ⟨L, m, eL, hm, hl, hLl⟩ := ring_is (R := R) (n := r.2.1) (by rw [hv]; exact fun e => nomatch e)
      refine iteT ⟨_, rfl, _, rfl, _, rfl, d, R, stop R r.2.1, m, L, rfl, hd4, hm, hl, by omega, fun p5 H5 s5 hp5 => ?_⟩
      refine ⟨p5, stop R r.2.1 :: L, rfl, hp5, (fun e => nomatch e), by rw [List.length_cons]; omega, fun p6 H6 s6 hp6 => ?_⟩
      rw [← eL] at hp6
      have hk6 := ((s4.trans s5).trans s6) _ _ hk3
      have ek : ((least (ringOf R r.2.1)).map V.str) = ((least (ringOf R r.2.1)).map Sum.inr : List Key).map kV := by rw [List.map_map]; rfl
      rw [ek] at hp6
      have hkl : kvs.length ≤ i := by have := congrArg List.length hkeys; rw [List.length_map, List.length_map] at this; omega
      refine ⟨kn, _, rfl, DPut.t hk6 hp6 (bigl _ (by omega)), ?_⟩
      have hkeys2 := putT_keys (u := least (ringOf R r.2.1)) (v := V.bl true) hkeys
      refine ⟨_, _, _, _, rfl, ?_, upd_same, hkeys2, ?_, ?_, fun u => ?_⟩
      · intro b o eb
        have hb : b ≠ kn := ne_of_none eb hH1k
        rw [upd_ne hb]
        exact (((s3.trans s4).trans s5).trans s6) _ _ eb
      · by_cases c : least (ringOf R r.2.1) ∈ us
        · rw [if_pos c]; exact ndu
        · rw [if_neg c, List.nodup_append]
          exact ⟨ndu, by simp, fun x hx y hy e => by rw [List.mem_singleton.mp hy] at e; exact c (e ▸ hx)⟩
      · by_cases c : least (ringOf R r.2.1) ∈ us
        · rw [if_pos c]; omega
        · rw [if_neg c, List.length_append, List.length_singleton]; omega
      · have base' : (∃ z ∈ R.take (i + 1), val R (stop R z.1) ≠ none ∧ u = least (ringOf R z.1)) ↔ u ∈ us ∨ u = least (ringOf R r.2.1) := by
          rw [hmem, htk]
          constructor
          · rintro ⟨z, hz, h1, h2⟩
            rcases List.mem_append.mp hz with hz | hz
            · exact .inl ⟨z, hz, h1, h2⟩
            · rw [List.mem_singleton.mp hz] at h2; exact .inr h2
          · rintro (⟨z, hz, h1, h2⟩ | h2)
            · exact ⟨z, List.mem_append_left _ hz, h1, h2⟩
            · exact ⟨r.2, List.mem_append_right _ (by simp), (by rw [hv]; exact fun e => nomatch e), h2⟩
        rw [base']
        by_cases c : least (ringOf R r.2.1) ∈ us
        · rw [if_pos c]
          exact ⟨.inl, fun h => h.elim id fun e => e ▸ c⟩
        · rw [if_neg c, List.mem_append, List.mem_singleton]
  · rintro σ H3 ⟨v3, v4, kvs, us, rfl, s3, hk3, hkeys, ndu, hlu, hmem⟩
    rw [List.length_map] at hlu hmem
    have hRl : R.length = rs.length := by rw [← hR, List.length_map]
    have htk : R.take rs.length = R := by rw [← hRl, List.take_length]
    rw [htk] at hmem
    refine ⟨_, rfl, kn, us, rfl, ⟨kvs, .inl hk3, hkeys⟩, by omega, fun t ht => ?_, fun l qs nl hp hH hs => ?_⟩
    · obtain ⟨r, hr', hne, rfl⟩ := (hmem t).mp ht
      obtain ⟨L, m, eL, _⟩ := ring_is hne
      exact least_ne (by rw [eL]; exact fun e => nomatch e)
    have s4 := Same.new nl (.lst (qs.map fun r => V.ref r.1))
    refine ⟨l, _, rfl, .inl ⟨SqL.of upd_same, fun q2 nq2 => ?_⟩⟩
    have s5 := Same.new nq2 (.tup (qs.map fun r => V.ref r.1))
    refine q q2 (qs.map (·.2)) _ (((s1.trans s3).trans s4).trans s5) ⟨qs, upd_same, fun r hr' => (s4.trans s5) _ _ (hH r hr'), rfl⟩ ⟨?_, fun u => ?_⟩
    · rw [List.pairwise_map]
      have ndq : (qs.map (·.2)).Nodup := hp.nodup_iff.mpr ndu
      rw [List.Nodup, List.pairwise_map] at ndq
      refine (hs.and ndq).imp fun {a b} z => ?_
      cases hc : HS.ltT a.2 b.2 with
      | true => rfl
      | false => exact absurd (HS.ltT_tri _ _ hc z.1) z.2
    · rw [hp.mem_iff, hmem]
end
end LW
namespace LW
open PySem L2 Mi Co
def spTurned : Sp := fun vs H Q _ => ∃ (a : Addr) (R : List Rw), vs = [.ref a] ∧ RowsAt H a R ∧ (R.map (·.1)).Nodup ∧ R.length < 60 ∧ ∀ (p : Addr) (Rs : List Rw) (ts : List Str) (H' : Hp), Same H H' → Rs.Perm R → Rise Rs → ts.Pairwise (fun a b => HS.ltS a b = true) → (∀ g, g ∈ ts ↔ ∃ r ∈ R, r.2 = g) →
  TurnAt H' p (ts.map fun g => (g, grp Rs g)) → Q (.ref p) H'
theorem rise_strs {ts us : List Str} (hp : ts.Perm us) (nd : us.Nodup) (hs : ts.Pairwise fun a b => HS.ltS b a = false) : ts.Pairwise fun a b => HS.ltS a b = true := by
  have ndt : ts.Pairwise fun a b => a ≠ b := hp.nodup_iff.mpr nd
  refine (hs.and ndt).imp fun {a b} z => ?_
  cases hc : HS.ltS a b with
  | true => rfl
  | false => exact absurd (HS.ltS_tri hc z.1) z.2
theorem rise_rows {R : List Rw} {rs2 rs : List (Addr × Rw)} (hR : rs.map (·.2) = R) (nd : (R.map (·.1)).Nodup) (hp : rs2.Perm rs) (hs : (rs2.map fun r => (r.1, [r.2.1, r.2.2])).Pairwise fun a b => HS.ltT b.2 a.2 = false) : (rs2.map (·.2)).Perm R ∧ Rise (rs2.map (·.2)) := by
  have hp2 : (rs2.map (·.2)).Perm R := by rw [← hR]; exact hp.map _
  refine ⟨hp2, rise_of ((hp2.map (·.1)).nodup_iff.mpr nd) ?_⟩
  rw [List.pairwise_map] at hs ⊢
  exact hs
section
variable {P : Program} {w : World} {K : PySem.W.Frag} {mg : Str → Option Value} {base : Heap} {f : Addr} {fd : FuncData}
theorem scTurned : FnScope ["rows", "leading", "row"] ["rows"] (defScope sTurned) := ⟨rfl, rfl, rfl, by decide +kernel, rfl, by decide +kernel, by decide +kernel⟩
theorem nd9 : (["goal", "leading"] : List Str).Nodup := by decide +kernel
theorem ok_turned {k : Nat} (F : Fun K "turned" "turned" sTurned f fd) (G : Blt mg) (h0 : IsInt mg "FIRST" 0) (h1 : IsInt mg "GOAL" 1) : FnOk P w K mg base CX0 (k + 1) f fd ["rows"] spTurned := by
  refine F.ok scTurned (fun vs H Q E h => ?_) (fun cdv A outer s H vs Q E hr h => ?_)
  · obtain ⟨a, R, rfl, _⟩ := h
    rfl
  obtain ⟨a, R, rfl, ⟨rs, ha, hrs, hR⟩, nd, hz, q⟩ := h
  obtain ⟨t0, m0⟩ := h0
  obtain ⟨t1, m1⟩ := h1
  have hu := hu_of hr
  refine ⟨_, pss_cons (ps_set (i := 1) scTurned.nd rfl (Or.inr rfl) pe_dnewK)
    (pss_cons (ps_for PassesOwn.never rfl (pi_list (pe_callB call_sortT rfl G.sorted boot_sorted (pa_cons (pv 0) pa_nil))) (pg_name (i := 2) scTurned.nd rfl (Or.inl rfl))
      (pss_one (ps_dput hu (pv 1) (pe_ix ix_tup (pv 2) (pe_glob rfl m1 (v := .int 1) ⟨_, rfl⟩) fun _ _ => rfl)
        (pe_op op_catH (pe_dget2 hu (pv 1) (pe_ix ix_tup (pv 2) (pe_glob rfl m1 (v := .int 1) ⟨_, rfl⟩) fun _ _ => rfl) (pe_tup pa_nil) ⟨rfl, rfl, rfl, rfl⟩)
          (pe_tup (pa_cons (pe_ix ix_tup (pv 2) (pe_glob rfl m0 (v := .int 0) ⟨_, rfl⟩) fun _ _ => rfl) pa_nil))) rfl)))
    (pss_one (ps_ret (pe_callTy call_tuple_of rfl G.tuple boot_tuple (pa_cons (pe_compF (xs := ["goal"]) (ys := ["leading"]) (js := [1]) rfl (by decide +kernel) (by decide +kernel) rfl (by decide +kernel) ⟨rfl, .inl rfl, rfl, trivial⟩
      (pi_list (pe_callB (call_sortD rfl) rfl G.sorted boot_sorted (pa_cons (pv 1) pa_nil))) (fun _ _ _ _ _ => pg_name (i := 0) nd9 rfl (Or.inl rfl) (.inr rfl)) (fun _ _ _ _ _ => pts_nil)
      (fun _ _ _ _ _ => pe_tup (pa_cons (pv 0) (pa_cons (pe_dget hu (pv 1) (pv 0) fun _ _ => rfl) pa_nil)))) pa_nil))))), ?_⟩
  have hlz : rs.length < 60 := by rw [← hR, List.length_map] at hz; exact hz
  intro d ndd
  have s1 := Same.new ndd (.dK [])
  have hd1 : (upd H d (.dK []) : Hp) d = some (.dK []) := upd_same
  generalize (upd H d (.dK []) : Hp) = H1 at *
  have hrs1 := hrs.ts s1.ts
  refine ⟨_, rfl, a, rs.map fun r => (r.1, [r.2.1, r.2.2]), rfl, .inr (SqT.of (by rw [List.map_map]; exact s1 _ _ ha)), by rw [List.length_map]; omega, fun r hr' => ?_, fun l ss nl hp hs => ?_⟩
  · obtain ⟨q', hq', rfl⟩ := List.mem_map.mp hr'
    exact ⟨SqT.of (hrs1 q' hq'), fun e => nomatch e⟩
  obtain ⟨rs4, hp4, rfl⟩ := sort_back hp
  obtain ⟨hpR, hrise⟩ := rise_rows hR nd hp4 hs
  have hl4 : rs4.length = rs.length := hp4.length_eq
  have sl := Same.new nl (.lst ((rs4.map fun r => (r.1, [r.2.1, r.2.2])).map fun r => V.ref r.1))
  have hl2 : (upd H1 l (.lst ((rs4.map fun r => (r.1, [r.2.1, r.2.2])).map fun r => V.ref r.1)) : Hp) l = some (.lst (refs rs4)) := by rw [upd_same, List.map_map]; rfl
  have hd2 := sl _ _ hd1
  have hld : l ≠ d := fun e => by rw [e, hd1] at nl; cases nl
  have hrs2 : RowsIn (upd H1 l (.lst ((rs4.map fun r => (r.1, [r.2.1, r.2.2])).map fun r => V.ref r.1))) rs4 := fun r hr' => sl _ _ (hrs1 r (hp4.mem_iff.mp hr'))
  have s02 := s1.trans sl
  generalize (upd H1 l (.lst ((rs4.map fun r => (r.1, [r.2.1, r.2.2])).map fun r => V.ref r.1)) : Hp) = H2 at *
  have hHd : H d = none := ndd
  refine ⟨l, rfl, ⟨_, SqL.of hl2⟩, ?_⟩
  refine for_list (xs := refs rs4) (fun i σ H' => ∃ (v2 : Option V) (gs : List Str), σ = [some (.ref a), some (.ref d), v2] ∧ Same H H' ∧ H' l = some (.lst (refs rs4)) ∧ RowsIn H' rs4 ∧ GrpAt H' d ((rs4.map (·.2)).take i) gs)
    ⟨_, [], rfl, s02, hl2, hrs2, by rw [List.take_zero]; exact grp_nil hd2⟩ (fun i σ H' _ h => by obtain ⟨_, _, _, _, h, _⟩ := h; exact SqL.of h) ?_ ?_
  · rintro i x σ H3 hx ⟨v2, gs, rfl, s3, hl3, hrs3, hG⟩
    rw [List.getElem?_map] at hx
    obtain ⟨r, hri, rfl⟩ : ∃ r, rs4[i]? = some r ∧ V.ref r.1 = x := by
      cases hh : rs4[i]? with
      | none => rw [hh] at hx; cases hx
      | some y => rw [hh] at hx; injection hx with hx; exact ⟨y, rfl, hx⟩
    have hr' : r ∈ rs4 := List.mem_of_getElem? hri
    have hrow := hrs3 r hr'
    have htk : (rs4.map (·.2)).take (i + 1) = (rs4.map (·.2)).take i ++ [r.2] := by
      rw [List.take_add_one, List.getElem?_map, hri]
      rfl
    obtain ⟨kvs0, hdk, _⟩ := id hG
    refine ⟨_, rfl, d, rfl, .inl ⟨_, .inl hdk⟩, _, rfl, r.1, _, _, V.str r.2.2, rfl, rfl, SqT.of hrow, rfl, big _ (by simp), fun e ne => ?_⟩
    have s4 := Same.new ne (.tup ([] : List V))
    obtain ⟨o, b, hget, hob, hb⟩ := (hG.same s4).get r.2.2 (e := e) upd_same
    refine ⟨o, hget, ?_⟩
    rw [hob]
    refine ⟨_, rfl, r.1, _, _, V.str r.2.1, rfl, rfl, SqT.of (s4 _ _ hrow), rfl, big _ (by simp), fun c nc => ?_⟩
    have s5 := Same.new nc (.tup [V.str r.2.1])
    have hgl : (grp ((rs4.map (·.2)).take i) r.2.2).length ≤ 60 := by
      unfold grp
      rw [List.length_map]
      have h3 := List.length_filter_le (fun (z : Rw) => decide (z.2 = r.2.2)) ((rs4.map (·.2)).take i)
      rw [List.length_take, List.length_map] at h3
      omega
    refine ⟨b, c, _, _, rfl, rfl, s5 _ _ hb, upd_same, big _ (by rw [List.length_map, List.length_singleton]; omega), fun p H6 s6 hp6 => ?_⟩
    have s36 := (s4.trans s5).trans s6
    have hp6' : H6 p = some (.tup ((grp ((rs4.map (·.2)).take i) r.2.2 ++ [r.2.1]).map V.str)) := by rw [hp6, List.map_append]; rfl
    obtain ⟨H7, hput, hG7, hkeep⟩ := (hG.same s36).put r.2 hp6' (by rw [List.length_take, List.length_map]; omega)
    refine ⟨_, rfl, _, rfl, r.1, _, _, V.str r.2.2, rfl, rfl, SqT.of (s36 _ _ hrow), rfl, d, H7, rfl, hput, ?_⟩
    refine ⟨_, _, rfl, fun z o' ez => ?_, hkeep _ _ hld (s36 _ _ hl3), fun z hz' => ?_, by rw [htk]; exact hG7⟩
    · exact hkeep _ _ (ne_of_none ez hHd) (s36 _ _ (s3 _ _ ez))
    · have h1 := s36 _ _ (hrs3 z hz')
      exact hkeep _ _ (fun e' => by rw [e', s36 _ _ hdk] at h1; cases h1) h1
  · rintro σ H3 ⟨v2, gs, rfl, s3, hl3, hrs3, hG⟩
    rw [List.length_map] at hG
    have htk : (rs4.map (·.2)).take rs4.length = rs4.map (·.2) := List.take_of_length_le (by rw [List.length_map]; exact Nat.le_refl _)
    rw [htk] at hG
    obtain ⟨kvs0, hdk, hkeys, ndg, hmem, hgl, _⟩ := id hG
    rw [List.length_map] at hgl
    refine ⟨_, rfl, d, gs, rfl, ⟨kvs0, .inl hdk, hkeys⟩, by omega, fun l5 ts nl5 hpt hst => ?_⟩
    have s4 := Same.new nl5 (.lst (ts.map V.str))
    have hl5 : (upd H3 l5 (.lst (ts.map V.str)) : Hp) l5 = some (.lst (ts.map V.str)) := upd_same
    have hG4 := hG.same s4
    generalize (upd H3 l5 (.lst (ts.map V.str)) : Hp) = H4 at *
    have htl : ts.length = gs.length := hpt.length_eq
    refine ⟨l5, rfl, ⟨_, SqL.of hl5⟩, fun D hD => ?_⟩
    refine compF_rel (xs := ts.map V.str) (fr := [some (.ref d)]) (fun x v H' => ∃ g, x = V.str g ∧ ∃ b c, v = V.ref b ∧ H' b = some (.tup [.str g, .ref c]) ∧ H' c = some (.tup ((grp (rs4.map (·.2)) g).map V.str))) (fun x v H H' s h => ?_) D hD (tells_list (SqL.of hl5)) (bigl _ (by rw [List.length_map]; omega)) ?_ ?_
    · obtain ⟨g, e, b, c, e2, hb, hc⟩ := h
      exact ⟨g, e, b, c, e2, s _ _ hb, s _ _ hc⟩
    · intro x H5 Rr hx s5 hR5
      obtain ⟨g, hg, rfl⟩ := List.mem_map.mp hx
      obtain ⟨c, hget, hc⟩ := (hG4.same s5).at (hpt.mem_iff.mp hg)
      refine ⟨_, rfl, _, rfl, _, rfl, d, V.ref c, rfl, hget, big _ (by simp), fun b nb => ?_⟩
      exact hR5 _ _ (Same.new nb _) ⟨g, rfl, b, c, rfl, upd_same, Same.new nb _ _ _ hc⟩
    · intro H5 ys s5 hD5 hp5
      obtain ⟨qs, rfl, hq1, hq2⟩ := made_turn hp5
      refine ⟨D, _, rfl, .inl ⟨SqL.of hD5, fun q2 nq2 => ?_⟩⟩
      have s6 := Same.new nq2 (.tup (qs.map fun q => V.ref q.1))
      refine q q2 (rs4.map (·.2)) ts _ ((((s3.trans s4).trans s5)).trans s6) hpR hrise (rise_strs hpt ndg hst) (fun g => ?_) ⟨qs, upd_same, fun z hz' => ⟨s6 _ _ (hq1 z hz').1, s6 _ _ (hq1 z hz').2⟩, hq2⟩
      rw [hpt.mem_iff, hmem]
      constructor
      · rintro ⟨r, hr', e⟩; exact ⟨r, hpR.mem_iff.mp hr', e⟩
      · rintro ⟨r, hr', e⟩; exact ⟨r, hpR.mem_iff.mpr hr', e⟩
end
end LW
namespace LW
open PySem L2 Mi Co
def spLed2 : Sp := fun vs H Q _ => ∃ (a : Addr) (R : List Rw) (n : Str), vs = [.ref a, .str n] ∧ RowsAt H a R ∧ (R.map (·.1)).Nodup ∧ R.length < 64 ∧ ∀ (p : Addr) (R' : List Rw) (H' : Hp), Same H H' → R'.Perm (flatL R) → Rise R' → H' p = some (.tup (((R'.filter fun r => decide (r.2 = n)).map (·.1)).map V.str)) → Q (.ref p) H'
section
variable {P : Program} {w : World} {K : PySem.W.Frag} {mg : Str → Option Value} {base : Heap} {f : Addr} {fd : FuncData}
theorem scLed : FnScope ["rows", "name"] ["rows", "name"] (defScope sLed) := ⟨rfl, rfl, rfl, by decide +kernel, rfl, by decide +kernel, by decide +kernel⟩
theorem nd4 : (["row", "name"] : List Str).Nodup := by decide +kernel
theorem ok_led2 {k : Nat} (F : Fun K "led_to" "led_to" sLed f fd) (G : Blt mg) (h0 : IsInt mg "FIRST" 0) (h1 : IsInt mg "GOAL" 1) (hF : Has P w K mg base "flat" k ["rows"] spFlat) :
    FnOk P w K mg base CX0 (k + 1) f fd ["rows", "name"] spLed2 := by
  refine F.ok scLed (fun vs H Q E h => ?_) (fun cdv A outer s H vs Q E hr h => ?_)
  · obtain ⟨a, R, n, rfl, _⟩ := h
    rfl
  obtain ⟨a, R, n, rfl, hA, nd, hz, q⟩ := h
  obtain ⟨t0, m0⟩ := h0
  obtain ⟨t1, m1⟩ := h1
  have hu := hu_of hr
  refine ⟨_, pss_one (ps_ret (pe_callTy call_tuple_of rfl G.tuple boot_tuple (pa_cons (pe_compF (tt := tTest (tOp rEq (tOp (rIxT K) (tVar 0) (tC (.int 1))) (tVar 1))) (te := tOp (rIxT K) (tVar 0) (tC (.int 0))) (xs := ["row"]) (ys := ["name"]) (js := [1]) rfl (by decide +kernel) (by decide +kernel) rfl (by decide +kernel) ⟨rfl, .inl rfl, rfl, trivial⟩
      (pi_tup (pe_callH hF hr rfl (pa_cons (pv 0) pa_nil))) (fun _ _ _ _ _ => pg_name (i := 0) nd4 rfl (Or.inl rfl) (.inr rfl)) (fun _ _ _ _ _ => pts_one (pt_cmpR op_eq (pe_ix ix_tup (pv 0) (pe_glob rfl m1 (v := .int 1) ⟨_, rfl⟩) fun _ _ => rfl) (pv 1) (nomark _)))
      (fun _ _ _ _ _ => pe_ix ix_tup (pv 0) (pe_glob rfl m0 (v := .int 0) ⟨_, rfl⟩) fun _ _ => rfl)) pa_nil))), ?_⟩
  refine ⟨_, rfl, a, R, rfl, hA, nd, hz, fun p R' H1 s1 hA1 hp hr1 => ?_⟩
  obtain ⟨rs, ha1, hrs1, hR1⟩ := id hA1
  have hlz : rs.length < 64 := by
    have e1 := congrArg List.length hR1
    rw [List.length_map, hp.length_eq] at e1
    have e2 : (flatL R).length ≤ R.length := by
      unfold flatL
      refine Nat.le_trans (List.length_filter_le _ _) ?_
      rw [List.length_map]
      exact Nat.le_refl _
    omega
  refine ⟨p, rfl, ⟨_, SqT.of ha1⟩, fun D hD => ?_⟩
  refine compF_all (xs := refs rs) (fr := [some (.str n)]) (f := fun v => .str (((rowOf H1 v).map fun r => r.1).getD "")) (p := fun v => ((rowOf H1 v).map fun r => decide (r.2 = n)).getD false) D hD (tells_tup (SqT.of ha1)) (bigl _ (by rw [List.length_map]; omega)) ?_ ?_ ?_
  · intro x H2 Rr hx s2 hR2
    obtain ⟨r, hr', rfl⟩ := mem_refs hx
    refine ⟨_, rfl, r.1, _, _, V.str r.2.2, rfl, rfl, SqT.of (s2 _ _ (hrs1 r hr')), rfl, _, rfl, rfl, _, rfl, ?_⟩
    have := hR2 H2 (Same.refl _)
    rw [rowOf_of (hrs1 r hr')] at this
    have e : decide (V.str r.2.2 = V.str n) = decide (r.2.2 = n) := by
      by_cases h : r.2.2 = n
      · simp [h]
      · simp [h]
    rw [e]
    exact this
  · intro x H2 Rr hx _ s2 hR2
    obtain ⟨r, hr', rfl⟩ := mem_refs hx
    have := hR2 H2 (Same.refl _)
    rw [rowOf_of (hrs1 r hr')] at this
    exact ⟨_, rfl, r.1, _, _, V.str r.2.1, rfl, rfl, SqT.of (s2 _ _ (hrs1 r hr')), rfl, this⟩
  · intro H2 s2 hD2
    rw [filter_refs hrs1 fun r => decide (r.2 = n)] at hD2
    have hrs2 := hrs1.filter fun r => decide (r.2.2 = n)
    have em : (refs (rs.filter fun r => decide (r.2.2 = n))).map (fun v => V.str (((rowOf H1 v).map fun r => r.1).getD "")) = (((R'.filter fun r => decide (r.2 = n)).map (·.1)).map V.str) := by
      have ef : ((rs.filter fun r => decide (r.2.2 = n)).map (·.2)) = R'.filter fun r => decide (r.2 = n) := by
        rw [filter_snd rs fun r => decide (r.2 = n), hR1]
      rw [← ef, List.map_map, List.map_map, List.map_map]
      refine List.map_congr_left fun r hr' => ?_
      show V.str (((rowOf H1 (V.ref r.1)).map fun r => r.1).getD "") = _
      rw [rowOf_of (hrs2 r hr')]
      rfl
    rw [em] at hD2
    refine ⟨D, _, rfl, .inl ⟨SqL.of hD2, fun l nl => ?_⟩⟩
    exact q l R' _ ((s1.trans s2).trans (Same.new nl _)) hp hr1 upd_same
end
end LW
namespace LW
open PySem L2 Mi Co
section
variable {P : Program} {w : World} {K : PySem.W.Frag} {mg : Str → Option Value} {base : Heap} {f : Addr} {fd : FuncData}
theorem scDraw : FnScope ["_law_script", "_law_town", "_law_many", "_law_k", "_law_cell", "_law_number", "_law_more"] ["_law_script", "_law_town", "_law_many"] (defScope sDraw) := ⟨rfl, rfl, rfl, by decide +kernel, rfl, by decide +kernel, by decide +kernel⟩
theorem ok_draw {k : Nat} (F : Fun K "_law_draw" "_law_draw" sDraw f fd) (G : Blt mg) : FnOk P w K mg base CX0 (k + 1) f fd ["_law_script", "_law_town", "_law_many"] (spDraw K) := by
  refine F.ok scDraw (fun vs H Q E h => ?_) (fun cdv A outer s H vs Q E hr h => ?_)
  · obtain ⟨a, t, ns, zs, m, rfl, _⟩ := h
    rfl
  obtain ⟨a, t, ns, zs, m, rfl, hS, h63, hT, hz, hm, q⟩ := h
  refine ⟨_, pss_cons (ps_expr (pe_bm PySem.F.plainAttrs_list PySem.F.slot_list_append PySem.F.type_list_append mt_append (pv 1) (pa_cons pe_int pa_nil)))
    (pss_cons (ps_set (i := 3) scDraw.nd rfl (Or.inl rfl) (pe_callB call_len_seq rfl G.len PySem.boot_len (pa_cons (pv 1) pa_nil)))
    (pss_cons (ps_set (i := 4) scDraw.nd rfl (Or.inl rfl) pe_int)
    (pss_cons (ps_if (pt_truth (pv 0) (fun _ => rfl)) (pss_one (ps_set (i := 4) scDraw.nd rfl (Or.inl rfl) (pe_ix ix_list (pv 0) (pe_op op_mod (pv 3) (pe_callB call_len_seq rfl G.len PySem.boot_len (pa_cons (pv 0) pa_nil))) (fun _ _ => rfl)))) pss_nil)
    (pss_cons (ps_set (i := 5) scDraw.nd rfl (Or.inl rfl) (pe_op op_mod (pe_op op_add (pv 4) (pe_op op_mul pe_int (pv 3))) pe_int))
    (pss_cons (ps_set (i := 5) scDraw.nd rfl (Or.inl rfl) (pe_op op_mod (pe_op op_mul (pe_op op_mod (pe_op op_mul (pv 5) (pv 5)) pe_int) pe_int) pe_int))
    (pss_cons (ps_set (i := 6) scDraw.nd rfl (Or.inl rfl) (pe_op op_mod (pe_op op_mul (pe_op op_mod (pe_op op_mul (pv 5) (pv 5)) pe_int) pe_int) pe_int))
    (pss_one (ps_ret (pe_op op_mod (pe_op op_add (pe_op op_mul (pe_op op_fdiv (pv 5) pe_int) pe_int) (pe_op op_fdiv (pv 6) pe_int)) (pv 2)))))))))), ?_⟩
  refine ⟨_, rfl, .inl ⟨rfl, _, SqL.of hT⟩, t, zs, _, rfl, rfl, hT, bigl _ (by omega), ?_⟩
  have hT' : (upd H t (.lst (zs ++ [V.int 0])) : Hp) t = some (.lst (zs ++ [V.int 0])) := upd_same
  have st : Stp t H (upd H t (.lst (zs ++ [V.int 0]))) := Stp.upd _
  have hS' := hS.stp hT st
  refine ⟨_, rfl, t, _, rfl, .inl (SqL.of hT'), ?_⟩
  refine ⟨_, rfl, _, .inl ⟨_, hS'.sq, rfl⟩, ?_⟩
  have rest : ∀ e : Int, Q (.int (e % m)) (upd H t (.lst (zs ++ [V.int 0]))) := fun e =>
    q _ _ (Int.emod_nonneg _ (by omega)) (Int.emod_lt_of_pos _ hm) hT' st
  refine ite2 (fun c => ?_) (fun c => ?_)
  · have hne : ns ≠ [] := fun e => by subst e; simp at c
    have hlen : 0 < (ns.map V.int).length := by rw [List.length_map]; exact List.length_pos_iff.mpr hne
    obtain ⟨v, hv⟩ := at_mod hne (((zs ++ [V.int 0]).length : Nat) : Int)
    refine ⟨_, rfl, _, rfl, _, rfl, a, _, rfl, .inl hS'.sq, _, _, rfl, rfl, by omega, a, _, _, _, rfl, rfl, hS'.sq, hv, ?_⟩
    refine ⟨_, rfl, _, rfl, _, _, rfl, rfl, .inl ⟨by decide, by decide⟩, _, _, rfl, rfl, _, _, rfl, rfl, (show (0 : Int) < 4294967291 by decide), ?_⟩
    refine ⟨_, rfl, _, rfl, _, _, rfl, rfl, .inl ⟨by omega, by omega⟩, _, _, rfl, rfl, (show (0 : Int) < 4294967279 by decide), _, _, rfl, rfl, .inl ⟨by omega, by omega⟩, _, _, rfl, rfl, (show (0 : Int) < 4294967291 by decide), ?_⟩
    refine ⟨_, rfl, _, rfl, _, _, rfl, rfl, .inl ⟨by omega, by omega⟩, _, _, rfl, rfl, (show (0 : Int) < 4294967279 by decide), _, _, rfl, rfl, .inl ⟨by omega, by omega⟩, _, _, rfl, rfl, (show (0 : Int) < 4294967291 by decide), ?_⟩
    exact ⟨_, rfl, _, _, rfl, rfl, ⟨by decide, by decide⟩, _, _, rfl, rfl, .inl ⟨by omega, by omega⟩, _, rfl, _, _, rfl, rfl, ⟨by decide, by decide⟩, _, _, rfl, rfl, _, rfl, _, _, rfl, rfl, hm, rest _⟩
  · refine ⟨_, rfl, _, rfl, _, _, rfl, rfl, .inl ⟨by decide, by decide⟩, _, _, rfl, rfl, _, _, rfl, rfl, (show (0 : Int) < 4294967291 by decide), ?_⟩
    refine ⟨_, rfl, _, rfl, _, _, rfl, rfl, .inl ⟨by omega, by omega⟩, _, _, rfl, rfl, (show (0 : Int) < 4294967279 by decide), _, _, rfl, rfl, .inl ⟨by omega, by omega⟩, _, _, rfl, rfl, (show (0 : Int) < 4294967291 by decide), ?_⟩
    refine ⟨_, rfl, _, rfl, _, _, rfl, rfl, .inl ⟨by omega, by omega⟩, _, _, rfl, rfl, (show (0 : Int) < 4294967279 by decide), _, _, rfl, rfl, .inl ⟨by omega, by omega⟩, _, _, rfl, rfl, (show (0 : Int) < 4294967291 by decide), ?_⟩
    exact ⟨_, rfl, _, _, rfl, rfl, ⟨by decide, by decide⟩, _, _, rfl, rfl, .inl ⟨by omega, by omega⟩, _, rfl, _, _, rfl, rfl, ⟨by decide, by decide⟩, _, _, rfl, rfl, _, rfl, _, _, rfl, rfl, hm, rest _⟩
end
end LW
namespace LW
open PySem L2 Mi Co
section
variable {P : Program} {w : World} {K : PySem.W.Frag} {mg : Str → Option Value} {base : Heap} {f : Addr} {fd : FuncData}
theorem scPick : FnScope ["_law_script", "_law_town", "_law_some"] ["_law_script", "_law_town", "_law_some"] (defScope sPick) := ⟨rfl, rfl, rfl, by decide +kernel, rfl, by decide +kernel, by decide +kernel⟩
theorem ok_pick {k : Nat} (F : Fun K "_law_pick" "_law_pick" sPick f fd) (G : Blt mg) (hD : Has P w K mg base "_law_draw" k ["_law_script", "_law_town", "_law_many"] (spDraw K)) : FnOk P w K mg base CX0 (k + 1) f fd ["_law_script", "_law_town", "_law_some"] (spPick K) := by
  refine F.ok scPick (fun vs H Q E h => ?_) (fun cdv A outer s H vs Q E hr h => ?_)
  · obtain ⟨a, t, ns, zs, _, _, _, _, ⟨l, xs, rfl, _⟩ | ⟨z, rfl, _⟩⟩ := h <;> rfl
  obtain ⟨a, t, ns, zs, hS, h63, hT, hz, h⟩ := h
  refine ⟨_, pss_one (ps_ret (pe_ix ix_seq (pv 2) (pe_callH hD hr rfl (pa_cons (pv 0) (pa_cons (pv 1) (pa_cons (pe_callB (call_len_seq.or call_len_str) rfl G.len PySem.boot_len (pa_cons (pv 2) pa_nil)) pa_nil)))) (fun _ _ => rfl))), ?_⟩
  rcases h with ⟨l, xs, rfl, hl, hne, hx, q⟩ | ⟨z, rfl, hz0, hz1, q⟩
  · refine ⟨_, rfl, _, rfl, _, rfl, _, rfl, .inl ⟨l, _, rfl, .inl (SqL.of hl), a, t, ns, zs, _, rfl, hS, h63, hT, hz, by omega, fun r H' h0 h1 hT' st => ?_⟩⟩
    obtain ⟨v, hv, hm⟩ := at_place h0 h1
    exact .inl ⟨l, xs, r, v, rfl, rfl, SqL.of (st l _ hne hl), hv, q v H' hm hT' st⟩
  · refine ⟨_, rfl, _, rfl, _, rfl, _, rfl, .inr ⟨z, rfl, big _ (by omega), a, t, ns, zs, _, rfl, hS, h63, hT, hz, by omega, fun r H' h0 h1 hT' st => ?_⟩⟩
    have hl : z.cps.toList.length = z.length := by simp [Str.length]
    obtain ⟨v, hv, hm⟩ := at_place (xs := z.cps.toList) h0 (by rw [hl]; exact h1)
    exact .inr (.inr ⟨z, r, v, rfl, rfl, big _ (by omega), hv, q v H' hm hT' st⟩)
end
end LW
namespace LW
open PySem L2 Mi Co
def NINE : List Str := ["a", "b", "c", "d", "e", "f", "g", "h", "i"]
def TEN : List Str := NINE ++ [("z" : Str)]
structure Nm (R : List Rw) : Prop where
  nd : (R.map (·.1)).Nodup
  nm : ∀ r ∈ R, r.1 ∈ NINE ∧ r.2 ∈ TEN
theorem Nm.len {R : List Rw} (g : Nm R) : R.length ≤ 9 := by
  have := nodup_len (P := R.map (·.1)) (L := NINE) g.nd fun x hx => by
    obtain ⟨r, hr, rfl⟩ := List.mem_map.mp hx
    exact (g.nm r hr).1
  rw [List.length_map] at this
  exact this
theorem Nm.perm {R R' : List Rw} (g : Nm R) (h : R'.Perm R) : Nm R' := ⟨(h.map (·.1)).nodup_iff.mpr g.nd, fun r hr => g.nm r (h.mem_iff.mp hr)⟩
theorem nine_nd : NINE.Nodup := by decide +kernel
theorem ten_ok : ∀ t ∈ TEN, t.length ≤ 100 ∧ ∀ c ∈ t.cps.toList, c < 16 ^ 8 := by decide +kernel
theorem erase_perm {α : Type} : ∀ {xs : List α} {k : Nat} {y : α}, xs[k]? = some y → (y :: xs.eraseIdx k).Perm xs
  | [], _, _, h => by simp at h
  | x :: xs, 0, y, h => by simp at h; subst h; exact List.Perm.refl _
  | x :: xs, k + 1, y, h => by
    have ih := erase_perm (xs := xs) (k := k) (y := y) (by simpa using h)
    rw [List.eraseIdx_cons_succ]
    exact (List.Perm.swap x y _).trans (ih.cons x)
def spMixed (K : PySem.W.Frag) : Sp := fun vs H Q _ => ∃ (a t l : Addr) (ns : List Int) (zs xs : List V), vs = [.ref a, .ref t, .ref l] ∧ Scr K H a ns ∧ ns.length ≤ 63 ∧ H t = some (.lst zs) ∧ zs.length < 50000 ∧ (SqL K H l xs ∨ SqT K H l xs) ∧ xs.length ≤ 100 ∧
  ∀ (p : Addr) (ys zs' : List V) (H' : Hp), H' t = some (.lst zs') → zs'.length ≤ zs.length + xs.length → Stp t H H' → H' p = some (.tup ys) → ys.Perm xs → Q (.ref p) H'
section
variable {P : Program} {w : World} {K : PySem.W.Frag} {mg : Str → Option Value} {base : Heap} {f : Addr} {fd : FuncData}
theorem scMixed : FnScope ["_law_script", "_law_town", "_law_row", "_law_left", "_law_found"] ["_law_script", "_law_town", "_law_row"] (defScope sMixed) := ⟨rfl, rfl, rfl, by decide +kernel, rfl, by decide +kernel, by decide +kernel⟩
theorem ok_mixed {k : Nat} (F : Fun K "_law_mixed" "_law_mixed" sMixed f fd) (G : Blt mg) (hDraw : Has P w K mg base "_law_draw" k ["_law_script", "_law_town", "_law_many"] (spDraw K)) :
    FnOk P w K mg base CX0 (k + 1) f fd ["_law_script", "_law_town", "_law_row"] (spMixed K) := by
  refine F.ok scMixed (fun vs H Q E h => ?_) (fun cdv A outer s H vs Q E hr h => ?_)
  · obtain ⟨a, t, l, ns, zs, xs, rfl, _⟩ := h
    rfl
  obtain ⟨a, t, l, ns, zs, xs, rfl, hS, h63, hT, hz, hx, hxl, q⟩ := h
  refine ⟨_, pss_cons (ps_par (i := 3) (j := 4) rfl scMixed.nd rfl rfl (by decide) rfl rfl (pa_cons (pe_callTy call_list_of rfl G.list boot_list (pa_cons (pv 2) pa_nil)) (pa_cons (pe_lst pa_nil) pa_nil)) rfl)
    (pss_cons (ps_while PassesOwn.never (pt_truth (pv 3) fun _ => rfl)
      (pss_one (ps_expr (pe_bm PySem.F.plainAttrs_list PySem.F.slot_list_append PySem.F.type_list_append mt_append (pv 4)
        (pa_cons (pe_bm PySem.F.plainAttrs_list PySem.F.slot_list_pop PySem.F.type_list_pop mt_popAt (pv 3) (pa_cons (pe_callH hDraw hr rfl (pa_cons (pv 0) (pa_cons (pv 1) (pa_cons (pe_callB call_len_seq rfl G.len PySem.boot_len (pa_cons (pv 3) pa_nil)) pa_nil)))) pa_nil)) pa_nil)))))
    (pss_one (ps_ret (pe_callTy call_tuple_of rfl G.tuple boot_tuple (pa_cons (pv 4) pa_nil))))), ?_⟩
  refine ⟨_, rfl, l, xs, rfl, hx, fun lf nlf => ?_⟩
  have s1 := Same.new nlf (.lst xs)
  have hlf : (upd H lf (.lst xs) : Hp) lf = some (.lst xs) := upd_same
  have hlft : lf ≠ t := fun e => by rw [← e, nlf] at hT; cases hT
  generalize (upd H lf (.lst xs) : Hp) = H1 at *
  refine ⟨big _ (by simp), fun fd' nfd => ?_⟩
  have s2 := Same.new nfd (.lst ([] : List V))
  have hfd : (upd H1 fd' (.lst ([] : List V)) : Hp) fd' = some (.lst []) := upd_same
  have hlff : lf ≠ fd' := fun e => by rw [← e, hlf] at nfd; cases nfd
  have nfd0 : H fd' = none := by
    cases h : H fd' with
    | none => rfl
    | some o => rw [s1 _ _ h] at nfd; cases nfd
  have hfdt : fd' ≠ t := fun e => by rw [← e, nfd0] at hT; cases hT
  have hlf2 := s2 _ _ hlf
  have s12 := s1.trans s2
  generalize (upd H1 fd' (.lst ([] : List V)) : Hp) = H2 at *
  refine ⟨_, _, rfl, ?_⟩
  refine ⟨fun m σ H' => ∃ (ls fs zs' : List V), σ = [some (.ref a), some (.ref t), some (.ref l), some (.ref lf), some (.ref fd')] ∧ H' lf = some (.lst ls) ∧ H' fd' = some (.lst fs) ∧ H' t = some (.lst zs') ∧ zs'.length + ls.length ≤ zs.length + xs.length ∧ Stp t H H' ∧ (fs ++ ls).Perm xs ∧ m = ls.length,
    ⟨xs.length, xs, [], zs, rfl, hlf2, hfd, s12 _ _ hT, Nat.le_refl _, s12.stp, List.Perm.refl _, rfl⟩, ?_⟩
  rintro m σ H3 ⟨ls, fs, zs3, rfl, hlf3, hfd3, hT3, hz3, st3, hp3, rfl⟩
  have hfl : fs.length + ls.length = xs.length := by have := hp3.length_eq; rw [List.length_append] at this; exact this
  refine ⟨_, rfl, _, .inl ⟨ls, SqL.of hlf3, rfl⟩, ?_⟩
  cases ls with
  | nil =>
    rw [List.append_nil] at hp3
    refine iteF ⟨_, rfl, fd', _, rfl, .inl ⟨SqL.of hfd3, fun p np => ?_⟩⟩
    have s4 := Same.new np (.tup fs)
    exact q p fs zs3 _ (s4 _ _ hT3) (by simpa using hz3) (st3.trans s4.stp) upd_same hp3
  | cons y0 ls =>
    have hS3 := hS.stp hT st3
    refine iteT ⟨fun σ' H' => ∃ m', m' < (y0 :: ls).length ∧ ∃ (ls fs zs' : List V), σ' = [some (.ref a), some (.ref t), some (.ref l), some (.ref lf), some (.ref fd')] ∧ H' lf = some (.lst ls) ∧ H' fd' = some (.lst fs) ∧ H' t = some (.lst zs') ∧ zs'.length + ls.length ≤ zs.length + xs.length ∧ Stp t H H' ∧ (fs ++ ls).Perm xs ∧ m' = ls.length, fun σ' H' h => h, ?_⟩
    refine ⟨_, rfl, .inl ⟨rfl, _, SqL.of hfd3⟩, _, rfl, .inl ⟨rfl, _, SqL.of hlf3⟩, _, rfl, _, rfl, _, rfl, lf, _, rfl, .inl (SqL.of hlf3), a, t, ns, zs3, _, rfl, hS3, h63, hT3, by omega, by simp, fun r H4 hr0 hr1 hT4 st4 => ?_⟩
    have hlf4 := st4 _ _ hlft hlf3
    have hfd4 := st4 _ _ hfdt hfd3
    have hrl : r.toNat < (y0 :: ls).length := by omega
    have hget : (y0 :: ls)[r.toNat]? = some (y0 :: ls)[r.toNat] := List.getElem?_eq_getElem hrl
    have hpm := erase_perm hget
    refine ⟨lf, _, r, r.toNat, _, rfl, rfl, hlf4, by omega, ?_, PySem.StrLaws.seqIndex_nonneg hr0 hr1, hget, ?_⟩
    · have : (2 : Int) ^ 63 = 9223372036854775808 := by decide
      omega
    have hel : ((y0 :: ls).eraseIdx r.toNat).length + 1 = (y0 :: ls).length := by have := hpm.length_eq; rw [List.length_cons] at this; exact this
    refine ⟨fd', fs, _, rfl, rfl, by rw [upd_ne (Ne.symm hlff)]; exact hfd4, bigl _ (by omega), ?_⟩
    refine ⟨_, by omega, (y0 :: ls).eraseIdx r.toNat, fs ++ [(y0 :: ls)[r.toNat]], zs3 ++ [.int 0], rfl, ?_, upd_same, ?_, ?_, ?_, ?_, rfl⟩
    · rw [upd_ne hlff, upd_same]
    · rw [upd_ne (Ne.symm hfdt), upd_ne (Ne.symm hlft)]; exact hT4
    · rw [List.length_append, List.length_singleton]; omega
    · intro b o hb eb
      rw [upd_ne (ne_of_none eb nfd0), upd_ne (ne_of_none eb nlf)]
      exact (st3.trans st4) b o hb eb
    · rw [List.append_assoc]
      exact (hpm.append_left fs).trans hp3
end
end LW
namespace LW
open PySem L2 Mi Co
theorem skip_nodup {L : List Str} (nd : L.Nodup) {j : Nat} {x : Str} (h : L[j]? = some x) : x ∉ L.take j := fun hm => by
  have hlt : j < L.length := (List.getElem?_eq_some_iff.mp h).1
  have e2 := (List.getElem?_eq_some_iff.mp h).2
  rw [← List.take_append_drop j L, List.nodup_append] at nd
  exact nd.2.2 x hm x (by rw [List.drop_eq_getElem_cons hlt, e2]; exact List.mem_cons_self ..) rfl
theorem perm_strs {ys : List V} {ts : List Str} (h : ys.Perm (ts.map V.str)) : ∃ ns : List Str, ys = ns.map V.str ∧ ns.Perm ts := by
  have h2 := h.map fun v => match v with | V.str x => x | _ => ""
  rw [List.map_map] at h2
  have e : (ts.map ((fun v => match v with | V.str x => x | _ => ("" : Str)) ∘ V.str)) = ts := by
    have : ∀ z ∈ ts, ((fun v => match v with | V.str x => x | _ => ("" : Str)) ∘ V.str) z = z := fun z _ => rfl
    rw [List.map_congr_left this, List.map_id']
  rw [e] at h2
  refine ⟨_, ?_, h2⟩
  rw [List.map_map]
  have : ∀ z ∈ ys, (V.str ∘ fun v => match v with | V.str x => x | _ => ("" : Str)) z = z := fun z hz => by
    obtain ⟨t, _, rfl⟩ := List.mem_map.mp (h.mem_iff.mp hz)
    rfl
  rw [List.map_congr_left this, List.map_id']
def spRows28 (K : PySem.W.Frag) : Sp := fun vs H Q _ => ∃ (a t : Addr) (ns : List Int) (zs : List V), vs = [.ref a, .ref t] ∧ Scr K H a ns ∧ ns.length ≤ 63 ∧ H t = some (.lst zs) ∧ zs.length < 40000 ∧
  ∀ (p : Addr) (R : List Rw) (zs' : List V) (H' : Hp), H' t = some (.lst zs') → zs'.length ≤ zs.length + 30 → Stp t H H' → RowsAt H' p R → Nm R → Q (.ref p) H'
def Ev (R : List Rw) (n : Str) : V := if (val R (stop R n)).isNone then .str (stop R n) else .non
theorem ev_out {R : List Rw} {n : Str} (h : val R (stop R n) = none) : Ev R n = .str (stop R n) := by unfold Ev; rw [h]; rfl
theorem ev_round {R : List Rw} {n : Str} (h : val R (stop R n) ≠ none) : Ev R n = .non := by
  unfold Ev
  cases hv : val R (stop R n) with
  | none => exact absurd hv h
  | some g => rfl
theorem ev_cases (R : List Rw) (n : Str) : (val R (stop R n) = none ∧ Ev R n = .str (stop R n)) ∨ (val R (stop R n) ≠ none ∧ Ev R n = .non) := by
  by_cases h : val R (stop R n) = none
  · exact .inl ⟨h, ev_out h⟩
  · exact .inr ⟨h, ev_round h⟩
theorem ev_scal (R R' : List Rw) (n m : Str) : scal (Ev R n) (Ev R' m) = true := by
  rcases ev_cases R n with ⟨_, e⟩ | ⟨_, e⟩ <;> rcases ev_cases R' m with ⟨_, e'⟩ | ⟨_, e'⟩ <;> rw [e, e'] <;> rfl
theorem ev_scalS (R : List Rw) (n m : Str) : scal (Ev R n) (.str m) = true := by
  rcases ev_cases R n with ⟨_, e⟩ | ⟨_, e⟩ <;> rw [e] <;> rfl
theorem ev_non (R : List Rw) (n : Str) : decide (Ev R n = .non) = (val R (stop R n)).isSome := by
  rcases ev_cases R n with ⟨h, e⟩ | ⟨h, e⟩
  · rw [e, h]; rfl
  · rw [e]
    cases hv : val R (stop R n) with
    | none => exact absurd hv h
    | some g => rfl
theorem ev_goal {R : List Rw} {n m : Str} (h : val R n = some m) : Ev R m = Ev R n := by
  obtain ⟨h1, h2⟩ := ends_goal h
  rcases ev_cases R n with ⟨a, e⟩ | ⟨a, e⟩
  · rw [e, ev_out (h1.mp a), h2 a]
  · rw [e, ev_round fun z => a (h1.mpr z)]
theorem ev_none {R : List Rw} {n : Str} (h : val R n = none) : Ev R n = .str n := by
  rw [ev_out (by rw [stop_none h]; exact h), stop_none h]
def spLEnd : Sp := fun vs H Q _ => ∃ (a : Addr) (R : List Rw) (n : Str), vs = [.ref a, .str n] ∧ RowsAt H a R ∧ (R.map (·.1)).Nodup ∧ R.length ≤ 1000 ∧ Txt1 n ∧ ∀ H', Same H H' → Q (Ev R n) H'
section
variable {P : Program} {w : World} {K : PySem.W.Frag} {mg : Str → Option Value} {base : Heap} {f : Addr} {fd : FuncData}
theorem scLEnd : FnScope ["_law_rows_here", "_law_name"] ["_law_rows_here", "_law_name"] (defScope sLEnd) := ⟨rfl, rfl, rfl, by decide +kernel, rfl, by decide +kernel, by decide +kernel⟩
theorem ok_lend {k : Nat} {C : Addr} (F : Fun K "_law_end" "_law_end" sLEnd f fd) (O : PyProof.Rows.OwnCls "Ring" C VE "ValueError.__new__" mg base) (hR : HasE P w K mg base "end_of" k ["rows", "name"] (spEnd C)) :
    FnOk P w K mg base CX0 (k + 1) f fd ["_law_rows_here", "_law_name"] spLEnd := by
  refine F.ok scLEnd (fun vs H Q E h => ?_) (fun cdv A outer s H vs Q E hr h => ?_)
  · obtain ⟨a, R, n, rfl, _⟩ := h
    rfl
  obtain ⟨a, R, n, rfl, hA, nd, hz, h1, q⟩ := h
  obtain ⟨f', fd', F', b', k', m'⟩ := hR
  refine ⟨_, pss_one (ps_try O rfl rfl rfl rfl (psx_ret F' hr rfl m' k' b' (fun _ => pa_cons (pv 0) (pa_cons (pv 1) pa_nil))) (fun _ _ => pss_one (ps_ret pe_non))), ?_⟩
  exact ⟨_, rfl, _, rfl, a, R, n, rfl, hA, nd, hz, h1, fun h H' s' => ev_out h ▸ q H' s', fun h H' s' => ⟨rfl, ev_round h ▸ q H' s'⟩⟩
theorem scRows : FnScope ["_law_script", "_law_town", "_law_names", "_law_found", "_law_name"] ["_law_script", "_law_town"] (defScope sRows) := ⟨rfl, rfl, rfl, by decide +kernel, rfl, by decide +kernel, by decide +kernel⟩
def lstR : Expr := match (defBody sRows).getD 0 (.Pass ⟨0, 0, 0, 0⟩) with
  | .Assign _ (.Tuple (e :: _) _ _) _ => e
  | _ => .Constant .none 0 ⟨0, 0, 0, 0⟩
def sForR : Stmt := (defBody sRows).getD 1 (.Pass ⟨0, 0, 0, 0⟩)
def sRetR : Stmt := (defBody sRows).getD 2 (.Pass ⟨0, 0, 0, 0⟩)
theorem lstR_is : isLst lstR = true := rfl
theorem lstR_strs : strsOf (eltsOf lstR) NINE = true := by decide +kernel
theorem pdR {X : Cx} {e : Expr} (he : e = lstR) : PE X e (fun _ H Q => ∀ p, H p = none → Q (.ref p) (upd H p (.lst (NINE.map V.str)))) := pe_strsL (he ▸ lstR_is) (he ▸ lstR_strs) (by decide)
theorem starR {e : Expr} (he : e = lstR) (es : List Expr) (env : Env) : starEach (e :: es) env = (false, eval e env) :: starEach es env := by subst he; rfl
def aR : Stmt := (defBody sRows).getD 0 (.Pass ⟨0, 0, 0, 0⟩)
theorem asR {cdv : Value} {A : Around} {outer : List Env} {s : Shared} {H : Hp} {E : XK} : PS (cxOf CX0 P w K mg base ["_law_script", "_law_town", "_law_names", "_law_found", "_law_name"] "_law_rows" (defScope sRows) f cdv A outer s H E).nox aR (tPar 2 3 (tCons (fun _ H Q => ∀ p, H p = none → Q (.ref p) (upd H p (.lst (NINE.map V.str)))) (tCons (tTup tNil) tNil))) := by
  obtain ⟨e1, he1⟩ : ∃ e, e = lstR := ⟨_, rfl⟩
  have hb : ∃ (p1 p2 p3 p4 p5 p6 : Pos) (k1 k2 k3 : Nat), aR = .Assign [.Tuple [.Name "_law_names" p1, .Name "_law_found" p2] k1 p3] (.Tuple [lstR, .Tuple [] k3 p4] k2 p5) p6 ∧ swappedStores [.Tuple [.Name "_law_names" p1, .Name "_law_found" p2] k1 p3] (.Tuple [lstR, .Tuple [] k3 p4] k2 p5) (cxOf CX0 P w K mg base ["_law_script", "_law_town", "_law_names", "_law_found", "_law_name"] "_law_rows" (defScope sRows) f cdv A outer s H E).nox.env = pure (some [(Str.ofString "_law_names"), (Str.ofString "_law_found")]) ∧ swapsWithSole [.Tuple [.Name "_law_names" p1, .Name "_law_found" p2] k1 p3] (.Tuple [lstR, .Tuple [] k3 p4] k2 p5) p6.line (cxOf CX0 P w K mg base ["_law_script", "_law_town", "_law_names", "_law_found", "_law_name"] "_law_rows" (defScope sRows) f cdv A outer s H E).nox.env = pure false := ⟨_, _, _, _, _, _, _, _, _, rfl, rfl, rfl⟩
  obtain ⟨p1, p2, p3, p4, p5, p6, k1, k2, k3, e, hw, hs⟩ := hb
  rw [e]
  rw [← he1] at hw hs ⊢
  exact ps_par (i := 2) (j := 3) rfl scRows.nd rfl rfl (by decide) rfl rfl (pa_cons (pdR he1) (pa_cons (pe_tup pa_nil) pa_nil) (starR he1 _ _)) hw hs
theorem ok_rows28 {k : Nat} (F : Fun K "_law_rows" "_law_rows" sRows f fd) (G : Blt mg) (hDraw : Has P w K mg base "_law_draw" k ["_law_script", "_law_town", "_law_many"] (spDraw K)) (hPick : Has P w K mg base "_law_pick" k ["_law_script", "_law_town", "_law_some"] (spPick K)) (hMixed : Has P w K mg base "_law_mixed" k ["_law_script", "_law_town", "_law_row"] (spMixed K)) :
    FnOk P w K mg base CX0 (k + 1) f fd ["_law_script", "_law_town"] (spRows28 K) := by
  refine F.ok scRows (fun vs H Q E h => ?_) (fun cdv A outer s H vs Q E hr h => ?_)
  · obtain ⟨a, t, ns, zs, rfl, _⟩ := h
    rfl
  obtain ⟨a, t, ns, zs, rfl, hS, h63, hT, hz, q⟩ := h
  have hbody : defBody sRows = [aR, sForR, sRetR] := rfl
  rw [hbody]
  have pA := asR (P := P) (w := w) (K := K) (mg := mg) (base := base) (f := f) (cdv := cdv) (A := A) (outer := outer) (s := s) (H := H) (E := E)
  refine ⟨_, pss_cons pA
    (pss_cons (ps_for PassesOwn.never rfl (pi_tup (pe_slice sl_tupH (pe_callH hMixed hr rfl (pa_cons (pv 0) (pa_cons (pv 1) (pa_cons (pv 2) pa_nil)))) po_none (po_some (pe_callH hDraw hr rfl (pa_cons (pv 0) (pa_cons (pv 1) (pa_cons pe_int pa_nil))))))) (pg_name (i := 4) scRows.nd rfl (Or.inl rfl))
      (pss_one (ps_set (i := 3) scRows.nd rfl (Or.inl rfl) (pe_op op_catH (pv 3) (pe_tup (pa_cons (pe_tup (pa_cons (pv 4) (pa_cons (pe_callH hPick hr rfl (pa_cons (pv 0) (pa_cons (pv 1) (pa_cons (pe_op op_cat (pv 2) (pe_lst (pa_cons pe_str pa_nil))) pa_nil)))) pa_nil))) pa_nil))))))
    (pss_one (ps_ret (pv 3)))), ?_⟩
  intro l nl
  have s1 := Same.new nl (.lst (NINE.map V.str))
  have hl1 : (upd H l (.lst (NINE.map V.str)) : Hp) l = some (.lst (NINE.map V.str)) := upd_same
  have hlt : l ≠ t := fun e => by rw [← e, nl] at hT; cases hT
  generalize (upd H l (.lst (NINE.map V.str)) : Hp) = H1 at *
  refine ⟨big _ (by simp), fun p0 np0 => ?_⟩
  have s2 := Same.new np0 (.tup ([] : List V))
  have hA0 : RowsAt (upd H1 p0 (.tup ([] : List V))) p0 [] := ⟨[], upd_same, (fun r hr => by cases hr), rfl⟩
  generalize (upd H1 p0 (.tup ([] : List V)) : Hp) = H2 at *
  have s12 := s1.trans s2
  have hT2 := s12 _ _ hT
  have hl2 := s2 _ _ hl1
  refine ⟨_, _, rfl, ?_⟩
  refine ⟨_, rfl, _, rfl, _, rfl, a, t, l, ns, zs, NINE.map V.str, rfl, hS.same s12, h63, hT2, by omega, .inl (SqL.of hl2), by decide, fun pm ys zs3 H3 hT3 hz3 st3 hpm hperm => ?_⟩
  obtain ⟨names, rfl, hpn⟩ := perm_strs hperm
  have hnl : names.length = 9 := hpn.length_eq
  have hN9 : (NINE.map V.str).length = 9 := rfl
  rw [hN9] at hz3
  have hS3 := (hS.same s12).stp hT2 st3
  refine ⟨_, rfl, _, rfl, a, t, ns, zs3, 10, rfl, hS3, h63, hT3, by omega, by decide, fun m H4 hm0 hm1 hT4 st4 => ?_⟩
  have ts4 := st4.ts hT3
  obtain ⟨mn, rfl⟩ : ∃ mn : Nat, m = (mn : Int) := ⟨m.toNat, by omega⟩
  refine ⟨_, rfl, pm, _, rfl, ts4 _ _ hpm, fun q1 H5 s5 hq1 => ?_⟩
  rw [cut_to, ← List.map_take] at hq1
  have st05 : Stp t H H5 := ((s12.stp.trans st3).trans st4).trans s5.stp
  have hT5 := s5 _ _ hT4
  have hl5 := s5 _ _ (st4 _ _ hlt (st3 _ _ hlt hl2))
  have hA5 := (((hA0.ts (st3.ts hT2)).ts ts4).same s5)
  refine ⟨q1, rfl, ⟨_, SqT.of hq1⟩, ?_⟩
  refine for_tup (xs := (names.take mn).map V.str) (fun j σ H' => ∃ (v4 : Option V) (p : Addr) (R : List Rw) (zs' : List V), σ = [some (.ref a), some (.ref t), some (.ref l), some (.ref p), v4] ∧ H' q1 = some (.tup ((names.take mn).map V.str)) ∧ H' l = some (.lst (NINE.map V.str)) ∧ H' t = some (.lst zs') ∧ zs'.length ≤ zs.length + 10 + j ∧ Stp t H H' ∧ RowsAt H' p R ∧ Nm R ∧ ∀ r ∈ R, r.1 ∈ names.take j)
    ⟨_, p0, [], _, rfl, hq1, hl5, hT5, by simp; omega, st05, hA5, ⟨List.nodup_nil, (fun r hr => by cases hr)⟩, (fun r hr => by cases hr)⟩ (fun j σ H' _ h => by obtain ⟨_, _, _, _, _, h, _⟩ := h; exact SqT.of h) ?_ ?_
  · rintro j x σ H6 hx ⟨v4, p, R, zs6, rfl, hq6, hl6, hT6, hz6, st6, hA6, gR, hj⟩
    rw [List.getElem?_map] at hx
    obtain ⟨name, hname, rfl⟩ : ∃ name, (names.take mn)[j]? = some name ∧ V.str name = x := by
      cases hh : (names.take mn)[j]? with
      | none => rw [hh] at hx; cases hx
      | some y => rw [hh] at hx; injection hx with hx; exact ⟨y, rfl, hx⟩
    have hjm : j < mn := by
      have := (List.getElem?_eq_some_iff.mp hname).1
      rw [List.length_take] at this
      omega
    have hj9 : j < 9 := by
      have := (List.getElem?_eq_some_iff.mp hname).1
      rw [List.length_take] at this
      omega
    have hname9 : names[j]? = some name := by rw [List.getElem?_take_of_lt hjm] at hname; exact hname
    have htk : ∀ z, z ∈ names.take j ∨ z = name → z ∈ names.take (j + 1) := fun z hz' => by
      rw [List.take_add_one, hname9, List.mem_append]
      rcases hz' with hz' | rfl
      · exact .inl hz'
      · exact .inr (by simp)
    have hS6 := hS.stp hT st6
    have ndn : names.Nodup := hpn.nodup_iff.mpr nine_nd
    refine ⟨_, rfl, _, rfl, _, rfl, _, rfl, _, rfl, big _ (by simp), fun l3 nl3 => ?_⟩
    have s7 := Same.new nl3 (.lst [V.str "z"])
    refine ⟨l, l3, NINE.map V.str, [V.str "z"], rfl, rfl, s7 _ _ hl6, upd_same, big _ (by decide), fun l4 nl4 => ?_⟩
    have s8 := Same.new nl4 (.lst (NINE.map V.str ++ [V.str "z"]))
    have s68 := s7.trans s8
    have hl4t : l4 ≠ t := fun e => by rw [← e] at hT6; rw [s7 _ _ hT6] at nl4; cases nl4
    refine ⟨a, t, ns, _, hS6.same s68, h63, s68 _ _ hT6, by omega, .inl ⟨l4, _, rfl, upd_same, hl4t, by decide, fun y H9 hy hT9 st9 => ?_⟩⟩
    obtain ⟨g, hg, rfl⟩ : ∃ g ∈ TEN, V.str g = y := by
      have hy' : y ∈ TEN.map V.str := hy
      obtain ⟨g, h1, h2⟩ := List.mem_map.mp hy'
      exact ⟨g, h1, h2⟩
    have hT8 := s68 _ _ hT6
    refine ⟨big _ (by simp), fun b nb => ?_⟩
    have sb := Same.new nb (.tup [V.str name, V.str g])
    refine ⟨big _ (by simp), fun c' nc => ?_⟩
    have sc := Same.new nc (.tup [V.ref b])
    have hA9 := (hA6.same s68).ts (st9.ts hT8)
    obtain ⟨rs, ha9, hrs9, hR9⟩ := id hA9
    have hlr : rs.length ≤ 9 := by have := gR.len; rw [← hR9, List.length_map] at this; exact this
    have sbc := sb.trans sc
    refine ⟨p, c', _, _, rfl, rfl, sbc _ _ ha9, upd_same, big _ (by rw [List.length_map, List.length_singleton]; omega), fun p2 H10 s10 hp10 => ?_⟩
    have s910 := sbc.trans s10
    have hnot : name ∉ R.map (·.1) := fun hm => by
      obtain ⟨r, hr', e⟩ := List.mem_map.mp hm
      exact skip_nodup ndn hname9 (e ▸ hj r hr')
    have hlq : ∀ b' o, b' ≠ t → H6 b' = some o → H10 b' = some o := fun b' o hb' e => s910 _ _ (st9 _ _ hb' (s68 _ _ e))
    have hq1t : q1 ≠ t := fun e => by rw [e, hT6] at hq6; cases hq6
    refine ⟨_, p2, R ++ [(name, g)], _, rfl, hlq _ _ hq1t hq6, hlq _ _ hlt hl6, s910 _ _ hT9, by simp; omega, (((st6.trans s68.stp).trans st9).trans s910.stp), ⟨rs ++ [(b, (name, g))], ?_, fun r hr' => ?_, by rw [List.map_append, hR9]; rfl⟩, ⟨?_, fun r hr' => ?_⟩, fun r hr' => ?_⟩
    · rw [hp10]; unfold refs; rw [List.map_append]; rfl
    · rcases List.mem_append.mp hr' with hr' | hr'
      · exact s910 _ _ (hrs9 r hr')
      · rw [List.mem_singleton.mp hr']; exact (sc.trans s10) _ _ upd_same
    · rw [List.map_append, List.nodup_append]
      exact ⟨gR.nd, by simp, fun x hx z hz' e => by
        have : z = name := by simpa using hz'
        exact hnot (this ▸ e ▸ hx)⟩
    · rcases List.mem_append.mp hr' with hr' | hr'
      · exact gR.nm r hr'
      · rw [List.mem_singleton.mp hr']; exact ⟨hpn.mem_iff.mp (List.mem_of_getElem? hname9), hg⟩
    · rcases List.mem_append.mp hr' with hr' | hr'
      · exact htk _ (.inl (hj r hr'))
      · rw [List.mem_singleton.mp hr']; exact htk _ (.inr rfl)
  · rintro σ H6 ⟨v4, p, R, zs6, rfl, hq6, hl6, hT6, hz6, st6, hA6, gR, hj⟩
    refine ⟨_, rfl, q p R zs6 H6 hT6 ?_ st6 hA6 gR⟩
    have : ((names.take mn).map V.str).length ≤ 9 := by rw [List.length_map, List.length_take]; omega
    omega
end
end LW
namespace LW
open PySem L2 Mi Co
theorem rg_of {R : List Rw} {T : List (List Str)} {u : List Str} (h : RingsOf R T) (hu : u ∈ T) : ∃ h l, Rg R u h l ∧ l ≤ R.length + 1 := by
  obtain ⟨r, _, h2, rfl⟩ := (h.mem u).mp hu
  obtain ⟨h', l, r', hl, _⟩ := least_rg h2
  exact ⟨h', l, r', hl⟩
theorem rings_nd {R : List Rw} {T : List (List Str)} (h : RingsOf R T) : T.Nodup := h.rise.imp fun {a b} z e => by
  rw [e] at z
  have := HS.ltT_tot _ _ z
  rw [z] at this
  cases this
theorem rings_len {R : List Rw} {T : List (List Str)} (h : RingsOf R T) : T.length ≤ R.length := by
  have := nodup_len (P := T) (L := R.map fun r => least (ringOf R r.1)) (rings_nd h) fun u hu => by
    obtain ⟨r, hr, _, e⟩ := (h.mem u).mp hu
    exact List.mem_map.mpr ⟨r, hr, e.symm⟩
  rw [List.length_map] at this
  exact this
theorem skip_nd {α : Type} {L : List α} (nd : L.Nodup) {j : Nat} {x : α} (h : L[j]? = some x) : x ∉ L.take j := fun hm => by
  have hlt : j < L.length := (List.getElem?_eq_some_iff.mp h).1
  have e2 := (List.getElem?_eq_some_iff.mp h).2
  rw [← List.take_append_drop j L, List.nodup_append] at nd
  exact nd.2.2 x hm x (by rw [List.drop_eq_getElem_cons hlt, e2]; exact List.mem_cons_self ..) rfl
theorem not_seen {R : List Rw} {T : List (List Str)} {u : List Str} {x : Str} {r i : Nat} (h : RingsOf R T) (hu : T[r]? = some u) (hx : u[i]? = some x) : x ∉ (T.take r).flatten ++ u.take i := fun hm => by
  obtain ⟨hd, l, rg, _⟩ := rg_of h (List.mem_of_getElem? hu)
  rcases List.mem_append.mp hm with hm | hm
  · obtain ⟨u', hu', hx'⟩ := List.mem_flatten.mp hm
    obtain ⟨hd', l', rg', _⟩ := rg_of h (List.mem_of_mem_take hu')
    have e := rg.same rg' (List.mem_of_getElem? hx) hx'
    rw [← e] at hu'
    exact skip_nd (rings_nd h) hu hu'
  · obtain ⟨j, hj, e⟩ := List.mem_iff_getElem.mp hm
    rw [List.length_take, rg.len] at hj
    rw [List.getElem_take] at e
    have hi : i < l := by rw [← rg.len]; exact (List.getElem?_eq_some_iff.mp hx).1
    have e1 : u[j]? = some x := by rw [List.getElem?_eq_getElem (by rw [rg.len]; omega), e]
    rw [rg.get (by omega)] at e1
    rw [rg.get hi] at hx
    exact rg.nd (i := j) (j := i) (by omega) hi (Option.some.inj (e1.trans hx.symm))
theorem ring_key {R : List Rw} {T : List (List Str)} {u : List Str} {x : Str} (h : RingsOf R T) (hu : u ∈ T) (hx : x ∈ u) : val R (stop R x) ≠ none ∧ x ∈ R.map (·.1) := by
  obtain ⟨hd, l, rg, _⟩ := rg_of h hu
  rw [rg.is] at hx
  obtain ⟨i, hi, rfl⟩ := orb_mem.mp hx
  refine ⟨round_of fun k => by rw [← it_add]; exact rg.cyc.go _, ?_⟩
  have := rg.cyc.go i
  cases hv : val R (it R i hd) with
  | none => exact absurd hv this
  | some y => exact List.mem_map.mpr ⟨_, val_mem hv, rfl⟩
theorem seen_iff {R : List Rw} {T : List (List Str)} (nd : (R.map (·.1)).Nodup) (h : RingsOf R T) {r : Rw} (hr : r ∈ R) : decide (it R R.length r.1 ∈ T.flatten) = (val R (stop R r.1)).isSome := by
  obtain ⟨j, ej, hj⟩ := stop_it R r.1
  have e : it R R.length r.1 = it R (R.length - j) (stop R r.1) := by rw [ej, ← it_add]; congr 1; omega
  cases hv : val R (stop R r.1) with
  | none =>
    refine decide_eq_false fun hm => ?_
    obtain ⟨u, hu, hx⟩ := List.mem_flatten.mp hm
    rw [e, it_fix hv] at hx
    exact (ring_key h hu hx).1 (by rw [stop_none hv]; exact hv)
  | some g =>
    refine decide_eq_true ?_
    have h2 : val R (stop R r.1) ≠ none := by rw [hv]; exact fun z => nomatch z
    obtain ⟨_, _, _, _, hk⟩ := least_rg h2
    refine List.mem_flatten.mpr ⟨_, (h.mem _).mpr ⟨r, hr, h2, rfl⟩, ?_⟩
    rw [e]
    exact hk _
def spHold : Sp := fun vs H Q _ => ∃ (a : Addr) (R : List Rw), vs = [.ref a] ∧ RowsAt H a R ∧ (R.map (·.1)).Nodup ∧ R.length ≤ 9 ∧ ∀ H', Same H H' → Q (.bl true) H'
section
variable {P : Program} {w : World} {K : PySem.W.Frag} {mg : Str → Option Value} {base : Heap} {f : Addr} {fd : FuncData}
theorem scHold : FnScope ["_law_rows_here", "_law_goals", "_law_seen_names", "_law_some", "_law_ring", "_law_at", "_law_name", "_law_after", "_law_here", "_law_turn"] ["_law_rows_here"] (defScope sHold) := ⟨rfl, rfl, rfl, by decide +kernel, rfl, by decide +kernel, by decide +kernel⟩
theorem ok_hold {k : Nat} (F : Fun K "_law_rings_hold" "_law_rings_hold" sHold f fd) (G : Blt mg) (hRings : Has P w K mg base "rings" k ["rows"] spRings) (hLeads : Has P w K mg base "leads_round" k ["rows", "name"] spLeads) :
    FnOk P w K mg base CX0 (k + 1) f fd ["_law_rows_here"] spHold := by
  refine F.ok scHold (fun vs H Q E h => ?_) (fun cdv A outer s H vs Q E hr h => ?_)
  · obtain ⟨a, R, rfl, _⟩ := h
    rfl
  obtain ⟨a, R, rfl, hA, nd, hz, q⟩ := h
  have hu := hu_of hr
  refine ⟨_, pss_cons (ps_par (i := 1) (j := 2) rfl scHold.nd rfl rfl (by decide) rfl rfl (pa_cons (pe_callTy (call_dictT rfl) rfl G.dict boot_dict (pa_cons (pv 0) pa_nil)) (pa_cons (pe_lst pa_nil) pa_nil)) rfl)
    (pss_cons (ps_set (i := 3) scHold.nd rfl (Or.inl rfl) (pe_callH hRings hr rfl (pa_cons (pv 0) pa_nil)))
    (pss_cons (ps_if (pt_cmpR (op_neA (hu8 hr)) (pe_callTy call_list_of rfl G.list boot_list (pa_cons (pv 3) pa_nil)) (pe_callB call_sortT rfl G.sorted boot_sorted (pa_cons (pv 3) pa_nil)) (nomark _)) pss_never pss_nil)
    (pss_cons (ps_for PassesOwn.never rfl (pi_tup (pv 3)) (pg_name (i := 4) scHold.nd rfl (Or.inl rfl))
      (pss_one (ps_for PassesOwn.never rfl (pi_enumT (pv 4) rfl G.enumerate) (pg_tup rfl (pgs_cons (pg_name (i := 5) scHold.nd rfl (Or.inl rfl)) (pgs_cons (pg_name (i := 6) scHold.nd rfl (Or.inl rfl)) pgs_nil)))
        (pss_cons (ps_set (i := 7) scHold.nd rfl (Or.inl rfl) (pe_ifExp (pt_cmpR op_lt (pe_op op_add (pv 5) pe_int) (pe_callB call_len_seq rfl G.len PySem.boot_len (pa_cons (pv 4) pa_nil)) (nomark _)) (pe_ix ix_tup (pv 4) (pe_op op_add (pv 5) pe_int) fun _ _ => rfl) (pe_ix ix_tup (pv 4) pe_int fun _ _ => rfl)))
        (pss_cons (ps_if (PW.pt (pw_or (pt_cmpR op_ne (pe_dget hu (pv 1) (pv 6) fun _ _ => rfl) (pv 7) (nomark _))
            (pw_or (pt_cmpR op_in_seq (pv 6) (pv 2) (by with_unfolding_all rfl))
            (pw_or (pt_cmpR op_lt_str (pv 6) (pe_ix ix_tup (pv 4) pe_int fun _ _ => rfl) (nomark _))
            (pw_or1 (pt_not (pt_val (pe_callH hLeads hr rfl (pa_cons (pv 0) (pa_cons (pv 6) pa_nil)))))))))) pss_never pss_nil)
        (pss_one (ps_expr (pe_bm PySem.F.plainAttrs_list PySem.F.slot_list_append PySem.F.type_list_append mt_append (pv 2) (pa_cons (pv 6) pa_nil)))))))))
    (pss_cons (ps_for PassesOwn.never rfl (pi_dict (pv 1)) (pg_name (i := 6) scHold.nd rfl (Or.inl rfl))
      (pss_cons (ps_set (i := 8) scHold.nd rfl (Or.inl rfl) (pv 6))
      (pss_cons (ps_for PassesOwn.never rfl (pi_range1 rfl G.range (pa_cons (pe_callB call_len_seq rfl G.len PySem.boot_len (pa_cons (pv 0) pa_nil)) pa_nil)) (pg_name (i := 9) scHold.nd rfl (Or.inl rfl))
        (pss_one (ps_set (i := 8) scHold.nd rfl (Or.inl rfl) (pe_dget2 hu (pv 1) (pv 8) (pv 8) ⟨rfl, rfl, rfl, rfl⟩))))
      (pss_one (ps_if (pt_cmpR op_ne (pe_callH hLeads hr rfl (pa_cons (pv 0) (pa_cons (pv 6) pa_nil))) (pe_cmpR op_in_seq (pv 8) (pv 2) (by with_unfolding_all rfl)) (nomark _)) pss_never pss_nil)))))
    (pss_one (ps_ret pe_bl)))))), ?_⟩
  obtain ⟨rs, ha, hrs, hR⟩ := id hA
  have hlr : rs.length = R.length := by rw [← hR, List.length_map]
  have hpv := rows_pairs (K := K) hrs
  rw [hR] at hpv
  refine ⟨_, rfl, a, _, _, rfl, ha, hpv, by rw [List.length_map]; omega, fun g ng => ?_⟩
  rw [merge_nodup nd]
  have s1 := Same.new ng (.dK (dkOf R))
  have hg1 : (upd H g (.dK (dkOf R)) : Hp) g = some (.dK (dkOf R)) := upd_same
  generalize (upd H g (.dK (dkOf R)) : Hp) = H1 at *
  refine ⟨big _ (by simp), fun sn nsn => ?_⟩
  have s2 := Same.new nsn (.lst ([] : List V))
  have hsn2 : (upd H1 sn (.lst ([] : List V)) : Hp) sn = some (.lst (([] : List Str).map V.str)) := upd_same
  generalize (upd H1 sn (.lst ([] : List V)) : Hp) = H2 at *
  refine ⟨_, _, rfl, ?_⟩
  refine ⟨_, rfl, a, R, rfl, hA.same (s1.trans s2), nd, by omega, fun ps T H3 s3 hT3 hRT => ?_⟩
  obtain ⟨us, hps3, hus3, hU⟩ := id hT3
  have hTl := rings_len hRT
  have hlu : us.length = T.length := by rw [← hU, List.length_map]
  have une : ∀ u ∈ T, u ≠ [] := fun u hu' => by
    obtain ⟨h', l', rg, _⟩ := rg_of hRT hu'
    intro e
    have := rg.len
    rw [e] at this
    exact absurd this.symm (Nat.ne_of_gt rg.cyc.pos)
  -- in order
  refine ⟨_, rfl, ps, _, rfl, .inr (SqT.of hps3), fun l nl => ?_⟩
  have s4 := Same.new nl (.lst (us.map fun r => V.ref r.1))
  have hl4 : (upd H3 l (.lst (us.map fun r => V.ref r.1)) : Hp) l = some (.lst (us.map fun r => V.ref r.1)) := upd_same
  generalize (upd H3 l (.lst (us.map fun r => V.ref r.1)) : Hp) = H4 at *
  refine ⟨_, rfl, ps, us, rfl, .inr (SqT.of (s4 _ _ hps3)), by omega, fun r hr' => ⟨SqT.of (s4 _ _ (hus3 r hr')), une _ (by rw [← hU]; exact List.mem_map.mpr ⟨r, hr', rfl⟩)⟩, fun l2 us2 nl2 hp2 hs2 => ?_⟩
  have s5 := Same.new nl2 (.lst (us2.map fun r => V.ref r.1))
  have hl5 : (upd H4 l2 (.lst (us2.map fun r => V.ref r.1)) : Hp) l2 = some (.lst (us2.map fun r => V.ref r.1)) := upd_same
  have s35 := s4.trans s5
  have hl45 := s5 _ _ hl4
  generalize (upd H4 l2 (.lst (us2.map fun r => V.ref r.1)) : Hp) = H5 at *
  have hus5 : ∀ r ∈ us, H5 r.1 = some (.tup (r.2.map V.str)) := fun r hr' => s35 _ _ (hus3 r hr')
  have eU2 : us2.map (·.2) = T := by
    have hpp : (us2.map (·.2)).Perm T := by rw [← hU]; exact hp2.map _
    refine tups_eq ?_ hRT.rise fun r => hpp.mem_iff
    rw [List.pairwise_map]
    have ndq : (us2.map (·.2)).Nodup := hpp.nodup_iff.mpr (rings_nd hRT)
    rw [List.Nodup, List.pairwise_map] at ndq
    refine (hs2.and ndq).imp fun {a b} z => ?_
    cases hc : HS.ltT a.2 b.2 with
    | true => rfl
    | false => exact absurd (HS.ltT_tri _ _ hc z.1) z.2
  have d1 := dat_tups (K := K) hus5
  have d2 := dat_tups (K := K) (rs := us2) fun r hr' => hus5 r (hp2.mem_iff.mp hr')
  rw [hU] at d1
  rw [eU2] at d2
  refine ⟨l, l2, T.map tupD, _, _, rfl, rfl, .inr ⟨SqL.of hl45, SqL.of hl5⟩, d1, d2, deep_tups T, _, rfl, iteF ?_⟩
  have s15 : Same H1 H5 := (s2.trans s3).trans s35
  have hsn5 := (s3.trans s35) _ _ hsn2
  have hps5 := s35 _ _ hps3
  have hA1 := hA.same s1
  -- the rings
  refine ⟨_, rfl, ps, rfl, ⟨_, SqT.of hps5⟩, ?_⟩
  refine for_tup (xs := us.map fun r => V.ref r.1) (fun r σ H' => ∃ v4 v5 v6 v7 : Option V, σ = [some (.ref a), some (.ref g), some (.ref sn), some (.ref ps), v4, v5, v6, v7, none, none] ∧ Same H1 H' ∧ TS' H5 H' ∧ H' sn = some (.lst ((T.take r).flatten.map V.str)) ∧ (T.take r).flatten.Nodup)
    ⟨_, _, _, _, rfl, s15, (fun b xs e => e), by rw [List.take_zero]; exact hsn5, by rw [List.take_zero]; exact List.nodup_nil⟩ (fun r σ H' _ h => by obtain ⟨_, _, _, _, _, _, ts, _⟩ := h; exact SqT.of (ts _ _ hps5)) ?_ ?_
  · rintro r x σ H6 hx ⟨v4, v5, v6, v7, rfl, s6, ts6, hsn6, nd6⟩
    rw [List.getElem?_map] at hx
    obtain ⟨ur, hur, rfl⟩ : ∃ ur, us[r]? = some ur ∧ V.ref ur.1 = x := by
      cases hh : us[r]? with
      | none => rw [hh] at hx; cases hx
      | some y => rw [hh] at hx; injection hx with hx; exact ⟨y, rfl, hx⟩
    have hTr : T[r]? = some ur.2 := by rw [← hU, List.getElem?_map, hur]; rfl
    have huT : ur.2 ∈ T := List.mem_of_getElem? hTr
    have htk : T.take (r + 1) = T.take r ++ [ur.2] := by rw [List.take_add_one, hTr]; rfl
    obtain ⟨hd, len, rg, hlen⟩ := rg_of hRT huT
    have hub := hus5 ur (List.mem_of_getElem? hur)
    have hul := rg.len
    refine ⟨_, rfl, ur.1, rfl, ⟨_, SqT.of (ts6 _ _ hub)⟩, ?_⟩
    refine for_enumT (xs := ur.2.map V.str) (fun i σ H' => ∃ v5 v6 v7 : Option V, σ = [some (.ref a), some (.ref g), some (.ref sn), some (.ref ps), some (.ref ur.1), v5, v6, v7, none, none] ∧ Same H1 H' ∧ TS' H5 H' ∧ H' sn = some (.lst (((T.take r).flatten ++ ur.2.take i).map V.str)) ∧ ((T.take r).flatten ++ ur.2.take i).Nodup)
      ⟨_, _, _, rfl, s6, ts6, by rw [List.take_zero, List.append_nil]; exact hsn6, by rw [List.take_zero, List.append_nil]; exact nd6⟩ (fun i σ H' _ h => by obtain ⟨_, _, _, _, _, ts, _⟩ := h; exact SqT.of (ts _ _ hub)) ?_ ?_
    · rintro i x tp σ H7 hx ntp ⟨v5, v6, v7, rfl, s7, ts7, hsn7, nd7⟩
      rw [List.getElem?_map] at hx
      obtain ⟨n, hn, rfl⟩ : ∃ n, ur.2[i]? = some n ∧ V.str n = x := by
        cases hh : ur.2[i]? with
        | none => rw [hh] at hx; cases hx
        | some y => rw [hh] at hx; injection hx with hx; exact ⟨y, rfl, hx⟩
      refine ⟨tp, _, rfl, SqT.of upd_same, rfl, _, _, rfl, _, _, rfl, rfl, ?_⟩
      have s8 := Same.new ntp (.tup [V.int i, V.str n])
      have hsn8 := s8 _ _ hsn7
      have s18 := s7.trans s8
      have ts8 : TS' H5 (upd H7 tp (.tup [V.int i, V.str n])) := ts7.trans s8.ts
      generalize (upd H7 tp (.tup [V.int i, V.str n]) : Hp) = H8 at *
      have hu8 : SqT K H8 ur.1 (ur.2.map V.str) := SqT.of (ts8 _ _ hub)
      obtain ⟨y, hvy, hy⟩ := rg.next hn
      have hi : i < len := by rw [← hul]; exact (List.getElem?_eq_some_iff.mp hn).1
      have h0 : ur.2[0]? = some hd := rg.get rg.cyc.pos
      have hat0 : atI (ur.2.map V.str) 0 = some (V.str hd) := atI_nat (j := 0) (by rw [List.getElem?_map, h0]; rfl)
      have hns := not_seen hRT hTr hn
      have hkey := ring_key hRT huT (List.mem_of_getElem? hn)
      have hminf : decide (n.cps.toList < hd.cps.toList) = false := rg.min n (List.mem_of_getElem? hn)
      have hlu' : (ur.2.map V.str).length = len := by rw [List.length_map]; exact hul
      refine ⟨_, rfl, _, _, rfl, rfl, _, rfl, ur.1, _, rfl, .inr hu8, _, _, rfl, rfl, _, rfl, ?_⟩
      rw [hlu']
      have htk' : ur.2.take (i + 1) = ur.2.take i ++ [n] := by rw [List.take_add_one, hn]; rfl
      have hsub : ∀ z ∈ (T.take r).flatten ++ ur.2.take i, z ∈ R.map (·.1) := fun z hz' => by
        rcases List.mem_append.mp hz' with hz' | hz'
        · obtain ⟨u', hu', hx'⟩ := List.mem_flatten.mp hz'
          exact (ring_key hRT (List.mem_of_mem_take hu') hx').2
        · exact (ring_key hRT huT (List.mem_of_mem_take hz')).2
      have hseenl := nodup_len' nd7 hsub
      rw [List.length_map] at hseenl
      have hget : DGet H8 g (V.str n) (some (V.str y)) := by
        have := DGet.k (k := Sum.inr n) (s18 _ _ hg1)
        rw [dk_val, hvy] at this
        exact this
      have e3 : (!decide (V.str y = V.str y)) = false := by rw [decide_eq_true rfl]; rfl
      have hsome : (val R (stop R n)).isSome = true := by
        cases hv : val R (stop R n) with
        | none => exact absurd hv hkey.1
        | some z => rfl
      by_cases c : i + 1 < len
      case' pos =>
        rw [decide_eq_true (show (i : Int) + 1 < (len : Int) by omega)]
        rw [if_pos c] at hy
        have hat1 : atI (ur.2.map V.str) ((i : Int) + 1) = some (V.str y) := atI_nat (j := i + 1) (by rw [List.getElem?_map, hy]; rfl)
        refine iteT ⟨_, rfl, _, rfl, _, _, rfl, rfl, ur.1, _, _, V.str y, rfl, rfl, hu8, hat1, ?_⟩
      case' neg =>
        rw [decide_eq_false (show ¬ ((i : Int) + 1 < (len : Int)) by omega)]
        rw [if_neg c] at hy
        rw [← hy] at hat0
        refine iteF ⟨_, rfl, ur.1, _, _, V.str y, rfl, rfl, hu8, hat0, ?_⟩
        rw [hy] at hat0
      all_goals
        refine ⟨_, rfl, _, rfl, g, V.str y, rfl, hget, _, rfl, rfl, _, rfl, ?_⟩
        rw [e3]
        refine iteF ⟨_, rfl, _, rfl, sn, _, rfl, .inl (SqL.of hsn8), rfl, flat_strs _, _, rfl, ?_⟩
        show if inV (V.str n) (((T.take r).flatten ++ ur.2.take i).map V.str) = true then _ else _
        rw [inV_strs, decide_eq_false hns]
        refine iteF ⟨_, rfl, _, rfl, ur.1, _, 0, V.str hd, rfl, rfl, hu8, hat0, _, _, rfl, rfl, _, rfl, ?_⟩
        rw [hminf]
        refine iteF ⟨_, rfl, _, rfl, a, R, n, rfl, hA1.same s18, nd, by omega, fun H9 s9 => ?_⟩
        rw [hsome]
        have hsn9 := s9 _ _ hsn8
        refine ⟨_, rfl, iteF ⟨_, rfl, .inl ⟨rfl, _, SqL.of hsn9⟩, _, rfl, sn, _, _, rfl, rfl, hsn9, bigl _ (by rw [List.length_map]; omega), ?_⟩⟩
        refine ⟨_, _, _, rfl, fun b o eb => ?_, (ts8.trans s9.ts).trans (fun b xs eb => ?_), ?_, ?_⟩
        · rw [upd_ne (ne_of_none eb nsn)]
          exact (s18.trans s9) _ _ eb
        · rw [upd_ne (fun e => by rw [e, hsn9] at eb; cases eb)]; exact eb
        · rw [upd_same, htk', ← List.append_assoc, List.map_append (l₂ := [n])]
          rfl
        · rw [htk', ← List.append_assoc, List.nodup_append]
          exact ⟨nd7, by simp, fun x hx y' hy' e => by rw [List.mem_singleton.mp hy'] at e; exact hns (e ▸ hx)⟩
    · rintro σ H7 ⟨v5, v6, v7, rfl, s7, ts7, hsn7, nd7⟩
      have e : ur.2.take (ur.2.map V.str).length = ur.2 := by rw [List.length_map, List.take_length]
      rw [e] at hsn7 nd7
      have e2 : (T.take (r + 1)).flatten = (T.take r).flatten ++ ur.2 := by rw [htk, List.flatten_append]; simp
      exact ⟨_, _, _, _, rfl, s7, ts7, by rw [e2]; exact hsn7, by rw [e2]; exact nd7⟩
  · rintro σ H6 ⟨v4, v5, v6, v7, rfl, s6, ts6, hsn6, nd6⟩
    have e : T.take (us.map fun r => V.ref r.1).length = T := by rw [List.length_map, hlu, List.take_length]
    rw [e] at hsn6
    have hg6 := s6 _ _ hg1
    have hA6 := hA1.same s6
    refine ⟨_, rfl, g, dkOf R, rfl, hg6, fun o => ?_⟩
    have hsng : sn ≠ g := fun e => by rw [e, hg6] at hsn6; cases hsn6
    have ts7 : TS' H6 (upd H6 g (.frz o (.dK (dkOf R)))) := fun b xs eb => by rw [upd_ne (fun e => by rw [e, hg6] at eb; cases eb)]; exact eb
    have hA7 := hA6.ts ts7
    have hg7 : (upd H6 g (.frz o (.dK (dkOf R))) : Hp) g = some (.frz o (.dK (dkOf R))) := upd_same
    have hsn7 : (upd H6 g (.frz o (.dK (dkOf R))) : Hp) sn = some (.lst (T.flatten.map V.str)) := by rw [upd_ne hsng]; exact hsn6
    have s07 : Same H (upd H6 g (.frz o (.dK (dkOf R)))) := fun b ob eb => by
      rw [upd_ne (ne_of_none eb ng)]
      exact (s1.trans s6) _ _ eb
    generalize (upd H6 g (.frz o (.dK (dkOf R))) : Hp) = H7 at *
    refine for_dict (fun i σ H' => ∃ w4 w5 w6 w7 w8 w9 : Option V, σ = [some (.ref a), some (.ref g), some (.ref sn), some (.ref ps), w4, w5, w6, w7, w8, w9] ∧ Same H7 H')
      ⟨_, _, _, _, _, _, rfl, Same.refl _⟩ (fun i σ H' h => by obtain ⟨_, _, _, _, _, _, _, s'⟩ := h; exact s' _ _ hg7) ?_ ?_
    · rintro i x σ H8 hx ⟨w4, w5, w6, w7, w8, w9, rfl, s8⟩
      obtain ⟨rw', hrw, rfl⟩ : ∃ r ∈ R, V.str r.1 = x := by
        have := List.mem_of_getElem? hx
        unfold dkOf at this
        rw [List.map_map] at this
        obtain ⟨r, h1, h2⟩ := List.mem_map.mp this
        exact ⟨r, h1, h2⟩
      obtain ⟨rs8, ha8, hrs8, hR8⟩ := hA7.same s8
      have hl8 : rs8.length = R.length := by rw [← hR8, List.length_map]
      refine ⟨_, rfl, ?_⟩
      refine ⟨_, rfl, a, _, rfl, .inr (SqT.of ha8), _, rfl, by omega, by rw [List.length_map]; omega, ?_⟩
      refine for_range (n := ((refs rs8).length : Int).toNat) (fun j σ H' => ∃ w9 : Option V, σ = [some (.ref a), some (.ref g), some (.ref sn), some (.ref ps), w4, w5, some (.str rw'.1), w7, some (.str (it R j rw'.1)), w9] ∧ H' = H8) ⟨_, rfl, rfl⟩ ?_ ?_
      · rintro j σ H9 hj ⟨w9', rfl, rfl⟩
        have hg8 := s8 _ _ hg7
        refine ⟨_, rfl, g, rfl, .inl ⟨_, .inr ⟨o, hg8⟩⟩, _, rfl, _, rfl, _, .inl ⟨_, Sum.inr (it R j rw'.1), .inr ⟨o, hg8⟩, rfl, rfl⟩, ?_⟩
        have e4 : (valV (dkOf R) (Sum.inr (it R j rw'.1))).getD (V.str (it R j rw'.1)) = V.str (it R (j + 1) rw'.1) := by
          rw [dk_val, it_succ']
          unfold nx
          cases val R (it R j rw'.1) <;> rfl
        rw [e4]
        exact ⟨_, rfl, rfl⟩
      · rintro σ H9 ⟨w9', rfl, rfl⟩
        have e5 : ((refs rs8).length : Int).toNat = R.length := by rw [List.length_map, hl8]; rfl
        rw [e5]
        refine ⟨_, rfl, _, rfl, a, R, rw'.1, rfl, hA7.same s8, nd, by omega, fun H10 s10 => ?_⟩
        refine ⟨_, rfl, _, rfl, sn, _, rfl, .inl (SqL.of ((s8.trans s10) _ _ hsn7)), rfl, flat_strs _, rfl, _, rfl, ?_⟩
        have e6 : (if false = true then !inV (V.str (it R R.length rw'.1)) (T.flatten.map V.str) else inV (V.str (it R R.length rw'.1)) (T.flatten.map V.str)) = (val R (stop R rw'.1)).isSome := by
          rw [if_neg Bool.false_ne_true, inV_strs, seen_iff nd hRT hrw]
        rw [e6, decide_eq_true rfl]
        exact iteF ⟨_, _, _, _, _, _, rfl, s8.trans s10⟩
    · rintro σ H8 ⟨w4, w5, w6, w7, w8, w9, rfl, s8⟩
      exact q H8 (s07.trans s8)
end
end LW
namespace LW
open PySem L2 Mi Co
theorem val_perm {R R' : List Rw} (nd : (R.map (·.1)).Nodup) (hp : R'.Perm R) (n : Str) : val R' n = val R n := by
  have nd' : (R'.map (·.1)).Nodup := (hp.map _).nodup_iff.mpr nd
  cases h : val R n with
  | none =>
    rw [val_none] at h ⊢
    exact fun z => h ((hp.map _).mem_iff.mp z)
  | some m => exact val_of nd' (r := (n, m)) (hp.mem_iff.mpr (val_mem h))
theorem stopF_val {R R' : List Rw} (hv : ∀ n, val R' n = val R n) : ∀ (f : Nat) (P : List Str) (n : Str), stopF R' f P n = stopF R f P n
  | 0, _, _ => rfl
  | f + 1, P, n => by
    cases h : val R n with
    | none => rw [stopF_none h, stopF_none ((hv n).trans h)]
    | some m =>
      by_cases hp : n ∈ P
      · rw [stopF_passed hp, stopF_passed hp]
      · rw [stopF_succ h hp, stopF_succ ((hv n).trans h) hp]
        exact stopF_val hv f _ m
theorem wayF_val {R R' : List Rw} (hv : ∀ n, val R' n = val R n) : ∀ (f : Nat) (P : List Str) (n : Str), wayF R' f P n = wayF R f P n
  | 0, _, _ => rfl
  | f + 1, P, n => by
    show (match val R' n with | none => P ++ [n] | some m => if n ∈ P then P ++ [n] else wayF R' f (P ++ [n]) m) = (match val R n with | none => P ++ [n] | some m => if n ∈ P then P ++ [n] else wayF R f (P ++ [n]) m)
    rw [hv n]
    cases val R n with
    | none => rfl
    | some m =>
      show (if n ∈ P then P ++ [n] else wayF R' f (P ++ [n]) m) = (if n ∈ P then P ++ [n] else wayF R f (P ++ [n]) m)
      rw [wayF_val hv f _ m]
theorem stop_perm {R R' : List Rw} (nd : (R.map (·.1)).Nodup) (hp : R'.Perm R) (n : Str) : stop R' n = stop R n := by
  unfold stop
  rw [hp.length_eq, stopF_val (val_perm nd hp)]
theorem ring_perm {R R' : List Rw} (nd : (R.map (·.1)).Nodup) (hp : R'.Perm R) (n : Str) : ringOf R' n = ringOf R n := by
  have e : way R' n = way R n := by unfold way; rw [hp.length_eq, wayF_val (val_perm nd hp)]
  unfold ringOf
  rw [e, stop_perm nd hp]
theorem ev_perm {R R' : List Rw} (nd : (R.map (·.1)).Nodup) (hp : R'.Perm R) (n : Str) : Ev R' n = Ev R n := by
  unfold Ev
  rw [stop_perm nd hp, val_perm nd hp]
theorem rings_perm {R R' : List Rw} {T : List (List Str)} (nd : (R.map (·.1)).Nodup) (hp : R'.Perm R) (h : RingsOf R' T) : RingsOf R T := by
  refine ⟨h.rise, fun u => ?_⟩
  rw [h.mem]
  constructor
  · rintro ⟨r, hr, h1, h2⟩
    exact ⟨r, hp.mem_iff.mp hr, by rw [stop_perm nd hp, val_perm nd hp] at h1; exact h1, by rw [ring_perm nd hp] at h2; exact h2⟩
  · rintro ⟨r, hr, h1, h2⟩
    exact ⟨r, hp.mem_iff.mpr hr, by rw [stop_perm nd hp, val_perm nd hp]; exact h1, by rw [ring_perm nd hp]; exact h2⟩
theorem rings_eq {R : List Rw} {A B : List (List Str)} (ha : RingsOf R A) (hb : RingsOf R B) : A = B := tups_eq ha.rise hb.rise fun r => by rw [ha.mem, hb.mem]
theorem perm_refs {H : Hp} {rs : List (Addr × Rw)} {ys : List V} (h : RowsIn H rs) (hp : ys.Perm (refs rs)) : ∃ rs' : List (Addr × Rw), ys = refs rs' ∧ RowsIn H rs' ∧ (rs'.map (·.2)).Perm (rs.map (·.2)) := by
  refine ⟨ys.map fun v => ((match v with | V.ref a => a | _ => 0), (rowOf H v).getD ("", "")), ?_, ?_, ?_⟩
  · unfold refs
    rw [List.map_map]
    have : ∀ v ∈ ys, ((fun (r : Addr × Rw) => V.ref r.1) ∘ fun v => ((match v with | V.ref a => a | _ => 0), (rowOf H v).getD ("", ""))) v = v := fun v hv => by
      obtain ⟨r, _, rfl⟩ := mem_refs (hp.mem_iff.mp hv)
      rfl
    rw [List.map_congr_left this, List.map_id']
  · intro r hr
    obtain ⟨v, hv, rfl⟩ := List.mem_map.mp hr
    obtain ⟨q, hq, rfl⟩ := mem_refs (hp.mem_iff.mp hv)
    show H q.1 = some (.tup [V.str ((rowOf H (V.ref q.1)).getD ("", "")).1, V.str ((rowOf H (V.ref q.1)).getD ("", "")).2])
    rw [rowOf_of (h q hq)]
    exact h q hq
  · rw [List.map_map]
    have h2 := hp.map fun v => (rowOf H v).getD ("", "")
    have e : (refs rs).map (fun v => (rowOf H v).getD ("", "")) = rs.map (·.2) := by
      unfold refs
      rw [List.map_map]
      refine List.map_congr_left fun r hr => ?_
      show (rowOf H (V.ref r.1)).getD ("", "") = r.2
      rw [rowOf_of (h r hr)]
      rfl
    rw [e] at h2
    exact h2
theorem led_eq {R R' : List Rw} {ts : List Str} {n : Str} (nd : (R.map (·.1)).Nodup) (hp : R'.Perm (flatL R)) (hr : Rise R') (ht : ts.Perm ((R.filter fun r => decide (Ev R r.1 = V.str n)).map (·.1))) (hs : ts.Pairwise fun a b => HS.ltS b a = false) : (R'.filter fun r => decide (r.2 = n)).map (·.1) = ts := by
  refine strs_eq ?_ (rise_strs ht ?_ hs) fun m => ?_
  · rw [List.pairwise_map]
    exact List.Pairwise.sublist List.filter_sublist hr
  · exact (nd.sublist (List.filter_sublist.map _))
  · rw [ht.mem_iff]
    constructor
    · intro h
      obtain ⟨r, hr', rfl⟩ := List.mem_map.mp h
      obtain ⟨h1, h2⟩ := List.mem_filter.mp hr'
      obtain ⟨a1, a2, a3⟩ := mem_flatL (hp.mem_iff.mp h1)
      obtain ⟨q, hq, e⟩ := List.mem_map.mp a1
      have e2 : r.2 = n := by simpa using h2
      rw [a2] at a3
      refine List.mem_map.mpr ⟨q, List.mem_filter.mpr ⟨hq, ?_⟩, e⟩
      have e' : q.1 = r.1 := e
      rw [e', ev_out a3, ← a2, e2]
      exact decide_eq_true rfl
    · intro h
      obtain ⟨q, hq, rfl⟩ := List.mem_map.mp h
      obtain ⟨h1, h2⟩ := List.mem_filter.mp hq
      have h2' : Ev R q.1 = V.str n := by simpa using h2
      rcases ev_cases R q.1 with ⟨a, e⟩ | ⟨a, e⟩
      · rw [e] at h2'
        injection h2' with h2'
        refine List.mem_map.mpr ⟨(q.1, stop R q.1), List.mem_filter.mpr ⟨hp.mem_iff.mpr ?_, decide_eq_true h2'⟩, rfl⟩
        unfold flatL
        refine List.mem_filter.mpr ⟨List.mem_map.mpr ⟨q, h1, rfl⟩, ?_⟩
        show (val R (stop R q.1)).isNone = true
        rw [a]; rfl
      · rw [e] at h2'; cases h2'
theorem merge_keys : ∀ {gs us : List Str} {kvs : List (Key × V)}, kvs.map (·.1) = us.map Sum.inr → us.Nodup → ∃ us' : List Str, (mergeK kvs (gs.map fun g => ((Sum.inr g : Key), V.int 0))).map (·.1) = us'.map Sum.inr ∧ us'.Nodup ∧ (∀ g, g ∈ us' ↔ g ∈ us ∨ g ∈ gs) ∧ us'.length ≤ us.length + gs.length
  | [], us, kvs, h, nd => ⟨us, h, nd, by simp, by simp⟩
  | g :: gs, us, kvs, h, nd => by
    have h2 := putK_keys (u := g) (v := V.int 0) h
    have nd2 : (if g ∈ us then us else us ++ [g]).Nodup := by
      by_cases c : g ∈ us
      · rw [if_pos c]; exact nd
      · rw [if_neg c, List.nodup_append]
        exact ⟨nd, by simp, fun x hx y hy e => by rw [List.mem_singleton.mp hy] at e; exact c (e ▸ hx)⟩
    obtain ⟨us', e, n', hm, hl⟩ := merge_keys (gs := gs) h2 nd2
    refine ⟨us', e, n', fun z => ?_, ?_⟩
    · rw [hm, List.mem_cons]
      by_cases c : g ∈ us
      · rw [if_pos c]
        constructor
        · exact fun h => h.elim .inl fun h => .inr (.inr h)
        · exact fun h => h.elim .inl fun h => h.elim (fun e => .inl (e ▸ c)) .inr
      · rw [if_neg c, List.mem_append, List.mem_singleton]
        constructor
        · exact fun h => h.elim (fun h => h.elim .inl fun h => .inr (.inl h)) fun h => .inr (.inr h)
        · exact fun h => h.elim (fun h => .inl (.inl h)) fun h => h.elim (fun h => .inl (.inr h)) .inr
    · rw [List.length_cons]
      by_cases c : g ∈ us
      · rw [if_pos c] at hl; omega
      · rw [if_neg c, List.length_append, List.length_singleton] at hl; omega
theorem grp_rise {Rs : List Rw} (h : Rise Rs) (g : Str) : (grp Rs g).Pairwise fun a b => HS.ltS a b = true := by
  unfold grp
  rw [List.pairwise_map]
  exact List.Pairwise.sublist List.filter_sublist h
theorem grp_mem {Rs : List Rw} {g m : Str} : m ∈ grp Rs g ↔ (m, g) ∈ Rs := by
  unfold grp
  constructor
  · intro h
    obtain ⟨r, hr, rfl⟩ := List.mem_map.mp h
    obtain ⟨h1, h2⟩ := List.mem_filter.mp hr
    have : r.2 = g := by simpa using h2
    rw [← this]; exact h1
  · intro h
    exact List.mem_map.mpr ⟨(m, g), List.mem_filter.mpr ⟨h, decide_eq_true rfl⟩, rfl⟩
theorem nil_rings {T : List (List Str)} (h : RingsOf [] T) : T = [] := by
  cases T with
  | nil => rfl
  | cons u T =>
    obtain ⟨r, hr, _⟩ := (h.mem u).mp (List.mem_cons_self ..)
    cases hr
theorem least_aa : val [(("a" : Str), ("a" : Str))] (stop [(("a" : Str), ("a" : Str))] "a") ≠ none ∧ least (ringOf [(("a" : Str), ("a" : Str))] "a") = [("a" : Str)] := by decide +kernel
theorem aa_rings {T : List (List Str)} (h : RingsOf [(("a" : Str), ("a" : Str))] T) : T = [[("a" : Str)]] := by
  refine rings_eq h ⟨List.pairwise_singleton _ _, fun u => ?_⟩
  rw [List.mem_singleton]
  constructor
  · rintro rfl
    exact ⟨_, List.mem_singleton.mpr rfl, least_aa.1, least_aa.2.symm⟩
  · rintro ⟨r, hr, _, h2⟩
    rw [List.mem_singleton.mp hr] at h2
    rw [h2]
    exact least_aa.2
theorem ev_nil : Ev [] "a" = V.str "a" := ev_none rfl
def SG10 : Str := "abcdefghiz"
theorem sg10_ok : ∀ c ∈ SG10.cps.toList, (⟨#[c]⟩ : Str) ∈ TEN := by decide +kernel
end LW
namespace LW
open PySem L2 Mi Co
theorem _root_.Co.St1.updL {K : PySem.W.Frag} {a t d : Addr} {ns : List Int} {n : Nat} {H : Hp} {xs : List V} (o : HO) (h : St1 K a t ns n H) (hd : H d = some (.lst xs)) (hne : d ≠ t) : St1 K a t ns n (upd H d o) := by
  obtain ⟨⟨zs, h1, h2⟩, h3⟩ := h
  refine ⟨⟨zs, by rw [upd_ne (Ne.symm hne)]; exact h1, h2⟩, ?_⟩
  rcases h3 with ⟨o', h3⟩ | h3
  · exact .inl ⟨o', by rw [upd_ne (fun e => by rw [e, hd] at h3; cases h3)]; exact h3⟩
  · exact .inr h3
theorem made_pairs {K : PySem.W.Frag} {H : Hp} {R : List Rw} : ∀ {L : List Rw} {ys : List V}, (∀ r ∈ L, val R r.1 = some r.2) → Paired (fun x v => ∃ n, x = V.str n ∧ ∃ b, v = V.ref b ∧ H b = some (.tup [.str ((val R n).getD ""), .int 0])) ((L.map (·.1)).map V.str) ys → PairsV K H ys ((L.map (·.2)).map fun g => ((Sum.inr g : Key), V.int 0))
  | [], _, _, h => by cases h; exact .nil
  | r :: L, _, hv, h => by
    rw [List.map_cons, List.map_cons] at h
    cases h with
    | cons h1 h2 =>
      obtain ⟨n, e, b, rfl, hb⟩ := h1
      injection e with e
      subst e
      rw [hv r (List.mem_cons_self ..)] at hb
      exact .cons ⟨b, rfl, SqT.of hb⟩ (made_pairs (fun z hz => hv z (List.mem_cons_of_mem _ hz)) h2)
section
variable {P : Program} {w : World} {K : PySem.W.Frag} {mg : Str → Option Value} {base : Heap} {f : Addr} {fd : FuncData}
theorem scLaw : FnScope ["_law_script", "_law_town", "_law_k", "_law_rows_here", "_law_goals", "_law_name", "_law_due", "_law_some", "_law_goal", "_law_mixed_here"] ["_law_script"] (defScope sLaw) := ⟨rfl, rfl, rfl, by decide +kernel, rfl, by decide +kernel, by decide +kernel⟩
theorem nd21 : (["_law_one", "_law_other", "_law_name", "_law_rows_here"] : List Str).Nodup := by decide +kernel
theorem nd22 : (["_law_one", "_law_goals"] : List Str).Nodup := by decide +kernel
theorem nd23 : (["_law_one", "_law_other", "_law_goal"] : List Str).Nodup := by decide +kernel
theorem ok_law {k : Nat} (F : Fun K "law" "law" sLaw f fd) (G : Blt mg) (hRows : Has P w K mg base "_law_rows" k ["_law_script", "_law_town"] (spRows28 K)) (hLEnd : Has P w K mg base "_law_end" k ["_law_rows_here", "_law_name"] spLEnd) (hLeads : Has P w K mg base "leads_round" k ["rows", "name"] spLeads)
    (hLed : Has P w K mg base "led_to" k ["rows", "name"] spLed2) (hHold : Has P w K mg base "_law_rings_hold" k ["_law_rows_here"] spHold) (hTurned : Has P w K mg base "turned" k ["rows"] spTurned) (hRings : Has P w K mg base "rings" k ["rows"] spRings) (hMixed : Has P w K mg base "_law_mixed" k ["_law_script", "_law_town", "_law_row"] (spMixed K)) :
    FnOk P w K mg base CX0 (k + 1) f fd ["_law_script"] (spLaw K) := by
  refine F.ok scLaw (fun vs H Q E h => ?_) (fun cdv A outer s H vs Q E hr h => ?_)
  · obtain ⟨a, ns, rfl, _⟩ := h
    rfl
  obtain ⟨a, ns, rfl, hS, h63, q⟩ := h
  have hu := hu_of hr
  refine ⟨_, pss_cons (ps_set (i := 1) scLaw.nd rfl (Or.inl rfl) (pe_lst pa_nil))
    (pss_cons (ps_for PassesOwn.never rfl (pi_range1 rfl G.range (pa_cons pe_int pa_nil)) (pg_name (i := 2) scLaw.nd rfl (Or.inl rfl))
      (pss_cons (ps_set (i := 3) scLaw.nd rfl (Or.inr rfl) (pe_callH hRows hr rfl (pa_cons (pv 0) (pa_cons (pv 1) pa_nil))))
      (pss_cons (ps_set (i := 4) scLaw.nd rfl (Or.inr rfl) (pe_callTy (call_dictT rfl) rfl G.dict boot_dict (pa_cons (pv 3) pa_nil)))
      (pss_cons (ps_for PassesOwn.never rfl (pi_str pe_str) (pg_name (i := 5) scLaw.nd rfl (Or.inr rfl))
        (pss_cons (ps_set (i := 6) scLaw.nd rfl (Or.inl rfl) (pe_ifExp (pt_cmp (pc_din hu (pv 5) (pv 4)) (by with_unfolding_all rfl)) (pe_callH hLEnd hr rfl (pa_cons (pv 3) (pa_cons (pe_dget hu (pv 4) (pv 5) fun _ _ => rfl) pa_nil))) (pv 5)))
        (pss_cons (ps_if (PW.pt (pw_or (pt_cmpR op_ne (pe_callH hLEnd hr rfl (pa_cons (pv 3) (pa_cons (pv 5) pa_nil))) (pv 6) (nomark _))
          (pw_or1 (pt_cmpR op_ne (pe_cmp (pc_isN (pv 6))) (pe_callH hLeads hr rfl (pa_cons (pv 3) (pa_cons (pv 5) pa_nil))) (nomark _))))) pss_never pss_nil)
        (pss_cons (ps_compF (ix := 7) (tt := tTest (tOp rEq (tCall spLEnd [] E0 (tCons (tVar 3) (tCons (tVar 0) tNil))) (tVar 2))) (te := tVar 0) (xs := ["_law_one", "_law_other"]) (ys := ["_law_name", "_law_rows_here"]) (js := [5, 3]) (g := gTup K 2 (gCons (gName 0) (gCons (gName 1) gNil))) rfl (by decide +kernel) (by decide +kernel) rfl (by decide +kernel) ⟨rfl, .inl rfl, rfl, rfl, .inl rfl, rfl, trivial⟩
            (pi_tup (pv 3)) (fun _ _ _ _ _ => pg_tup rfl (pgs_cons (pg_name (i := 0) nd21 rfl (Or.inl rfl) (.inr rfl)) (pgs_cons (pg_name (i := 1) nd21 rfl (Or.inl rfl) (.inr rfl)) pgs_nil))) (fun _ _ _ _ _ => pts_one (pt_cmpR op_eq (pe_callH hLEnd hr rfl (pa_cons (pv 3) (pa_cons (pv 0) pa_nil))) (pv 2) (nomark _))) (fun _ _ _ _ _ => pv 0) scLaw.nd rfl (Or.inl rfl))
        (pss_one (ps_if (pt_cmpR (op_neA (hu8 hr)) (pe_callH hLed hr rfl (pa_cons (pv 3) (pa_cons (pv 5) pa_nil))) (pe_callTy call_tuple_of rfl G.tuple boot_tuple (pa_cons (pe_callB call_sortS rfl G.sorted boot_sorted (pa_cons (pv 7) pa_nil)) pa_nil)) (nomark _)) pss_never pss_nil))))))
      (pss_cons (ps_if (pt_not (pt_val (pe_callH hHold hr rfl (pa_cons (pv 3) pa_nil)))) pss_never pss_nil)
      (pss_cons (ps_set (i := 6) scLaw.nd rfl (Or.inl rfl) (pe_lst pa_nil))
      (pss_cons (ps_for PassesOwn.never rfl (pi_list (pe_callB (call_sortD rfl) rfl G.sorted boot_sorted (pa_cons (pe_callTy (call_dictLs rfl) rfl G.dict boot_dict (pa_cons (pe_compF (xs := ["_law_one"]) (ys := ["_law_goals"]) (js := [4]) rfl (by decide +kernel) (by decide +kernel) rfl (by decide +kernel) ⟨rfl, .inl rfl, rfl, trivial⟩
            (pi_dict (pv 4)) (fun _ _ _ _ _ => pg_name (i := 0) nd22 rfl (Or.inl rfl) (.inr rfl)) (fun _ _ _ _ _ => pts_nil) (fun _ _ _ _ _ => pe_tup (pa_cons (pe_dget hu (pv 1) (pv 0) fun _ _ => rfl) (pa_cons pe_int pa_nil)))) pa_nil)) pa_nil))) (pg_name (i := 8) scLaw.nd rfl (Or.inr rfl))
        (pss_one (ps_expr (pe_bm PySem.F.plainAttrs_list PySem.F.slot_list_append PySem.F.type_list_append mt_append (pv 6) (pa_cons (pe_tup (pa_cons (pv 8) (pa_cons (pe_callTy call_tuple_of rfl G.tuple boot_tuple (pa_cons (pe_callB call_sortS rfl G.sorted boot_sorted (pa_cons (pe_compF (tt := tTest (tOp rEq (tVar 1) (tVar 2))) (te := tVar 0) (xs := ["_law_one", "_law_other"]) (ys := ["_law_goal"]) (js := [8]) (g := gTup K 2 (gCons (gName 0) (gCons (gName 1) gNil))) rfl (by decide +kernel) (by decide +kernel) rfl (by decide +kernel) ⟨rfl, .inl rfl, rfl, trivial⟩
            (pi_tup (pv 3)) (fun _ _ _ _ _ => pg_tup rfl (pgs_cons (pg_name (i := 0) nd23 rfl (Or.inl rfl) (.inr rfl)) (pgs_cons (pg_name (i := 1) nd23 rfl (Or.inl rfl) (.inr rfl)) pgs_nil))) (fun _ _ _ _ _ => pts_one (pt_cmpR op_eq (pv 1) (pv 2) (nomark _))) (fun _ _ _ _ _ => pv 0)) pa_nil)) pa_nil)) pa_nil))) pa_nil)))))
      (pss_cons (ps_if (pt_cmpR (op_neA (hu8 hr)) (pe_callTy call_list_of rfl G.list boot_list (pa_cons (pe_callH hTurned hr rfl (pa_cons (pv 3) pa_nil)) pa_nil)) (pv 6) (nomark _)) pss_never pss_nil)
      (pss_cons (ps_set (i := 9) scLaw.nd rfl (Or.inl rfl) (pe_callH hMixed hr rfl (pa_cons (pv 0) (pa_cons (pv 1) (pa_cons (pv 3) pa_nil)))))
      (pss_cons (ps_if (PW.pt (pw_or (pt_cmpR (op_neA (hu8 hr)) (pe_callH hRings hr rfl (pa_cons (pv 9) pa_nil)) (pe_callH hRings hr rfl (pa_cons (pv 3) pa_nil)) (nomark _))
        (pw_or (pt_cmpR (op_neA (hu8 hr)) (pe_callH hTurned hr rfl (pa_cons (pv 9) pa_nil)) (pe_callH hTurned hr rfl (pa_cons (pv 3) pa_nil)) (nomark _))
        (pw_or1 (pt_cmpR op_ne (pe_callH hLEnd hr rfl (pa_cons (pv 9) (pa_cons pe_str pa_nil))) (pe_callH hLEnd hr rfl (pa_cons (pv 3) (pa_cons pe_str pa_nil))) (nomark _)))))) pss_never pss_nil)
      (pss_one (ps_if (PW.pt (pw_or (pt_cmpR (op_neA (hu8 hr)) (pe_callH hRings hr rfl (pa_cons (pe_tup pa_nil) pa_nil)) (pe_tup pa_nil) (nomark _))
        (pw_or (pt_cmpR (op_neA (hu8 hr)) (pe_callH hTurned hr rfl (pa_cons (pe_tup pa_nil) pa_nil)) (pe_tup pa_nil) (nomark _))
        (pw_or (pt_cmpR op_ne (pe_callH hLEnd hr rfl (pa_cons (pe_tup pa_nil) (pa_cons pe_str pa_nil))) pe_str (nomark _))
        (pw_or1 (pt_cmpR (op_neA (hu8 hr)) (pe_callH hRings hr rfl (pa_cons (pe_tup (pa_cons (pe_tup (pa_cons pe_str (pa_cons pe_str pa_nil))) pa_nil)) pa_nil)) (pe_tup (pa_cons (pe_tup (pa_cons pe_str pa_nil)) pa_nil)) (nomark _))))))) pss_never pss_nil))))))))))))
    (pss_one (ps_ret pe_bl))), ?_⟩
  refine ⟨big _ (by simp), fun t nt => ?_⟩
  have s0 := Same.new nt (.lst ([] : List V))
  have ht : (upd H t (.lst ([] : List V)) : Hp) t = some (.lst []) := upd_same
  refine ⟨8, rfl, by decide, by decide, ?_⟩
  refine for_range (n := 8) (fun i σ H' => ∃ v2 v3 v4 v5 v6 v7 v8 v9 : Option V, σ = [some (.ref a), some (.ref t), v2, v3, v4, v5, v6, v7, v8, v9] ∧ St1 K a t ns (50 * i) H')
    ⟨_, _, _, _, _, _, _, _, rfl, ⟨[], ht, by simp⟩, hS.same s0⟩ ?_ (fun σ H' _ => q H')
  rintro i σ H1 hi ⟨v2, v3, v4, v5, v6, v7, v8, v9, rfl, hW1⟩
  obtain ⟨zs1, hz1, hy1⟩ := hW1.1
  refine ⟨_, rfl, _, rfl, a, t, ns, zs1, rfl, hW1.2, h63, hz1, by omega, fun p R zs2 H2 hT2 hy2 st2 hA2 gR => ?_⟩
  obtain ⟨hW2, _⟩ := hW1.drawn (m := 50 * i + 30) hz1 hT2 (by omega) st2
  have hRl := gR.len
  obtain ⟨rs, ha2, hrs2, hR2⟩ := id hA2
  have hlr : rs.length = R.length := by rw [← hR2, List.length_map]
  have hpv := rows_pairs (K := K) hrs2
  rw [hR2] at hpv
  refine ⟨_, rfl, p, _, _, rfl, ha2, hpv, by rw [List.length_map]; omega, fun g ng => ?_⟩
  rw [merge_nodup gR.nd]
  have s3 := Same.new ng (.dK (dkOf R))
  have hg3 : (upd H2 g (.dK (dkOf R)) : Hp) g = some (.dK (dkOf R)) := upd_same
  generalize (upd H2 g (.dK (dkOf R)) : Hp) = H3 at *
  have hA3 := hA2.same s3
  have hW3 := hW2.same s3
  -- each name
  refine ⟨_, rfl, ?_⟩
  refine for_str (z := SG10) (fun j σ H' => ∃ u5 u6 u7 : Option V, σ = [some (.ref a), some (.ref t), some (.int (0 + (i : Int))), some (.ref p), some (.ref g), u5, u6, u7, v8, v9] ∧ Same H3 H')
    ⟨_, _, _, rfl, Same.refl _⟩ ?_ ?_
  · rintro j c σ H4 hc ⟨u5, u6, u7, rfl, s4⟩
    have hn := sg10_ok c (Array.mem_def.mp (Array.mem_of_getElem? hc))
    generalize (⟨#[c]⟩ : Str) = n at *
    have hn1 : Txt1 n := ten_ok _ hn
    have hA4 := hA3.same s4
    have hg4 := s4 _ _ hg3
    have e0 : (!decide (Ev R n = Ev R n)) = false := by rw [decide_eq_true rfl]; rfl
    refine ⟨_, rfl, _, rfl, g, _, rfl, DGet.k (k := Sum.inr n) hg4, _, rfl, ?_⟩
    rw [dk_val]
    have cont : ∀ H5, Same H4 H5 → ∃ x : Unit, True := fun _ _ => ⟨(), trivial⟩
    cases hvn : val R n
    case' none =>
      refine iteF ⟨Ev R n, by rw [ev_none hvn]; rfl, ?_⟩
      obtain ⟨H5, hH5, s5⟩ : ∃ H5, H5 = H4 ∧ Same H4 H5 := ⟨H4, rfl, Same.refl _⟩
      rw [← hH5]
    case' some m =>
      have hm1 : Txt1 m := ten_ok _ (gR.nm _ (val_mem hvn)).2
      have hget : DGet H4 g (V.str n) (some (V.str m)) := by
        have := DGet.k (k := Sum.inr n) hg4
        rw [dk_val, hvn] at this
        exact this
      refine iteT ⟨_, rfl, _, rfl, _, rfl, g, V.str m, rfl, hget, p, R, m, rfl, hA4, gR.nd, by omega, hm1, fun H5 s5 => ?_⟩
      rw [ev_goal hvn]
    all_goals
      have hA5 := hA4.same s5
      refine ⟨_, rfl, _, rfl, p, R, n, rfl, hA5, gR.nd, by omega, hn1, fun H6 s6 => ?_⟩
      refine ⟨_, rfl, ev_scal _ _ _ _, _, rfl, ?_⟩
      rw [e0]
      have hA6 := hA5.same s6
      refine iteF ⟨_, rfl, _, rfl, _, rfl, p, R, n, rfl, hA6, gR.nd, by omega, fun H7 s7 => ?_⟩
      refine ⟨rfl, _, rfl, ?_⟩
      rw [ev_non, decide_eq_true rfl]
      have hA7 := hA6.same s7
      obtain ⟨rs7, ha7, hrs7, hR7⟩ := id hA7
      have hlr7 : rs7.length = R.length := by rw [← hR7, List.length_map]
      refine iteF ⟨_, rfl, p, rfl, ⟨_, SqT.of ha7⟩, fun D hD => ?_⟩
      refine compF_rowsT (K := K) (fr := [some (.str n), some (.ref p)]) (fun r => .str r.2.1) (fun r => decide (Ev R r.2.1 = V.str n)) D hD (tells_tup (SqT.of ha7)) hrs7 (bigl _ (by omega)) ?_ ?_ ?_
      · intro r H8 Rr hr' s8 hR8
        have hrR : r.2 ∈ R := by rw [← hR7]; exact List.mem_map.mpr ⟨r, hr', rfl⟩
        have hr1 : Txt1 r.2.1 := ten_ok _ (List.mem_append_left _ (gR.nm _ hrR).1)
        exact ⟨_, rfl, _, rfl, p, R, r.2.1, rfl, hA7.same s8, gR.nd, by omega, hr1, fun H9 s9 => ⟨_, rfl, ev_scalS _ _ _, _, rfl, hR8 H9 s9⟩⟩
      · intro r H8 Rr hr' _ s8 hR8
        exact ⟨_, rfl, hR8 H8 (Same.refl _)⟩
      intro H8 s8 hD8
      have eS : ((rs7.filter fun r => decide (Ev R r.2.1 = V.str n)).map fun r => V.str r.2.1) = (((R.filter fun r => decide (Ev R r.1 = V.str n)).map (·.1)).map V.str) := by
        have ef' : ((rs7.filter fun r => decide (Ev R r.2.1 = V.str n)).map (·.2)) = R.filter fun r => decide (Ev R r.1 = V.str n) := by
          rw [filter_snd rs7 fun r => decide (Ev R r.1 = V.str n), hR7]
        rw [← ef', List.map_map, List.map_map]
        rfl
      rw [eS] at hD8
      refine ⟨_, rfl, _, rfl, p, R, n, rfl, hA7.same s8, gR.nd, by omega, fun p9 R9 H9 s9 hp9 hr9 hq9 => ?_⟩
      have hfl : ((R.filter fun r => decide (Ev R r.1 = V.str n)).map (·.1)).length ≤ R.length := by
        rw [List.length_map]; exact List.length_filter_le _ _
      refine ⟨_, rfl, D, _, rfl, .inl (SqL.of (s9 _ _ hD8)), by omega, fun l ts nl hpt hst => ?_⟩
      rw [led_eq gR.nd hp9 hr9 hpt hst] at hq9
      have s10 := Same.new nl (.lst (ts.map V.str))
      refine ⟨l, _, rfl, .inl ⟨SqL.of upd_same, fun q2 nq2 => ?_⟩⟩
      have s11 := Same.new nq2 (.tup (ts.map V.str))
      refine ⟨p9, q2, ts.map Dat.str, _, _, rfl, rfl, .inl ⟨SqT.of ((s10.trans s11) _ _ hq9), SqT.of upd_same⟩, dat_strs ts, dat_strs ts, deep_strs ts, _, rfl, iteF ?_⟩
      exact ⟨_, _, _, rfl, ((((((s4.trans s5).trans s6).trans s7).trans s8).trans s9).trans s10).trans s11⟩
  rintro σ H4 ⟨u5, u6, u7, rfl, s4⟩
  have hA4 := hA3.same s4
  have hW4 := hW3.same s4
  have hg4 := s4 _ _ hg3
  -- rings
  refine ⟨_, rfl, p, R, rfl, hA4, gR.nd, hRl, fun H5 s5 => ⟨_, rfl, iteF ?_⟩⟩
  have hA5 := hA4.same s5
  have hW5 := hW4.same s5
  have hg5 := s5 _ _ hg4
  -- turned
  refine ⟨big _ (by simp), fun du ndu => ?_⟩
  have s6 := Same.new ndu (.lst ([] : List V))
  have hdu6 : (upd H5 du (.lst ([] : List V)) : Hp) du = some (.lst []) := upd_same
  have hdut : du ≠ t := fun e => by obtain ⟨zs, h, _⟩ := hW5.1; rw [← e, ndu] at h; cases h
  have hA6 := hA5.same s6
  have hW6 := hW5.same s6
  have hg6 := s6 _ _ hg5
  generalize (upd H5 du (.lst ([] : List V)) : Hp) = H6 at *
  refine ⟨_, rfl, g, dkOf R, rfl, hg6, fun o => ?_⟩
  obtain ⟨hW7, ts7⟩ := hW6.frz (o := o) hg6
  have hA7 := hA6.ts ts7
  have hdug : du ≠ g := fun e => by rw [e, hg6] at hdu6; cases hdu6
  have hdu7 : (upd H6 g (.frz o (.dK (dkOf R))) : Hp) du = some (.lst []) := by rw [upd_ne hdug]; exact hdu6
  have hg7 : (upd H6 g (.frz o (.dK (dkOf R))) : Hp) g = some (.frz o (.dK (dkOf R))) := upd_same
  generalize (upd H6 g (.frz o (.dK (dkOf R))) : Hp) = H7 at *
  have ek : ((dkOf R).map fun p => kV p.1) = (R.map (·.1)).map V.str := by
    unfold dkOf
    rw [List.map_map, List.map_map]
    rfl
  have T := tells_dict hg7
  rw [ek] at T
  intro D2 hD2
  refine compF_rel (xs := (R.map (·.1)).map V.str) (fr := [some (.ref g)]) (fun x v H' => ∃ n, x = V.str n ∧ ∃ b, v = V.ref b ∧ H' b = some (.tup [.str ((val R n).getD ""), .int 0])) (fun x v H H' s h => ?_) D2 hD2 T (bigl _ (by rw [List.length_map, List.length_map]; omega)) ?_ ?_
  · obtain ⟨n, e, b, e2, hb⟩ := h
    exact ⟨n, e, b, e2, s _ _ hb⟩
  · intro x H8 Rr hx s8 hR8
    obtain ⟨n, hn, rfl⟩ := List.mem_map.mp hx
    obtain ⟨r, hr', rfl⟩ := List.mem_map.mp hn
    have hvr := val_of gR.nd hr'
    have hget : DGet H8 g (V.str r.1) (some (V.str r.2)) := by
      refine .inl ⟨_, Sum.inr r.1, .inr ⟨o, s8 _ _ hg7⟩, rfl, ?_⟩
      rw [dk_val, hvr]
      rfl
    refine ⟨_, rfl, _, rfl, g, V.str r.2, rfl, hget, big _ (by simp), fun b nb => ?_⟩
    refine hR8 _ _ (Same.new nb _) ⟨r.1, rfl, b, rfl, ?_⟩
    rw [upd_same, hvr]
    rfl
  intro H8 ys s8 hD8 hp8
  have hpr := made_pairs (K := K) (R := R) (L := R) (fun r hr' => val_of gR.nd hr') hp8
  have hysl : ys.length ≤ 9 := by have := Paired.length hp8; rw [List.length_map, List.length_map] at this; omega
  refine ⟨D2, ys, _, rfl, hD8, hpr, by omega, fun d ndd => ?_⟩
  obtain ⟨us, hkeys, ndu', hmu, hul⟩ := merge_keys (gs := R.map (·.2)) (us := []) (kvs := []) rfl List.nodup_nil
  have s9 := Same.new ndd (.dK (mergeK [] ((R.map (·.2)).map fun g => ((Sum.inr g : Key), V.int 0))))
  have hd9 : (upd H8 d (.dK (mergeK [] ((R.map (·.2)).map fun g => ((Sum.inr g : Key), V.int 0)))) : Hp) d = _ := upd_same
  generalize (upd H8 d (.dK (mergeK [] ((R.map (·.2)).map fun g => ((Sum.inr g : Key), V.int 0)))) : Hp) = H9 at *
  rw [List.length_map] at hul
  refine ⟨d, us, rfl, ⟨_, .inl hd9, hkeys⟩, by simp at hul; omega, fun l3 ts nl3 hpt hst => ?_⟩
  have s10 := Same.new nl3 (.lst (ts.map V.str))
  have hl10 : (upd H9 l3 (.lst (ts.map V.str)) : Hp) l3 = some (.lst (ts.map V.str)) := upd_same
  have s710 := (s8.trans s9).trans s10
  generalize (upd H9 l3 (.lst (ts.map V.str)) : Hp) = H10 at *
  have hA10 := hA7.same s710
  have hW10 := hW7.same s710
  have hdu10 := s710 _ _ hdu7
  have hld : l3 ≠ du := fun e => by rw [e, (s8.trans s9) _ _ hdu7] at nl3; cases nl3
  have htr := rise_strs hpt ndu' hst
  have htm : ∀ z, z ∈ ts ↔ ∃ r ∈ R, r.2 = z := fun z => by
    rw [hpt.mem_iff, hmu]
    constructor
    · rintro (h | h)
      · cases h
      · obtain ⟨r, hr', e⟩ := List.mem_map.mp h; exact ⟨r, hr', e⟩
    · rintro ⟨r, hr', e⟩; exact .inr (List.mem_map.mpr ⟨r, hr', e⟩)
  have htl : ts.length ≤ 9 := by rw [hpt.length_eq]; simp at hul; omega
  refine ⟨l3, rfl, ⟨_, SqL.of hl10⟩, ?_⟩
  refine for_list (xs := ts.map V.str) (fun j σ H' => ∃ (u8 : Option V) (qs : List (Addr × Str × Addr × List Str)), σ = [some (.ref a), some (.ref t), some (.int (0 + (i : Int))), some (.ref p), some (.ref g), u5, some (.ref du), u7, u8, v9] ∧ St1 K a t ns (50 * i + 30) H' ∧ RowsAt H' p R ∧ H' l3 = some (.lst (ts.map V.str)) ∧ H' du = some (.lst (qs.map fun q => V.ref q.1)) ∧
      (∀ q ∈ qs, H' q.1 = some (.tup [.str q.2.1, .ref q.2.2.1]) ∧ H' q.2.2.1 = some (.tup (q.2.2.2.map V.str))) ∧ qs.map (fun q => q.2.1) = ts.take j ∧ ∀ q ∈ qs, q.2.2.2.Pairwise (fun a b => HS.ltS a b = true) ∧ ∀ m, m ∈ q.2.2.2 ↔ (m, q.2.1) ∈ R)
    ⟨_, [], rfl, hW10, hA10, hl10, hdu10, (fun q hq => by cases hq), rfl, (fun q hq => by cases hq)⟩ (fun j σ H' _ h => by obtain ⟨_, _, _, _, _, h, _⟩ := h; exact SqL.of h) ?_ ?_
  · rintro j x σ H11 hx ⟨u8, qs, rfl, hW11, hA11, hl11, hdu11, hq11, hqt, hqm⟩
    rw [List.getElem?_map] at hx
    obtain ⟨z, hz, rfl⟩ : ∃ z, ts[j]? = some z ∧ V.str z = x := by
      cases hh : ts[j]? with
      | none => rw [hh] at hx; cases hx
      | some y => rw [hh] at hx; injection hx with hx; exact ⟨y, rfl, hx⟩
    have hqsl : qs.length ≤ 9 := by
      have := congrArg List.length hqt
      rw [List.length_map, List.length_take] at this
      omega
    obtain ⟨rs11, ha11, hrs11, hR11⟩ := id hA11
    have hlr11 : rs11.length = R.length := by rw [← hR11, List.length_map]
    refine ⟨_, rfl, .inl ⟨rfl, _, SqL.of hdu11⟩, _, rfl, _, rfl, p, rfl, ⟨_, SqT.of ha11⟩, fun D hD => ?_⟩
    refine compF_rowsT (K := K) (fr := [some (.str z)]) (fun r => .str r.2.1) (fun r => decide (r.2.2 = z)) D hD (tells_tup (SqT.of ha11)) hrs11 (bigl _ (by omega)) ?_ ?_ ?_
    · intro r H12 Rr hr' s12 hR12
      refine ⟨_, rfl, _, rfl, rfl, _, rfl, ?_⟩
      have := hR12 H12 (Same.refl _)
      have e : decide (V.str r.2.2 = V.str z) = decide (r.2.2 = z) := by
        by_cases h : r.2.2 = z
        · simp [h]
        · simp [h]
      rw [e]
      exact this
    · intro r H12 Rr hr' _ s12 hR12
      exact ⟨_, rfl, hR12 H12 (Same.refl _)⟩
    intro H12 s12 hD12
    have eS : ((rs11.filter fun r => decide (r.2.2 = z)).map fun r => V.str r.2.1) = ((grp R z).map V.str) := by
      unfold grp
      have ef' : ((rs11.filter fun r => decide (r.2.2 = z)).map (·.2)) = R.filter fun r => decide (r.2 = z) := by
        rw [filter_snd rs11 fun r => decide (r.2 = z), hR11]
      rw [← ef', List.map_map, List.map_map]
      rfl
    rw [eS] at hD12
    have hgl : (grp R z).length ≤ R.length := by unfold grp; rw [List.length_map]; exact List.length_filter_le _ _
    refine ⟨D, _, rfl, .inl (SqL.of hD12), by omega, fun l4 ts4 nl4 hpt4 hst4 => ?_⟩
    have s13 := Same.new nl4 (.lst (ts4.map V.str))
    refine ⟨l4, _, rfl, .inl ⟨SqL.of upd_same, fun c nc => ?_⟩⟩
    have s14 := Same.new nc (.tup (ts4.map V.str))
    have hc14 : (upd (upd H12 l4 (.lst (ts4.map V.str))) c (.tup (ts4.map V.str)) : Hp) c = some (.tup (ts4.map V.str)) := upd_same
    have s1114 := (s12.trans s13).trans s14
    generalize (upd (upd H12 l4 (.lst (ts4.map V.str))) c (.tup (ts4.map V.str)) : Hp) = H14 at *
    refine ⟨big _ (by simp), fun b nb => ?_⟩
    have s15 := Same.new nb (.tup [V.str z, V.ref c])
    have hb15 : (upd H14 b (.tup [V.str z, V.ref c]) : Hp) b = some (.tup [V.str z, V.ref c]) := upd_same
    have hc15 := s15 _ _ hc14
    have s1115 := s1114.trans s15
    generalize (upd H14 b (.tup [V.str z, V.ref c]) : Hp) = H15 at *
    have hdu15 := s1115 _ _ hdu11
    refine ⟨du, _, _, rfl, rfl, hdu15, bigl _ (by rw [List.length_map]; omega), ?_⟩
    have ts16 : TS' H15 (upd H15 du (.lst ((qs.map fun q => V.ref q.1) ++ [V.ref b]))) := fun b' xs' eb => by rw [upd_ne (fun e => by rw [e, hdu15] at eb; cases eb)]; exact eb
    have ndg : (grp R z).Nodup := by unfold grp; exact gR.nd.sublist (List.filter_sublist.map _)
    refine ⟨_, qs ++ [(b, z, c, ts4)], rfl, (hW11.same s1115).updL _ hdu15 hdut, (hA11.same s1115).ts ts16, ?_, ?_, fun q' hq' => ?_, ?_, fun q' hq' => ?_⟩
    · rw [upd_ne hld]; exact s1115 _ _ hl11
    · rw [upd_same, List.map_append]; rfl
    · rcases List.mem_append.mp hq' with hq' | hq'
      · exact ⟨ts16 _ _ (s1115 _ _ (hq11 q' hq').1), ts16 _ _ (s1115 _ _ (hq11 q' hq').2)⟩
      · rw [List.mem_singleton.mp hq']; exact ⟨ts16 _ _ hb15, ts16 _ _ hc15⟩
    · rw [List.map_append, hqt, List.take_add_one, hz]; rfl
    · rcases List.mem_append.mp hq' with hq' | hq'
      · exact hqm q' hq'
      · rw [List.mem_singleton.mp hq']
        exact ⟨rise_strs hpt4 ndg hst4, fun m => by rw [hpt4.mem_iff, grp_mem]⟩
  rintro σ H11 ⟨u8, qs, rfl, hW11, hA11, hl11, hdu11, hq11, hqt, hqm⟩
  rw [List.length_map, List.take_length] at hqt
  refine ⟨_, rfl, p, R, rfl, hA11, gR.nd, by omega, fun pt Rs ts' H12 s12 hpRs hrRs hts hmts hTu => ?_⟩
  have ets : ts' = ts := strs_eq hts htr fun z => by rw [hmts, htm]
  subst ets
  have eqs : (qs.map fun q => (q.2.1, q.2.2.2)) = ts'.map fun z => (z, grp Rs z) := by
    rw [← hqt, List.map_map]
    refine List.map_congr_left fun q' hq' => ?_
    show (q'.2.1, q'.2.2.2) = (q'.2.1, grp Rs q'.2.1)
    rw [strs_eq (hqm q' hq').1 (grp_rise hrRs q'.2.1) fun m => by rw [(hqm q' hq').2, grp_mem, hpRs.mem_iff]]
  obtain ⟨qs2, hpt12, hqs12, hU12⟩ := hTu
  refine ⟨pt, _, rfl, .inr (SqT.of hpt12), fun l5 nl5 => ?_⟩
  have s13 := Same.new nl5 (.lst (qs2.map fun q => V.ref q.1))
  have d1 := dat_turn (K := K) (qs := qs2) fun q' hq' => ⟨s13 _ _ (hqs12 q' hq').1, s13 _ _ (hqs12 q' hq').2⟩
  have d2 := dat_turn (K := K) (qs := qs) fun q' hq' => ⟨(s12.trans s13) _ _ (hq11 q' hq').1, (s12.trans s13) _ _ (hq11 q' hq').2⟩
  rw [hU12] at d1
  rw [eqs] at d2
  refine ⟨_, rfl, l5, du, _, _, _, rfl, rfl, .inr ⟨SqL.of upd_same, SqL.of ((s12.trans s13) _ _ hdu11)⟩, d1, d2, deep_turn _, _, rfl, iteF ?_⟩
  have s1113 := s12.trans s13
  generalize (upd H12 l5 (.lst (qs2.map fun q => V.ref q.1)) : Hp) = H13 at *
  have hA13 := hA11.same s1113
  have hW13 := hW11.same s1113
  -- in another order
  obtain ⟨zs13, hz13, hy13⟩ := hW13.1
  obtain ⟨rs13, ha13, hrs13, hR13⟩ := id hA13
  have hlr13 : rs13.length = R.length := by rw [← hR13, List.length_map]
  refine ⟨_, rfl, _, rfl, _, rfl, a, t, p, ns, zs13, _, rfl, hW13.2, h63, hz13, by omega, .inr (SqT.of ha13), by rw [List.length_map]; omega, fun qm ym zs14 H14 hT14 hz14 st14 hqm14 hpm => ?_⟩
  rw [List.length_map] at hz14
  obtain ⟨hW14, ts14⟩ := hW13.drawn (m := 50 * (i + 1)) hz13 hT14 (by omega) st14
  have hA14 := hA13.ts ts14
  obtain ⟨rsm, rfl, hrsm, hRm⟩ := perm_refs hrs13 hpm
  rw [hR13] at hRm
  have hM14 : RowsAt H14 qm (rsm.map (·.2)) := ⟨rsm, hqm14, hrsm.ts ts14, rfl⟩
  generalize rsm.map (·.2) = Rm at *
  have gM := gR.perm hRm
  have hMl := gM.len
  refine ⟨_, rfl, qm, Rm, rfl, hM14, gM.nd, by omega, fun p15 T15 H15 s15 hT15 hR15 => ?_⟩
  refine ⟨_, rfl, p, R, rfl, hA14.same s15, gR.nd, by omega, fun p16 T16 H16 s16 hT16 hR16 => ?_⟩
  have eT := rings_eq (rings_perm gR.nd hRm hR15) hR16
  obtain ⟨a15, h15, h15', e15⟩ := hT15
  obtain ⟨a16, h16, h16', e16⟩ := hT16
  have d15 := dat_tups (K := K) (rs := a15) fun r hr' => s16 _ _ (h15' r hr')
  have d16 := dat_tups (K := K) (rs := a16) h16'
  rw [e15, eT] at d15
  rw [e16] at d16
  refine ⟨p15, p16, _, _, _, rfl, rfl, .inl ⟨SqT.of (s16 _ _ h15), SqT.of h16⟩, d15, d16, deep_tups _, _, rfl, iteF ?_⟩
  have s1416 := s15.trans s16
  refine ⟨_, rfl, qm, Rm, rfl, hM14.same s1416, gM.nd, by omega, fun p17 Rs17 ts17 H17 s17 hp17 hr17 ht17 hm17 hU17 => ?_⟩
  refine ⟨_, rfl, p, R, rfl, (hA14.same s1416).same s17, gR.nd, by omega, fun p18 Rs18 ts18 H18 s18 hp18 hr18 ht18 hm18 hU18 => ?_⟩
  have eRs : Rs17 = Rs18 := rise_eq hr17 hr18 fun r => by rw [hp17.mem_iff, hp18.mem_iff, hRm.mem_iff]
  have ets : ts17 = ts18 := strs_eq ht17 ht18 fun z => by
    rw [hm17, hm18]
    constructor
    · rintro ⟨r, hr', e⟩; exact ⟨r, hRm.mem_iff.mp hr', e⟩
    · rintro ⟨r, hr', e⟩; exact ⟨r, hRm.mem_iff.mpr hr', e⟩
  rw [eRs, ets] at hU17
  obtain ⟨a17, h17, h17', e17⟩ := hU17
  obtain ⟨a18, h18, h18', e18⟩ := hU18
  have d17 := dat_turn (K := K) (qs := a17) fun r hr' => ⟨s18 _ _ (h17' r hr').1, s18 _ _ (h17' r hr').2⟩
  have d18 := dat_turn (K := K) (qs := a18) h18'
  rw [e17] at d17
  rw [e18] at d18
  refine ⟨p17, p18, _, _, _, rfl, rfl, .inl ⟨SqT.of (s18 _ _ h17), SqT.of h18⟩, d17, d18, deep_turn _, _, rfl, iteF ?_⟩
  have s1418 := (s1416.trans s17).trans s18
  have ta : Txt1 "a" := ten_ok _ (by decide +kernel)
  refine ⟨_, rfl, qm, Rm, "a", rfl, hM14.same s1418, gM.nd, by omega, ta, fun H19 s19 => ?_⟩
  refine ⟨_, rfl, p, R, "a", rfl, (hA14.same s1418).same s19, gR.nd, by omega, ta, fun H20 s20 => ?_⟩
  refine ⟨ev_scal _ _ _ _, _, rfl, ?_⟩
  have e19 : (!decide (Ev Rm "a" = Ev R "a")) = false := by rw [ev_perm gR.nd hRm, decide_eq_true rfl]; rfl
  rw [e19]
  refine iteF ?_
  have hW20 := (hW14.same s1418).same (s19.trans s20)
  -- of no rows
  refine ⟨big _ (by simp), fun q1 nq1 => ?_⟩
  have s21 := Same.new nq1 (.tup ([] : List V))
  refine ⟨q1, [], rfl, ⟨[], upd_same, (fun r hr => by cases hr), rfl⟩, List.nodup_nil, by decide, fun p22 T22 H22 s22 hT22 hR22 => ?_⟩
  rw [nil_rings hR22] at hT22
  obtain ⟨a22, h22, _, e22⟩ := hT22
  have : a22 = [] := List.map_eq_nil_iff.mp e22
  subst this
  refine ⟨big _ (by simp), fun q2 nq2 => ?_⟩
  have s23 := Same.new nq2 (.tup ([] : List V))
  refine ⟨p22, q2, [], [], [], rfl, rfl, .inl ⟨SqT.of (s23 _ _ h22), SqT.of upd_same⟩, rfl, rfl, by decide, _, rfl, iteF ?_⟩
  refine ⟨big _ (by simp), fun q3 nq3 => ?_⟩
  have s24 := Same.new nq3 (.tup ([] : List V))
  refine ⟨q3, [], rfl, ⟨[], upd_same, (fun r hr => by cases hr), rfl⟩, List.nodup_nil, by decide, fun p25 Rs25 ts25 H25 s25 _ _ _ hm25 hU25 => ?_⟩
  have e25 : ts25 = [] := by
    cases ts25 with
    | nil => rfl
    | cons z _ =>
      obtain ⟨r, hr', _⟩ := (hm25 z).mp (List.mem_cons_self ..)
      cases hr'
  subst e25
  obtain ⟨a25, h25, _, e25'⟩ := hU25
  have : a25 = [] := List.map_eq_nil_iff.mp e25'
  subst this
  refine ⟨big _ (by simp), fun q4 nq4 => ?_⟩
  have s26 := Same.new nq4 (.tup ([] : List V))
  refine ⟨p25, q4, [], [], [], rfl, rfl, .inl ⟨SqT.of (s26 _ _ h25), SqT.of upd_same⟩, rfl, rfl, by decide, _, rfl, iteF ?_⟩
  refine ⟨big _ (by simp), fun q5 nq5 => ?_⟩
  have s27 := Same.new nq5 (.tup ([] : List V))
  refine ⟨q5, [], "a", rfl, ⟨[], upd_same, (fun r hr => by cases hr), rfl⟩, List.nodup_nil, by decide, ta, fun H28 s28 => ?_⟩
  rw [ev_nil]
  refine ⟨rfl, _, rfl, ?_⟩
  have e28 : (!decide (V.str "a" = V.str "a")) = false := by rw [decide_eq_true rfl]; rfl
  rw [e28]
  refine iteF ⟨big _ (by simp), fun b1 nb1 => ?_⟩
  have s29 := Same.new nb1 (.tup [V.str "a", V.str "a"])
  refine ⟨big _ (by simp), fun b2 nb2 => ?_⟩
  have s30 := Same.new nb2 (.tup [V.ref b1])
  refine ⟨b2, [("a", "a")], rfl, ⟨[(b1, ("a", "a"))], upd_same, (fun r hr' => by rw [List.mem_singleton.mp hr']; exact s30 _ _ upd_same), rfl⟩, by simp, by decide, fun p31 T31 H31 s31 hT31 hR31 => ?_⟩
  rw [aa_rings hR31] at hT31
  obtain ⟨a31, h31, h31', e31⟩ := hT31
  refine ⟨big _ (by simp), fun c1 nc1 => ?_⟩
  have s32 := Same.new nc1 (.tup [V.str "a"])
  refine ⟨big _ (by simp), fun c2 nc2 => ?_⟩
  have s33 := Same.new nc2 (.tup [V.ref c1])
  have d31 := dat_tups (K := K) (rs := a31) fun r hr' => (s32.trans s33) _ _ (h31' r hr')
  rw [e31] at d31
  refine ⟨p31, c2, _, _, _, rfl, rfl, .inl ⟨SqT.of ((s32.trans s33) _ _ h31), SqT.of upd_same⟩, d31, ⟨_, _, rfl, ⟨c1, _, rfl, SqT.of (s33 _ _ upd_same), dat_strs [("a" : Str)]⟩, rfl⟩, deep_tups _, _, rfl, iteF ?_⟩
  exact ⟨_, _, _, _, _, _, _, _, rfl, (hW20.same ((((((((((s21.trans s22).trans s23).trans s24).trans s25).trans s26).trans s27).trans s28).trans s29).trans s30).trans ((s31.trans s32).trans s33)))⟩
end
end LW
namespace LW
open PySem L2 Mi Co
theorem all_mk {l : PySem.W.OpenLaw} {w : World} {K : PySem.W.Frag} {h : Heap} {mg : Str → Option Value} {fa f1 f2 f3 f4 f5 f6 f7 f8 f9 f10 f11 f12 f13 f14 f15 f16 : Addr} (X : K.In h) (G0 : h.Ns mainGlobals mg) (hfa : mg "law" = some (.ref fa))
    {od1 an1 od2 an2 od3 an3 od4 an4 od5 an5 od6 an6 od7 an7 od8 an8 od9 an9 od10 an10 od11 an11 od12 an12 od13 an13 od14 an14 od15 an15 od16 an16 : Option Addr} {sl1 sl2 sl3 sl4 sl5 sl6 sl7 sl8 sl9 sl10 sl11 sl12 sl13 sl14 sl15 sl16 : Array (Option Value)} {oc1 kV1 dc1 pm1 cd1 ct1 oc2 kV2 dc2 pm2 cd2 ct2 oc3 kV3 dc3 pm3 cd3 ct3 oc4 kV4 dc4 pm4 cd4 ct4 oc5 kV5 dc5 pm5 cd5 ct5 oc6 kV6 dc6 pm6 cd6 ct6 oc7 kV7 dc7 pm7 cd7 ct7 oc8 kV8 dc8 pm8 cd8 ct8 oc9 kV9 dc9 pm9 cd9 ct9 oc10 kV10 dc10 pm10 cd10 ct10 oc11 kV11 dc11 pm11 cd11 ct11 oc12 kV12 dc12 pm12 cd12 ct12 oc13 kV13 dc13 pm13 cd13 ct13 oc14 kV14 dc14 pm14 cd14 ct14 oc15 kV15 dc15 pm15 cd15 ct15 oc16 kV16 dc16 pm16 cd16 ct16 : Value} {t1 t2 : Tok} {C1 : Addr}
    (a1 : PySem.W.nsIn K mainGlobals "stop_of" = some (some (.ref f1))) (l1 : K.lookup f1 = some ⟨oc1, od1, .func (PySem.W.fnOf "stop_of" "stop_of" (defArgs sStop) (defBody sStop) (defScope sStop) .none kV1 dc1 pm1 an1 cd1 ct1), sl1⟩) (c1 : PySem.W.codeIn K cd1 "stop_of" = true) (k1 : PySem.W.keepIn K (.ref f1) = true)
    (a2 : PySem.W.nsIn K mainGlobals "leads_round" = some (some (.ref f2))) (l2 : K.lookup f2 = some ⟨oc2, od2, .func (PySem.W.fnOf "leads_round" "leads_round" (defArgs sLeads) (defBody sLeads) (defScope sLeads) .none kV2 dc2 pm2 an2 cd2 ct2), sl2⟩) (c2 : PySem.W.codeIn K cd2 "leads_round" = true) (k2 : PySem.W.keepIn K (.ref f2) = true)
    (a3 : PySem.W.nsIn K mainGlobals "end_of" = some (some (.ref f3))) (l3 : K.lookup f3 = some ⟨oc3, od3, .func (PySem.W.fnOf "end_of" "end_of" (defArgs sEnd) (defBody sEnd) (defScope sEnd) .none kV3 dc3 pm3 an3 cd3 ct3), sl3⟩) (c3 : PySem.W.codeIn K cd3 "end_of" = true) (k3 : PySem.W.keepIn K (.ref f3) = true)
    (a4 : PySem.W.nsIn K mainGlobals "ring_from" = some (some (.ref f4))) (l4 : K.lookup f4 = some ⟨oc4, od4, .func (PySem.W.fnOf "ring_from" "ring_from" (defArgs sRingFrom) (defBody sRingFrom) (defScope sRingFrom) .none kV4 dc4 pm4 an4 cd4 ct4), sl4⟩) (c4 : PySem.W.codeIn K cd4 "ring_from" = true) (k4 : PySem.W.keepIn K (.ref f4) = true)
    (a5 : PySem.W.nsIn K mainGlobals "from_least" = some (some (.ref f5))) (l5 : K.lookup f5 = some ⟨oc5, od5, .func (PySem.W.fnOf "from_least" "from_least" (defArgs sLeast) (defBody sLeast) (defScope sLeast) .none kV5 dc5 pm5 an5 cd5 ct5), sl5⟩) (c5 : PySem.W.codeIn K cd5 "from_least" = true) (k5 : PySem.W.keepIn K (.ref f5) = true)
    (a6 : PySem.W.nsIn K mainGlobals "rings" = some (some (.ref f6))) (l6 : K.lookup f6 = some ⟨oc6, od6, .func (PySem.W.fnOf "rings" "rings" (defArgs sRings) (defBody sRings) (defScope sRings) .none kV6 dc6 pm6 an6 cd6 ct6), sl6⟩) (c6 : PySem.W.codeIn K cd6 "rings" = true) (k6 : PySem.W.keepIn K (.ref f6) = true)
    (a7 : PySem.W.nsIn K mainGlobals "flat" = some (some (.ref f7))) (l7 : K.lookup f7 = some ⟨oc7, od7, .func (PySem.W.fnOf "flat" "flat" (defArgs sFlat) (defBody sFlat) (defScope sFlat) .none kV7 dc7 pm7 an7 cd7 ct7), sl7⟩) (c7 : PySem.W.codeIn K cd7 "flat" = true) (k7 : PySem.W.keepIn K (.ref f7) = true)
    (a8 : PySem.W.nsIn K mainGlobals "led_to" = some (some (.ref f8))) (l8 : K.lookup f8 = some ⟨oc8, od8, .func (PySem.W.fnOf "led_to" "led_to" (defArgs sLed) (defBody sLed) (defScope sLed) .none kV8 dc8 pm8 an8 cd8 ct8), sl8⟩) (c8 : PySem.W.codeIn K cd8 "led_to" = true) (k8 : PySem.W.keepIn K (.ref f8) = true)
    (a9 : PySem.W.nsIn K mainGlobals "turned" = some (some (.ref f9))) (l9 : K.lookup f9 = some ⟨oc9, od9, .func (PySem.W.fnOf "turned" "turned" (defArgs sTurned) (defBody sTurned) (defScope sTurned) .none kV9 dc9 pm9 an9 cd9 ct9), sl9⟩) (c9 : PySem.W.codeIn K cd9 "turned" = true) (k9 : PySem.W.keepIn K (.ref f9) = true)
    (a10 : PySem.W.nsIn K mainGlobals "_law_draw" = some (some (.ref f10))) (l10 : K.lookup f10 = some ⟨oc10, od10, .func (PySem.W.fnOf "_law_draw" "_law_draw" (defArgs sDraw) (defBody sDraw) (defScope sDraw) .none kV10 dc10 pm10 an10 cd10 ct10), sl10⟩) (c10 : PySem.W.codeIn K cd10 "_law_draw" = true) (k10 : PySem.W.keepIn K (.ref f10) = true)
    (a11 : PySem.W.nsIn K mainGlobals "_law_pick" = some (some (.ref f11))) (l11 : K.lookup f11 = some ⟨oc11, od11, .func (PySem.W.fnOf "_law_pick" "_law_pick" (defArgs sPick) (defBody sPick) (defScope sPick) .none kV11 dc11 pm11 an11 cd11 ct11), sl11⟩) (c11 : PySem.W.codeIn K cd11 "_law_pick" = true) (k11 : PySem.W.keepIn K (.ref f11) = true)
    (a12 : PySem.W.nsIn K mainGlobals "_law_mixed" = some (some (.ref f12))) (l12 : K.lookup f12 = some ⟨oc12, od12, .func (PySem.W.fnOf "_law_mixed" "_law_mixed" (defArgs sMixed) (defBody sMixed) (defScope sMixed) .none kV12 dc12 pm12 an12 cd12 ct12), sl12⟩) (c12 : PySem.W.codeIn K cd12 "_law_mixed" = true) (k12 : PySem.W.keepIn K (.ref f12) = true)
    (a13 : PySem.W.nsIn K mainGlobals "_law_rows" = some (some (.ref f13))) (l13 : K.lookup f13 = some ⟨oc13, od13, .func (PySem.W.fnOf "_law_rows" "_law_rows" (defArgs sRows) (defBody sRows) (defScope sRows) .none kV13 dc13 pm13 an13 cd13 ct13), sl13⟩) (c13 : PySem.W.codeIn K cd13 "_law_rows" = true) (k13 : PySem.W.keepIn K (.ref f13) = true)
    (a14 : PySem.W.nsIn K mainGlobals "_law_end" = some (some (.ref f14))) (l14 : K.lookup f14 = some ⟨oc14, od14, .func (PySem.W.fnOf "_law_end" "_law_end" (defArgs sLEnd) (defBody sLEnd) (defScope sLEnd) .none kV14 dc14 pm14 an14 cd14 ct14), sl14⟩) (c14 : PySem.W.codeIn K cd14 "_law_end" = true) (k14 : PySem.W.keepIn K (.ref f14) = true)
    (a15 : PySem.W.nsIn K mainGlobals "_law_rings_hold" = some (some (.ref f15))) (l15 : K.lookup f15 = some ⟨oc15, od15, .func (PySem.W.fnOf "_law_rings_hold" "_law_rings_hold" (defArgs sHold) (defBody sHold) (defScope sHold) .none kV15 dc15 pm15 an15 cd15 ct15), sl15⟩) (c15 : PySem.W.codeIn K cd15 "_law_rings_hold" = true) (k15 : PySem.W.keepIn K (.ref f15) = true)
    (a16 : PySem.W.nsIn K mainGlobals "law" = some (some (.ref f16))) (l16 : K.lookup f16 = some ⟨oc16, od16, .func (PySem.W.fnOf "law" "law" (defArgs sLaw) (defBody sLaw) (defScope sLaw) .none kV16 dc16 pm16 an16 cd16 ct16), sl16⟩) (c16 : PySem.W.codeIn K cd16 "law" = true) (k16 : PySem.W.keepIn K (.ref f16) = true)
    (w1 : PySem.W.nsIn K mainGlobals "FIRST" = some (some (.int 0 t1)))
    (w2 : PySem.W.nsIn K mainGlobals "GOAL" = some (some (.int 1 t2)))
    (x1 : PySem.W.nsIn K mainGlobals "Ring" = some (some (.ref C1))) (y1 : PySem.W.excIn K C1 VE "ValueError.__new__" = true)
    (z1 : PySem.W.nsIn K mainGlobals "len" = some none)
    (z2 : PySem.W.nsIn K mainGlobals "all" = some none)
    (z3 : PySem.W.nsIn K mainGlobals "isinstance" = some none)
    (z4 : PySem.W.nsIn K mainGlobals "str" = some none)
    (z5 : PySem.W.nsIn K mainGlobals "int" = some none)
    (z6 : PySem.W.nsIn K mainGlobals "bool" = some none)
    (z7 : PySem.W.nsIn K mainGlobals "tuple" = some none)
    (z8 : PySem.W.nsIn K mainGlobals "list" = some none)
    (z9 : PySem.W.nsIn K mainGlobals "range" = some none)
    (z10 : PySem.W.nsIn K mainGlobals "zip" = some none)
    (z11 : PySem.W.nsIn K mainGlobals "any" = some none)
    (z12 : PySem.W.nsIn K mainGlobals "sorted" = some none)
    (z13 : PySem.W.nsIn K mainGlobals "dict" = some none)
    (z14 : PySem.W.nsIn K mainGlobals "enumerate" = some none)
    (z15 : PySem.W.nsIn K mainGlobals "min" = some none)
    : ∃ fd : FuncData, (∀ (s : Shared) (v : Value), BindsTo s fd ⟨[v], []⟩ [("_law_script", v)]) ∧ ∀ base : Heap, K.In base → base.Ns mainGlobals mg → FnOk l.prog w K mg base CX0 4 fa fd ["_law_script"] (spLaw K) := by
  have e := hfa.symm.trans (PySem.W.mg_of X G0 a16)
  cases e
  have F1 := fun_mk (st := sStop) l1 c1 k1
  have F2 := fun_mk (st := sLeads) l2 c2 k2
  have F3 := fun_mk (st := sEnd) l3 c3 k3
  have F4 := fun_mk (st := sRingFrom) l4 c4 k4
  have F5 := fun_mk (st := sLeast) l5 c5 k5
  have F6 := fun_mk (st := sRings) l6 c6 k6
  have F7 := fun_mk (st := sFlat) l7 c7 k7
  have F8 := fun_mk (st := sLed) l8 c8 k8
  have F9 := fun_mk (st := sTurned) l9 c9 k9
  have F10 := fun_mk (st := sDraw) l10 c10 k10
  have F11 := fun_mk (st := sPick) l11 c11 k11
  have F12 := fun_mk (st := sMixed) l12 c12 k12
  have F13 := fun_mk (st := sRows) l13 c13 k13
  have F14 := fun_mk (st := sLEnd) l14 c14 k14
  have F15 := fun_mk (st := sHold) l15 c15 k15
  have F16 := fun_mk (st := sLaw) l16 c16 k16
  have b1 := F1.binds (ps := ["goals", "name"]) fun _ _ _ _ _ _ us hl => match us, hl with | [_, _], _ => rfl
  have b2 := F2.binds (ps := ["rows", "name"]) fun _ _ _ _ _ _ us hl => match us, hl with | [_, _], _ => rfl
  have b3 := F3.binds (ps := ["rows", "name"]) fun _ _ _ _ _ _ us hl => match us, hl with | [_, _], _ => rfl
  have b4 := F4.binds (ps := ["goals", "name"]) fun _ _ _ _ _ _ us hl => match us, hl with | [_, _], _ => rfl
  have b5 := F5.binds (ps := ["ring"]) fun _ _ _ _ _ _ us hl => match us, hl with | [_], _ => rfl
  have b6 := F6.binds (ps := ["rows"]) fun _ _ _ _ _ _ us hl => match us, hl with | [_], _ => rfl
  have b7 := F7.binds (ps := ["rows"]) fun _ _ _ _ _ _ us hl => match us, hl with | [_], _ => rfl
  have b8 := F8.binds (ps := ["rows", "name"]) fun _ _ _ _ _ _ us hl => match us, hl with | [_, _], _ => rfl
  have b9 := F9.binds (ps := ["rows"]) fun _ _ _ _ _ _ us hl => match us, hl with | [_], _ => rfl
  have b10 := F10.binds (ps := ["_law_script", "_law_town", "_law_many"]) fun _ _ _ _ _ _ us hl => match us, hl with | [_, _, _], _ => rfl
  have b11 := F11.binds (ps := ["_law_script", "_law_town", "_law_some"]) fun _ _ _ _ _ _ us hl => match us, hl with | [_, _, _], _ => rfl
  have b12 := F12.binds (ps := ["_law_script", "_law_town", "_law_row"]) fun _ _ _ _ _ _ us hl => match us, hl with | [_, _, _], _ => rfl
  have b13 := F13.binds (ps := ["_law_script", "_law_town"]) fun _ _ _ _ _ _ us hl => match us, hl with | [_, _], _ => rfl
  have b14 := F14.binds (ps := ["_law_rows_here", "_law_name"]) fun _ _ _ _ _ _ us hl => match us, hl with | [_, _], _ => rfl
  have b15 := F15.binds (ps := ["_law_rows_here"]) fun _ _ _ _ _ _ us hl => match us, hl with | [_], _ => rfl
  have G : Blt mg := ⟨PySem.W.mg_none_of X G0 z1, PySem.W.mg_none_of X G0 z2, PySem.W.mg_none_of X G0 z3, PySem.W.mg_none_of X G0 z4, PySem.W.mg_none_of X G0 z5, PySem.W.mg_none_of X G0 z6, PySem.W.mg_none_of X G0 z7, PySem.W.mg_none_of X G0 z8, PySem.W.mg_none_of X G0 z9, PySem.W.mg_none_of X G0 z10, PySem.W.mg_none_of X G0 z11, PySem.W.mg_none_of X G0 z12, PySem.W.mg_none_of X G0 z13, PySem.W.mg_none_of X G0 z14⟩
  have Z_min : mg "min" = none := PySem.W.mg_none_of X G0 z15
  have W_FIRST : ∃ t, mg "FIRST" = some (.int 0 t) := ⟨_, PySem.W.mg_of X G0 w1⟩
  have W_GOAL : ∃ t, mg "GOAL" = some (.int 1 t) := ⟨_, PySem.W.mg_of X G0 w2⟩
  refine ⟨PySem.W.fnOf "law" "law" (defArgs sLaw) (defBody sLaw) (defScope sLaw) .none kV16 dc16 pm16 an16 cd16 ct16, fun s v => .of_eq rfl, fun base kb nb => ?_⟩
  have O_Ring : PyProof.Rows.OwnCls "Ring" C1 VE "ValueError.__new__" mg base := own_mk kb (PySem.W.mg_of X G0 x1) y1
  have H_stop_of : Has l.prog w K mg base "stop_of" 1 ["goals", "name"] spStop := ⟨f1, _, ok_stop (k := 0) F1, b1, k1, (PySem.W.mg_of X G0 a1)⟩
  have H_leads_round : Has l.prog w K mg base "leads_round" 2 ["rows", "name"] spLeads := ⟨f2, _, ok_leads F2 G H_stop_of, b2, k2, (PySem.W.mg_of X G0 a2)⟩
  have H_end_of : HasE l.prog w K mg base "end_of" 2 ["rows", "name"] (spEnd C1) := ⟨f3, _, ok_end F3 G O_Ring H_stop_of, b3, k3, (PySem.W.mg_of X G0 a3)⟩
  have H_ring_from : Has l.prog w K mg base "ring_from" 1 ["goals", "name"] spRingFrom := ⟨f4, _, ok_ringfrom (k := 0) F4, b4, k4, (PySem.W.mg_of X G0 a4)⟩
  have H_from_least : Has l.prog w K mg base "from_least" 1 ["ring"] spLeast := ⟨f5, _, ok_least (k := 0) F5 G Z_min, b5, k5, (PySem.W.mg_of X G0 a5)⟩
  have H_rings : Has l.prog w K mg base "rings" 2 ["rows"] spRings := ⟨f6, _, ok_rings F6 G W_FIRST H_stop_of H_ring_from H_from_least, b6, k6, (PySem.W.mg_of X G0 a6)⟩
  have H_flat : Has l.prog w K mg base "flat" 2 ["rows"] spFlat := ⟨f7, _, ok_flat F7 G W_FIRST W_GOAL H_stop_of, b7, k7, (PySem.W.mg_of X G0 a7)⟩
  have H_led_to : Has l.prog w K mg base "led_to" 3 ["rows", "name"] spLed2 := ⟨f8, _, ok_led2 F8 G W_FIRST W_GOAL H_flat, b8, k8, (PySem.W.mg_of X G0 a8)⟩
  have H_turned : Has l.prog w K mg base "turned" 1 ["rows"] spTurned := ⟨f9, _, ok_turned (k := 0) F9 G W_FIRST W_GOAL, b9, k9, (PySem.W.mg_of X G0 a9)⟩
  have H__law_draw : Has l.prog w K mg base "_law_draw" 1 ["_law_script", "_law_town", "_law_many"] (spDraw K) := ⟨f10, _, ok_draw (k := 0) F10 G, b10, k10, (PySem.W.mg_of X G0 a10)⟩
  have H__law_pick : Has l.prog w K mg base "_law_pick" 2 ["_law_script", "_law_town", "_law_some"] (spPick K) := ⟨f11, _, ok_pick F11 G H__law_draw, b11, k11, (PySem.W.mg_of X G0 a11)⟩
  have H__law_mixed : Has l.prog w K mg base "_law_mixed" 2 ["_law_script", "_law_town", "_law_row"] (spMixed K) := ⟨f12, _, ok_mixed F12 G H__law_draw, b12, k12, (PySem.W.mg_of X G0 a12)⟩
  have H__law_rows : Has l.prog w K mg base "_law_rows" 3 ["_law_script", "_law_town"] (spRows28 K) := ⟨f13, _, ok_rows28 F13 G (H__law_draw.mono (by decide)) H__law_pick H__law_mixed, b13, k13, (PySem.W.mg_of X G0 a13)⟩
  have H__law_end : Has l.prog w K mg base "_law_end" 3 ["_law_rows_here", "_law_name"] spLEnd := ⟨f14, _, ok_lend F14 O_Ring H_end_of, b14, k14, (PySem.W.mg_of X G0 a14)⟩
  have H__law_rings_hold : Has l.prog w K mg base "_law_rings_hold" 3 ["_law_rows_here"] spHold := ⟨f15, _, ok_hold F15 G H_rings H_leads_round, b15, k15, (PySem.W.mg_of X G0 a15)⟩
  exact ok_law (k := 3) F16 G (H__law_rows.mono (by decide)) (H__law_end.mono (by decide)) (H_leads_round.mono (by decide)) (H_led_to.mono (by decide)) (H__law_rings_hold.mono (by decide)) (H_turned.mono (by decide)) (H_rings.mono (by decide)) (H__law_mixed.mono (by decide))
theorem walk {l : PySem.W.OpenLaw} {q : Program} {loose : List Str} {XP : (Str → Option Value) → Heap → Prop} {YP : World → Heap → Prop} {d : DefRec} {K : Params → PySem.W.Frag} (hn : l.most = some 63) (hdf : d.params.defaults = [])
    (hY : ∀ (w : World) (h : Heap), YP w h → (K w.params).In h)
    (F : ∀ (w : World) (mg : Str → Option Value) (fa : Addr) (h : Heap), (K w.params).In h → h.Ns mainGlobals mg → mg d.name = some (.ref fa) →
      ∃ fd : FuncData, (∀ (s : Shared) (u : Value), BindsTo s fd ⟨[u], []⟩ [("_law_script", u)]) ∧ ∀ base : Heap, (K w.params).In base → base.Ns mainGlobals mg → FnOk l.prog w (K w.params) mg base CX0 4 fa fd ["_law_script"] (spLaw (K w.params))) :
    PySem.W.WalkO q loose XP YP l.row.toRowW d [] (fun f vs => PySem.call f vs) :=
  L2.walk_of (n := 63) (k := 4) (x := "_law_script") (CX := fun _ => CX0) (sp := fun w => spLaw (K w.params)) hn (by decide) hdf ⟨rfl, by decide, by decide⟩ hY F (fun _ _ a ns hl hO hS => ⟨a, ns, rfl, scr_of hO hS, hl, fun _ => rfl⟩) fun _ _ _ _ _ z => z
end LW
open PySem PySem.W PyProof.Rows
set_option maxRecDepth 100000 in
set_option maxHeartbeats 0 in
theorem PySem.Challenge.cw_pagenames_k28_whole_rows_step_by_step_holds : PySem.Challenge.rw_pagenames_k28_whole_rows_step_by_step.Holds := by
  w_on; o_law; k_head; (case hw => w_witness2)
  k_fill
  refine LW.walk (l := PySem.Challenge.rw_pagenames_k28_whole_rows_step_by_step) rfl rfl (fun w h Y => PySem.W.kIn_of Y) ?F
  case F =>
    intro w mg fa h KX G hmg
    refine' LW.all_mk KX G hmg ?a1 ?l1 ?c1 ?k1 ?a2 ?l2 ?c2 ?k2 ?a3 ?l3 ?c3 ?k3 ?a4 ?l4 ?c4 ?k4 ?a5 ?l5 ?c5 ?k5 ?a6 ?l6 ?c6 ?k6 ?a7 ?l7 ?c7 ?k7 ?a8 ?l8 ?c8 ?k8 ?a9 ?l9 ?c9 ?k9 ?a10 ?l10 ?c10 ?k10 ?a11 ?l11 ?c11 ?k11 ?a12 ?l12 ?c12 ?k12 ?a13 ?l13 ?c13 ?k13 ?a14 ?l14 ?c14 ?k14 ?a15 ?l15 ?c15 ?k15 ?a16 ?l16 ?c16 ?k16 ?w1 ?w2 ?x1 ?y1 ?z1 ?z2 ?z3 ?z4 ?z5 ?z6 ?z7 ?z8 ?z9 ?z10 ?z11 ?z12 ?z13 ?z14 ?z15
    (case a1 => k_is)
    (case l1 => k_is)
    (case c1 => k_is)
    (case k1 => k_is)
    (case a2 => k_is)
    (case l2 => k_is)
    (case c2 => k_is)
    (case k2 => k_is)
    (case a3 => k_is)
    (case l3 => k_is)
    (case c3 => k_is)
    (case k3 => k_is)
    (case a4 => k_is)
    (case l4 => k_is)
    (case c4 => k_is)
    (case k4 => k_is)
    (case a5 => k_is)
    (case l5 => k_is)
    (case c5 => k_is)
    (case k5 => k_is)
    (case a6 => k_is)
    (case l6 => k_is)
    (case c6 => k_is)
    (case k6 => k_is)
    (case a7 => k_is)
    (case l7 => k_is)
    (case c7 => k_is)
    (case k7 => k_is)
    (case a8 => k_is)
    (case l8 => k_is)
    (case c8 => k_is)
    (case k8 => k_is)
    (case a9 => k_is)
    (case l9 => k_is)
    (case c9 => k_is)
    (case k9 => k_is)
    (case a10 => k_is)
    (case l10 => k_is)
    (case c10 => k_is)
    (case k10 => k_is)
    (case a11 => k_is)
    (case l11 => k_is)
    (case c11 => k_is)
    (case k11 => k_is)
    (case a12 => k_is)
    (case l12 => k_is)
    (case c12 => k_is)
    (case k12 => k_is)
    (case a13 => k_is)
    (case l13 => k_is)
    (case c13 => k_is)
    (case k13 => k_is)
    (case a14 => k_is)
    (case l14 => k_is)
    (case c14 => k_is)
    (case k14 => k_is)
    (case a15 => k_is)
    (case l15 => k_is)
    (case c15 => k_is)
    (case k15 => k_is)
    (case a16 => k_is)
    (case l16 => k_is)
    (case c16 => k_is)
    (case k16 => k_is)
    (case w1 => k_is)
    (case w2 => k_is)
    (case x1 => k_is)
    (case y1 => k_exc)
    (case z1 => k_is)
    (case z2 => k_is)
    (case z3 => k_is)
    (case z4 => k_is)
    (case z5 => k_is)
    (case z6 => k_is)
    (case z7 => k_is)
    (case z8 => k_is)
    (case z9 => k_is)
    (case z10 => k_is)
    (case z11 => k_is)
    (case z12 => k_is)
    (case z13 => k_is)
    (case z14 => k_is)
    (case z15 => k_is)
