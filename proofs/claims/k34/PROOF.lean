import PyProof.Rows.All
import Wide.All
import OpenK.AllK
import Wide.FinOn
import Lean
import PyProof.EqAt
import PyProof.EqKinds
import PyProof.TupleCall
import PySem.Challenge.RW_pagenames_k34_whole_things_bent
set_option Elab.async false
set_option linter.all false
set_option maxRecDepth 100000
namespace L2
open PySem PySem.Spec PyProof.Rows
abbrev Key := Sum Int Str
def keyIs : Key → Value → Bool
  | .inl k, v => Value.isInt k v
  | .inr x, v => Value.isStrOf x v
def keyH (w : World) : Key → Int
  | .inl k => hashInt k
  | .inr x => hashStr w x
theorem keyIs_shape : ∀ {k : Key} {v : Value}, keyIs k v = true → (∃ i t, k = Sum.inl i ∧ v = Value.int i t) ∨ (∃ x t, k = Sum.inr x ∧ v = Value.str x t)
  | .inl i, v, h => by
    obtain ⟨t, e⟩ := Value.isInt_shape (k := i) (v := v) h
    exact .inl ⟨i, t, rfl, e⟩
  | .inr x, v, h => by
    obtain ⟨t, e⟩ := Value.isStrOf_shape (x := x) (v := v) h
    exact .inr ⟨x, t, rfl, e⟩
theorem keyIs_int (i : Int) (t : Tok) : keyIs (.inl i) (.int i t) = true := by simp [keyIs, Value.isInt]
theorem keyIs_str (x : Str) (t : Tok) : keyIs (.inr x) (.str x t) = true := by simp [keyIs, Value.isStrOf]
theorem key_ll (a b : Int) : decide ((Sum.inl a : Key) = Sum.inl b) = (a == b) := by
  by_cases e : a = b
  · subst e; simp
  · have h : ¬ (Sum.inl a : Key) = Sum.inl b := fun q => e (Sum.inl.inj q)
    rw [decide_eq_false h]
    exact (beq_eq_false_iff_ne.mpr e).symm
theorem key_rr (a b : Str) : decide ((Sum.inr a : Key) = Sum.inr b) = decide (a = b) := by
  by_cases e : a = b
  · subst e; simp
  · have h : ¬ (Sum.inr a : Key) = Sum.inr b := fun q => e (Sum.inr.inj q)
    rw [decide_eq_false h, decide_eq_false e]
theorem key_lr (a : Int) (b : Str) : decide ((Sum.inl a : Key) = Sum.inr b) = false := decide_eq_false (fun q => nomatch q)
theorem key_rl (a : Str) (b : Int) : decide ((Sum.inr a : Key) = Sum.inl b) = false := decide_eq_false (fun q => nomatch q)
def mixKind (prog : Program) (w : World) : PySem.KeyKind prog w Key where
  is := keyIs
  hash := keyH w
  inj := fun v a b ha hb => by
    rcases keyIs_shape ha with ⟨i, t, rfl, rfl⟩ | ⟨x, t, rfl, rfl⟩
    · rcases keyIs_shape hb with ⟨j, u, rfl, e⟩ | ⟨y, u, rfl, e⟩
      · injection e with e1 _; rw [e1]
      · exact nomatch e
    · rcases keyIs_shape hb with ⟨j, u, rfl, e⟩ | ⟨y, u, rfl, e⟩
      · exact nomatch e
      · injection e with e1 _; rw [e1]
  byValue := fun k v h => by
    rcases keyIs_shape h with ⟨i, t, rfl, rfl⟩ | ⟨x, t, rfl, rfl⟩ <;> rfl
  pyHash := fun hv h => by
    rcases keyIs_shape hv with ⟨i, t, rfl, rfl⟩ | ⟨x, t, rfl, rfl⟩
    · exact wpAny_pyHash_int h
    · exact wpAny_pyHash_str h
  eqBool := fun hu hv h => by
    rcases keyIs_shape hu with ⟨i, t, rfl, rfl⟩ | ⟨x, t, rfl, rfl⟩
    · rcases keyIs_shape hv with ⟨j, u, rfl, rfl⟩ | ⟨y, u, rfl, rfl⟩
      · rw [key_ll] at h; exact wpAny_eqBool_int h
      · rw [key_lr] at h; exact SeqAt.EqAt.int_str i t y u _ _ _ _ h
    · rcases keyIs_shape hv with ⟨j, u, rfl, rfl⟩ | ⟨y, u, rfl, rfl⟩
      · rw [key_rl] at h; exact SeqAt.EqAt.str_int x t j u _ _ _ _ h
      · rw [key_rr] at h; exact wpAny_eqBool_str h
  «strs» := fun k x t v h => by
    rcases keyIs_shape h with ⟨i, u, rfl, e⟩ | ⟨y, u, rfl, e⟩
    · exact nomatch e
    · injection e with e1 _
      subst e1
      cases v <;> rfl
theorem mixKind_int (prog : Program) (w : World) (i : Int) (t : Tok) : (mixKind prog w).is (.inl i) (.int i t) = true := keyIs_int i t
theorem mixKind_str (prog : Program) (w : World) (x : Str) (t : Tok) : (mixKind prog w).is (.inr x) (.str x t) = true := keyIs_str x t
end L2
namespace L2
open PySem PySem.Spec PyProof.Rows
inductive V where
  | non | bl (b : Bool) | int (i : Int) | str (x : Str) | byt (b : Array UInt8) | flt (b : UInt64) | ref (a : Addr) | ty (n : String)
  deriving DecidableEq
def RelV : V → Value → Prop
  | .non, u => u = Value.none
  | .bl b, u => u = Value.bool b
  | .int i, u => ∃ t, u = Value.int i t
  | .str x, u => ∃ t, u = Value.str x t
  | .byt b, u => ∃ t, u = Value.bytes b t
  | .flt b, u => ∃ t, u = Value.float b t
  | .ref a, u => u = Value.ref a
  | .ty n, u => u = Value.type n
abbrev Vals : List V → List Value → Prop := Paired RelV
theorem Vals.length {xs : List V} {us : List Value} (r : Vals xs us) : xs.length = us.length := Paired.length r
theorem Vals.get : ∀ {xs : List V} {us : List Value} {i : Nat} {x : V}, Vals xs us → xs[i]? = some x → ∃ u, us[i]? = some u ∧ RelV x u
  | _, _, _, _, .nil, e => by simp at e
  | _, _, 0, _, .cons r _, e => by simp at e; subst e; exact ⟨_, rfl, r⟩
  | _, _, i + 1, x, .cons _ t, e => by
    obtain ⟨u, h1, h2⟩ := Vals.get (i := i) (x := x) t (by simpa using e)
    exact ⟨u, by simpa using h1, h2⟩
theorem Vals.set {x : V} {u : Value} (r : RelV x u) : ∀ {xs : List V} {us : List Value} (i : Nat), Vals xs us → Vals (xs.set i x) (us.set i u)
  | _, _, _, .nil => .nil
  | _, _, 0, .cons _ t => .cons r t
  | _, _, i + 1, .cons q t => .cons q (Vals.set r i t)
theorem Vals.append : ∀ {xs ys : List V} {us ws : List Value}, Vals xs us → Vals ys ws → Vals (xs ++ ys) (us ++ ws)
  | _, _, _, _, .nil, s => s
  | _, _, _, _, .cons r t, s => .cons r (Vals.append t s)
theorem Vals.take : ∀ {xs : List V} {us : List Value} (n : Nat), Vals xs us → Vals (xs.take n) (us.take n)
  | _, _, 0, _ => .nil
  | _, _, _ + 1, .nil => .nil
  | _, _, n + 1, .cons r t => .cons r (Vals.take n t)
theorem Vals.drop : ∀ {xs : List V} {us : List Value} (n : Nat), Vals xs us → Vals (xs.drop n) (us.drop n)
  | _, _, 0, r => r
  | _, _, _ + 1, .nil => .nil
  | _, _, n + 1, .cons _ t => Vals.drop n t
def RelO : Option V → Option Value → Prop
  | some v, some u => RelV v u
  | none, none => True
  | _, _ => False
def KV {κ : Type} : List (κ × V) → List (κ × Value) → Prop := Paired fun (p : κ × V) (q : κ × Value) => p.1 = q.1 ∧ RelV p.2 q.2
def kV : Key → V
  | .inl i => .int i
  | .inr x => .str x
inductive HO where
  /-- a list -/
  | lst (xs : List V)
  /-- a tuple (never changes) -/
  | tup (xs : List V)
  /-- a dict whose keys are ints and texts; one whose keys are tuples of ints and texts (the empty one is both) -/
  | dK (kvs : List (Key × V)) | dT (kvs : List (List Key × V))
  /-- a set of ints: its members, its size -/
  | set (S : Int → Bool) (n : Nat)
  /-- an instance of the class at C, its dict at dx, its attributes -/
  | ins (C dx : Addr) (fs : List (Str × V))
  /-- the dict of the instance at x -/
  | own (x : Addr)
  /-- the dict of an exception -/
  | xd (fs : List (Str × V))
  /-- a bound method, f of x -/
  | met (f x : Addr)
  /-- a range object lo, lo + 1, .. below hi -/
  | rng (lo hi : Int)
  /-- a thing that is known to the object (the script; a dict while a loop walks it): read, never written while it is so -/
  | frz (o : Obj) (u : HO)
  /-- a code object's table -/
  | tbl (ps : Array Value)
  /-- any other thing, by what is true of its one object (a def of one's own: SetO a S n := HO.ext fun h => ..) -/
  | ext (φ : Heap → Prop)
def IsTupN (h : Heap) (a : Addr) (items : Array Value) : Prop := IsTup h a items ∧ ∃ o, h.get? a = some o ∧ o.dict = none
theorem IsTupN.new (h : Heap) (xs : Array Value) : IsTupN (h.push { cls := .type "tuple", data := .seq xs }) h.objs.size xs := ⟨IsTup.new h xs, _, Heap.get?_push_size _ rfl, rfl⟩
abbrev Hp := Addr → Option HO
def upd (H : Hp) (a : Addr) (o : HO) : Hp := fun b => if b = a then some o else H b
theorem upd_same {H : Hp} {a : Addr} {o : HO} : upd H a o a = some o := by unfold upd; rw [if_pos rfl]
theorem upd_ne {H : Hp} {a b : Addr} {o : HO} (h : b ≠ a) : upd H a o b = H b := by unfold upd; rw [if_neg h]
theorem ne_of_none {H : Hp} {a b : Addr} {o : HO} (h : H a = some o) (h' : H b = none) : a ≠ b := by
  intro e; subst e; rw [h] at h'; cases h'
section
variable (P : Program) (w : World)
def ObjOk (H : Hp) (h : Heap) (a : Addr) : HO → Prop
  | .lst xs => xs.length ≤ sizeLine ∧ ∃ (its : List Value) (n : Nat), Vals xs its ∧ h.get? a = some { cls := .type "list", data := .seq its.toArray n }
  | .tup xs => xs.length ≤ sizeLine ∧ ∃ its : List Value, Vals xs its ∧ IsTupN h a its.toArray
  | .dK kvs => kvs.length ≤ sizeLine ∧ (a == sysModules) = false ∧ ∃ vs, KV kvs vs ∧ h.DictOf (mixKind P w) a vs
  | .dT kvs => kvs.length ≤ sizeLine ∧ (a == sysModules) = false ∧ ∃ xs : List (List Key × Addr × Value),
      Paired (fun (p : List Key × V) (q : List Key × Addr × Value) => p.1 = q.1 ∧ H q.2.1 = some (.tup (p.1.map kV)) ∧ RelV p.2 q.2.2) kvs xs ∧
      ∃ o es ep, h.get? a = some o ∧ o.ExactDict ∧ o.data = .dict es ep ∧ es.toList = xs.map (entryOfKey (tupleKind (mixKind P w))) ∧ (xs.map (·.1)).Nodup
  | .set S n => h.SetOf (intKind P w) a S n
  | .ins C dx fs => H dx = some (.own a) ∧ fs.length ≤ 1000 ∧ dx ≠ a ∧ h.get? a = some (PySem.W.instObj C dx) ∧
      ∃ mA, h.Ns1 dx mA ∧ (∀ f, RelO (fs.lookup f) (mA f)) ∧ PySem.Within mA (fs.map (·.1))
  | .own _ => ∃ o, h.get? a = some o
  | .xd fs => ∃ mA, h.Ns1 a mA ∧ ∀ f, RelO (fs.lookup f) (mA f)
  | .rng lo hi => ∃ t u v, h.get? a = some { cls := .type "range", data := .fields #[.int lo t, .int hi u, .int 1 v] }
  | .frz o u => h.get? a = some o ∧ ObjOk H h a u
  | .tbl ps => h.get? a = some { cls := .none, data := .fields ps }
  | .met f x => h.get? a = some (PySem.W.methodObj (.ref f) (.ref x))
  | .ext φ => φ h ∧ (∃ o, h.get? a = some o) ∧ ∀ h1 h2 : Heap, φ h1 → (∀ o, h1.get? a = some o → h2.get? a = some o) → φ h2
def HOk (H : Hp) (h : Heap) : Prop := ∀ a o, H a = some o → ObjOk P w H h a o
end
section
variable {P : Program} {w : World} {H H' : Hp} {h h' : Heap} {a : Addr} {o : HO}
theorem ObjOk.lt (x : ObjOk P w H h a o) : a < h.objs.size := by
  cases o with
  | lst xs => obtain ⟨_, _, _, _, e⟩ := x; exact Heap.lt_size e
  | tup xs => obtain ⟨_, _, _, p, _⟩ := x; exact p.lt
  | dK kvs => obtain ⟨_, _, _, _, o, _, _, e, _⟩ := x; exact Heap.lt_size e
  | dT kvs => obtain ⟨_, _, _, _, o, _, _, e, _⟩ := x; exact Heap.lt_size e
  | set S n => obtain ⟨o, _, _, _, e, _⟩ := x; exact Heap.lt_size e
  | ins C dx fs => obtain ⟨_, _, _, e, _⟩ := x; exact Heap.lt_size e
  | own y => obtain ⟨_, e⟩ := x; exact Heap.lt_size e
  | xd fs => obtain ⟨_, ⟨_, _, _, e, _⟩, _⟩ := x; exact Heap.lt_size e
  | rng lo hi => obtain ⟨_, _, _, e⟩ := x; exact Heap.lt_size e
  | frz ob u => obtain ⟨e, _⟩ := x; exact Heap.lt_size e
  | tbl ps => exact Heap.lt_size (show h.get? a = some _ from x)
  | met f y => exact Heap.lt_size (show h.get? a = some _ from x)
  | ext φ => obtain ⟨_, ⟨_, e⟩, _⟩ := x; exact Heap.lt_size e
theorem Paired.mapP {α β : Type} {F G : α → β → Prop} : ∀ {l₁ : List α} {l₂ : List β}, Paired F l₁ l₂ → (∀ a b, F a b → G a b) → Paired G l₁ l₂
  | _, _, .nil, _ => .nil
  | _, _, .cons r t, f => .cons (f _ _ r) (Paired.mapP t f)
theorem ObjOk.stay (x : ObjOk P w H h a o) (k : ∀ b u, (b = a ∨ H b = some (.own a)) → h.get? b = some u → h'.get? b = some u)
    (ho : ∀ b, H b = some (.own a) → H' b = some (.own a)) (ht : ∀ b xs, H b = some (.tup xs) → H' b = some (.tup xs)) : ObjOk P w H' h' a o := by
  induction o with
  | lst xs => obtain ⟨z, its, n, r, e⟩ := x; exact ⟨z, its, n, r, k _ _ (.inl rfl) e⟩
  | tup xs => obtain ⟨z, its, r, ⟨ob, e, c⟩, od, e', c'⟩ := x; exact ⟨z, its, r, ⟨ob, k _ _ (.inl rfl) e, c⟩, od, k _ _ (.inl rfl) e', c'⟩
  | dK kvs => obtain ⟨z, y, vs, r, ob, es, ep, e, c⟩ := x; exact ⟨z, y, vs, r, ob, es, ep, k _ _ (.inl rfl) e, c⟩
  | dT kvs =>
    obtain ⟨z, y, xs, r, ob, es, ep, e, c⟩ := x
    exact ⟨z, y, xs, Paired.mapP r fun p q z => ⟨z.1, ht _ _ z.2.1, z.2.2⟩, ob, es, ep, k _ _ (.inl rfl) e, c⟩
  | set S n => obtain ⟨ob, es, ep, t, e, c⟩ := x; exact ⟨ob, es, ep, t, k _ _ (.inl rfl) e, c⟩
  | ins C dx fs =>
    obtain ⟨d, z, ne, e, mA, ⟨od, es, ep, e2, c⟩, r⟩ := x
    exact ⟨ho _ d, z, ne, k _ _ (.inl rfl) e, mA, ⟨od, es, ep, k _ _ (.inr d) e2, c⟩, r⟩
  | own y => obtain ⟨ob, e⟩ := x; exact ⟨ob, k _ _ (.inl rfl) e⟩
  | xd fs => obtain ⟨mA, ⟨od, es, ep, e, c⟩, r⟩ := x; exact ⟨mA, ⟨od, es, ep, k _ _ (.inl rfl) e, c⟩, r⟩
  | rng lo hi => obtain ⟨t, u, v, e⟩ := x; exact ⟨t, u, v, k _ _ (.inl rfl) e⟩
  | frz ob u ih => obtain ⟨e, q⟩ := x; exact ⟨k _ _ (.inl rfl) e, ih q⟩
  | tbl ps =>
    have e : h.get? a = some { cls := .none, data := .fields ps } := x
    show h'.get? a = some { cls := .none, data := .fields ps }
    exact k a _ (.inl rfl) e
  | met f y =>
    have e : h.get? a = some (PySem.W.methodObj (.ref f) (.ref y)) := x
    show h'.get? a = some (PySem.W.methodObj (.ref f) (.ref y))
    exact k a _ (.inl rfl) e
  | ext φ => obtain ⟨p, ⟨o, e⟩, st⟩ := x; exact ⟨st _ _ p fun o q => k _ _ (.inl rfl) q, ⟨o, k _ _ (.inl rfl) e⟩, st⟩
theorem HOk.lt (x : HOk P w H h) (e : H a = some o) : a < h.objs.size := (x a o e).lt
theorem HOk.fresh (x : HOk P w H h) (e : h.objs.size ≤ a) : H a = none := by
  cases q : H a with
  | none => rfl
  | some u => exact absurd (Nat.lt_of_lt_of_le (x.lt q) e) (Nat.lt_irrefl _)
theorem HOk.kept (x : HOk P w H h) (k : ∀ b u, h.get? b = some u → h'.get? b = some u) : HOk P w H h' := fun a o e =>
  (x a o e).stay (fun b u _ q => k b u q) (fun _ q => q) fun _ _ q => q
theorem HOk.laid (x : HOk P w H h) (k : ∀ b u, h.get? b = some u → h'.get? b = some u) (hp : h.objs.size ≤ a) (new : ObjOk P w (upd H a o) h' a o) : HOk P w (upd H a o) h' := fun b u e => by
  have hn := x.fresh hp
  by_cases hb : b = a
  · subst hb; rw [upd_same] at e; cases e; exact new
  · rw [upd_ne hb] at e
    exact (x b u e).stay (fun c v _ q => k c v q) (fun c q => by rw [upd_ne (ne_of_none q hn)]; exact q) fun c xs q => by rw [upd_ne (ne_of_none q hn)]; exact q
end
def Rd (H : Hp) (a : Addr) (u : HO) : Prop := H a = some u ∨ ∃ o, H a = some (.frz o u)
theorem Rd.of {H : Hp} {a : Addr} {u : HO} (h : H a = some u) : Rd H a u := .inl h
theorem Rd.ok {P : Program} {w : World} {H : Hp} {h : Heap} {a : Addr} {u : HO} (r : Rd H a u) (x : HOk P w H h) : ObjOk P w H h a u := by
  rcases r with r | ⟨o, r⟩
  · exact x a u r
  · obtain ⟨_, q⟩ := x a _ r
    exact q
def Mut : Option HO → Prop
  | some (.lst _) => True
  | some (.dK _) => True
  | some (.dT _) => True
  | some (.set _ _) => True
  | some (.ins _ _ _) => True
  | some (.ext _) => True
  | _ => False
section
variable {P : Program} {w : World} {H : Hp} {h h' : Heap} {x e : Addr} {o' : HO}
theorem HOk.write (ok : HOk P w H h) (mu : Mut (H x)) (he : e = x ∨ H e = some (.own x)) (k : ∀ b u, b ≠ e → h.get? b = some u → h'.get? b = some u) (heo : ∃ u, h'.get? e = some u)
    (new : ObjOk P w (upd H x o') h' x o') : HOk P w (upd H x o') h' := fun b u q => by
  have nown : ∀ c y, H c = some (.own y) → c ≠ x := fun c y r z => by subst z; rw [r] at mu; exact mu
  have ntup : ∀ c xs, H c = some (.tup xs) → c ≠ x := fun c xs r z => by subst z; rw [r] at mu; exact mu
  by_cases hb : b = x
  · subst hb; rw [upd_same] at q; cases q; exact new
  · rw [upd_ne hb] at q
    by_cases hbe : b = e
    · have q' : H b = some (.own x) := by
        rcases he with z | z
        · exact absurd (hbe.trans z) hb
        · rw [hbe]; exact z
      rw [q] at q'; cases q'
      obtain ⟨v, hv⟩ := heo
      exact ⟨v, by rw [hbe]; exact hv⟩
    · refine (ok b u q).stay (fun c v hc r => k c v ?_ r) (fun c r => by rw [upd_ne (nown c b r)]; exact r) fun c xs r => by rw [upd_ne (ntup c xs r)]; exact r
      rcases hc with rfl | hc
      · exact hbe
      · rintro rfl
        rcases he with z | z
        · exact nown c b hc z
        · rw [hc] at z; cases z; exact hb rfl
end
structure Un (fs ex : List Addr) (H H' : Hp) (h h' : Heap) : Prop where
  keep : ∀ b o, h.get? b = some o → H b = none → b ∉ fs → b ∉ ex → h'.get? b = some o
  slot : ∀ b o, h.get? b = some o → H b = none → b ∈ fs → b ∉ ex → ∃ sl, h'.get? b = some { o with slots := sl }
  free : ∀ b o, h.get? b = some o → H b = none → b ∉ ex → H' b = none
  there : ∀ b o, h.get? b = some o → b ∉ ex → ∃ o', h'.get? b = some o'
  tups : ∀ b xs, H b = some (.tup xs) → H' b = some (.tup xs)
  frzs : ∀ b o u, H b = some (.frz o u) → H' b = some (.frz o u)
  tbls : ∀ b ps, H b = some (.tbl ps) → ∃ more, H' b = some (.tbl (ps ++ more))
section
variable {fs fs' ex ex' : List Addr} {H H1 H2 : Hp} {h h1 h2 h' : Heap} {a x e : Addr} {o : HO}
theorem Un.any (u : Un fs ex H H1 h h1) {b : Addr} {ob : Obj} (q : h.get? b = some ob) (n : H b = none) (hx : b ∉ ex) : ∃ sl, h1.get? b = some { ob with slots := sl } := by
  by_cases hb : b ∈ fs
  · exact u.slot b ob q n hb hx
  · exact ⟨ob.slots, u.keep b ob q n hb hx⟩
theorem Un.trans (a : Un fs ex H H1 h h1) (b : Un fs ex H1 H2 h1 h2) : Un fs ex H H2 h h2 where
  keep := fun c ob q n hc hx => b.keep c ob (a.keep c ob q n hc hx) (a.free c ob q n hx) hc hx
  slot := fun c ob q n hc hx => by
    obtain ⟨sl, e1⟩ := a.slot c ob q n hc hx
    obtain ⟨sl', e2⟩ := b.slot c _ e1 (a.free c ob q n hx) hc hx
    exact ⟨sl', e2⟩
  free := fun c ob q n hx => by
    obtain ⟨o', e1⟩ := a.there c ob q hx
    exact b.free c o' e1 (a.free c ob q n hx) hx
  there := fun c ob q hx => by
    obtain ⟨o', e1⟩ := a.there c ob q hx
    exact b.there c o' e1 hx
  tups := fun c xs q => b.tups c xs (a.tups c xs q)
  frzs := fun c ob xs q => b.frzs c ob xs (a.frzs c ob xs q)
  tbls := fun c ps q => by
    obtain ⟨m1, e1⟩ := a.tbls c ps q
    obtain ⟨m2, e2⟩ := b.tbls c _ e1
    exact ⟨m1 ++ m2, by rw [e2, Array.append_assoc]⟩
theorem Un.kept (k : ∀ b u, h.get? b = some u → h'.get? b = some u) : Un fs ex H H h h' :=
  ⟨fun b ob q _ _ _ => k b ob q, fun b ob q _ _ _ => ⟨ob.slots, k b ob q⟩, fun _ _ _ n _ => n, fun b ob q _ => ⟨ob, k b ob q⟩, fun _ _ q => q, fun _ _ _ q => q, fun _ ps q => ⟨#[], by rw [q]; simp⟩⟩
theorem Un.refl : Un fs ex H H h h := Un.kept fun _ _ q => q
theorem Un.laid (k : ∀ b u, h.get? b = some u → h'.get? b = some u) (hp : h.objs.size ≤ a) (hn : H a = none) : Un fs ex H (upd H a o) h h' where
  keep := fun b u q _ _ _ => k b u q
  slot := fun b u q _ _ _ => ⟨u.slots, k b u q⟩
  free := fun b u q n _ => by rw [upd_ne (Nat.ne_of_lt (Nat.lt_of_lt_of_le (Heap.lt_size q) hp))]; exact n
  there := fun b u q _ => ⟨u, k b u q⟩
  tups := fun b xs q => by rw [upd_ne (ne_of_none q hn)]; exact q
  frzs := fun b u xs q => by rw [upd_ne (ne_of_none q hn)]; exact q
  tbls := fun b ps q => ⟨#[], by rw [upd_ne (ne_of_none q hn), q]; simp⟩
theorem Un.write (mu : Mut (H x)) (he : e = x ∨ H e = some (.own x)) (k : ∀ b u, b ≠ e → h.get? b = some u → h'.get? b = some u) (heo : ∃ u, h'.get? e = some u) : Un fs ex H (upd H x o) h h' := by
  have hx : ∀ b, H b = none → b ≠ x := fun b n z => by subst z; rw [n] at mu; exact mu
  have hb : ∀ b, H b = none → b ≠ e := fun b n z => by
    subst z
    rcases he with r | r
    · exact hx b n r
    · rw [n] at r; cases r
  have hm : ∀ b u, H b = some u → ¬ Mut (some u) → b ≠ x := fun b u q nm z => by subst z; rw [q] at mu; exact nm mu
  refine ⟨fun b u q n _ _ => k b u (hb b n) q, fun b u q n _ _ => ⟨u.slots, k b u (hb b n) q⟩, fun b u q n _ => by rw [upd_ne (hx b n)]; exact n, fun b u q _ => ?_,
    fun b xs q => by rw [upd_ne (hm b _ q fun z => z)]; exact q, fun b u xs q => by rw [upd_ne (hm b _ q fun z => z)]; exact q, fun b ps q => ⟨#[], by rw [upd_ne (hm b _ q fun z => z), q]; simp⟩⟩
  by_cases hbe : b = e
  · subst hbe; exact heo
  · exact ⟨u, k b u hbe q⟩
theorem Un.mono (u : Un fs ex H H1 h h1) (hs : ∀ b ∈ fs, b ∈ fs') (hx : ∀ b ∈ ex, b ∈ ex') : Un fs' ex' H H1 h h1 :=
  ⟨fun b ob q n hb he => u.keep b ob q n (fun z => hb (hs b z)) fun z => he (hx b z), fun _ _ q n _ he => u.any q n fun z => he (hx _ z), fun b ob q n he => u.free b ob q n fun z => he (hx b z), fun b ob q he => u.there b ob q fun z => he (hx b z), u.tups, u.frzs, u.tbls⟩
end
def trk (h : Heap) (H : Hp) : List Addr := (List.range h.objs.size).filter fun a => (H a).isSome
def hidT (h : Heap) (H : Hp) : Heap := PySem.W.hideAll h (trk h H)
theorem hidT_size (h : Heap) (H : Hp) : (hidT h H).objs.size = h.objs.size := PySem.W.hideAll_size _ _
theorem hidT_get {h : Heap} {H : Hp} {b : Addr} {o : Obj} (e : h.get? b = some o) (n : H b = none) : (hidT h H).get? b = some o :=
  PySem.W.hideAll_get _ e fun hm => by
    have q : (H b).isSome = true := (List.mem_filter.mp hm).2
    rw [n] at q; simp at q
theorem of_hidT {h : Heap} {H : Hp} {b : Addr} {o : Obj} (e : (hidT h H).get? b = some o) : h.get? b = some o ∧ H b = none := by
  have e' : h.get? b = some o := PySem.W.of_hideAll (trk h H) e
  refine ⟨e', ?_⟩
  cases q : H b with
  | none => rfl
  | some x =>
    have hm : b ∈ trk h H := List.mem_filter.mpr ⟨List.mem_range.mpr (Heap.lt_size e'), by simp [q]⟩
    have z : (hidT h H).get? b = none := PySem.W.hideAll_none (trk h H) hm
    rw [z] at e; cases e
def allNews (g h : Heap) (L : Addr) : List (Addr × Obj) := (List.range h.objs.size).filterMap fun a => if a = L ∨ (g.get? a).isSome = true then none else (h.get? a).map fun o => (a, o)
def rest (g h : Heap) (L d : Addr) : List (Addr × Obj) := (allNews g h L).filter fun p => decide (p.1 ≠ d)
end L2
namespace L2
open PySem PySem.Spec PyProof.Rows
structure Mod (K : PySem.W.Frag) (mg : Str → Option Value) (base : Heap) : Prop where
  kin : K.In base
  glob : base.Ns mainGlobals mg
  blt : ∃ mb, base.Ns builtinsNs mb ∧ ∀ x : Str, x ≠ "__name__" → mb x = bootBuiltins x
  nolimit : base.NoLimit
structure Cx where
  prog : Program
  w : World
  K : PySem.W.Frag
  mg : Str → Option Value
  base : Heap
  A : Around
  N : List Str
  s₀ : Shared
  H₀ : Hp
  env : Env
  outer : List Env
  stack : List Env
  ex : List Addr
  fn : Str → Bool
  calm : Bool
  pn : List (Addr × Obj)
  xe : Value → Shared → Prop
def frs (l : List Env) : List Addr := l.filterMap (·.frame)
abbrev Cx.fs (X : Cx) : List Addr := frs X.outer
def Vis (sc : Scope) (x : Str) : Prop := sc.names.lookup x = some .local ∨ sc.names.lookup x = some .cell ∨ sc.names.lookup x = some .free
def Loc (sc : Scope) (x : Str) : Prop := sc.names.lookup x = some .local ∨ sc.names.lookup x = some .cell
def Look (env : Env) (h : Heap) (m : Str → Option Value) (x : Str) (u : Value) : Prop :=
  (env.kindOf x = some .local ∧ m x = some u) ∨ ((env.kindOf x = some .cell ∨ env.kindOf x = some .free) ∧ ∃ c, env.cells.lookup x = some c ∧ h.IsCell c (some u))
structure Cx.Ok (X : Cx) : Prop where
  mod : Mod X.K X.mg X.base
  kind : X.env.scope.kind = .function
  glob : X.env.globals = mainGlobals
  blt : X.env.builtins = builtinsNs
  above : X.s₀.heap.objs.size ≤ X.env.locals
  inj : ∀ x y c, X.env.cells.lookup x = some c → X.env.cells.lookup y = some c → x = y
  has : ∀ x, (X.env.kindOf x = some .cell ∨ X.env.kindOf x = some .free) → ∃ c, X.env.cells.lookup x = some c
  cab : ∀ x c, X.fn x = true → X.env.cells.lookup x = some c → X.s₀.heap.objs.size ≤ c
  hd : X.calm = true → X.A.handled = none
  frames : X.A.frames = some X.stack
  stk : X.stack = X.outer ∨ (X.stack = X.env :: X.outer ∧ X.env.frame = some X.env.locals)
  exf : ∀ b ∈ X.ex, b ≠ X.env.locals ∧ ∀ x c, X.env.cells.lookup x = some c → c ≠ b
  bs : ∀ b o, X.base.get? b = some o → X.s₀.heap.get? b = some o ∧ X.H₀ b = none
  bsz : X.base.objs.size ≤ X.s₀.heap.objs.size
  noex : ∀ b o, X.base.get? b = some o → b ∉ X.ex
  exfs : ∀ b ∈ X.ex, b ∉ X.fs
  funs : X.s₀.heap.FunFrames X.base X.outer
  frf : ∀ b ∈ X.fs, X.H₀ b = none
structure Inv (X : Cx) (pins : List (Addr × Obj)) (σ : List (Option V)) (H : Hp) (s : Shared) : Prop where
  ok : X.Ok
  os : s.os = X.s₀.os
  bare : AllBare s.gens
  base : Un X.fs X.ex X.H₀ H X.s₀.heap s.heap
  loc : ∃ m, s.heap.Ns X.env.locals m ∧ ∀ (i : Nat) (x : Str) (v : V), X.N[i]? = some x → σ[i]? = some (some v) → Vis X.env.scope x → ∃ u, RelV v u ∧ Look X.env s.heap m x u
  cell : ∀ x c, X.env.cells.lookup x = some c → ∃ v, s.heap.IsCell c v
  free : H X.env.locals = none
  freeC : ∀ x c, X.env.cells.lookup x = some c → H c = none
  pin : ∀ p ∈ X.pn ++ pins, s.heap.get? p.1 = some p.2 ∧ H p.1 = none ∧ p.1 ≠ X.env.locals ∧ p.1 ∉ X.fs ∧ ∀ v, p.2.data ≠ .cell v
  hok : HOk X.prog X.w H s.heap
  len : σ.length = X.N.length
section
variable {X : Cx} {pins : List (Addr × Obj)} {σ : List (Option V)} {H H' : Hp} {s : Shared} {h' : Heap}
theorem Cx.Ok.nofr (ok : X.Ok) {b : Addr} {o : Obj} (e : X.base.get? b = some o) : b ∉ X.fs := fun hb => by
  have := (ok.funs.mem hb).1
  rw [e] at this; cases this
theorem Inv.bs (I : Inv X pins σ H s) : ∀ b o, X.base.get? b = some o → s.heap.get? b = some o ∧ H b = none := fun b o e =>
  ⟨I.base.keep b o (I.ok.bs b o e).1 (I.ok.bs b o e).2 (I.ok.nofr e) (I.ok.noex b o e), I.base.free b o (I.ok.bs b o e).1 (I.ok.bs b o e).2 (I.ok.noex b o e)⟩
theorem Inv.bk (I : Inv X pins σ H s) : ∀ b o, X.base.get? b = some o → s.heap.get? b = some o := fun b o e => (I.bs b o e).1
theorem Inv.mod (I : Inv X pins σ H s) : Mod X.K X.mg X.base := I.ok.mod
theorem Inv.kIn (I : Inv X pins σ H s) : X.K.In s.heap := I.ok.mod.kin.keeps I.bk
theorem Inv.nolimit (I : Inv X pins σ H s) : s.heap.NoLimit := I.ok.mod.nolimit.keeps I.bk
theorem Inv.fr (I : Inv X pins σ H s) : ∃ m, Fr X.base X.env.locals s.heap m :=
  let ⟨m, hn, _⟩ := I.loc
  ⟨m, hn, I.bk, Nat.le_trans I.ok.bsz I.ok.above⟩
theorem Inv.lt (I : Inv X pins σ H s) : X.env.locals < s.heap.objs.size := let ⟨_, hn, _⟩ := I.loc; hn.lt
theorem Inv.sz (I : Inv X pins σ H s) : X.s₀.heap.objs.size ≤ s.heap.objs.size := Nat.le_trans I.ok.above (Nat.le_of_lt I.lt)
theorem Inv.nofs (I : Inv X pins σ H s) {a : Addr} (h : s.heap.objs.size ≤ a) : a ∉ X.fs := fun hb => by
  obtain ⟨_, o, ho, _⟩ := I.ok.funs.mem hb
  exact absurd (Nat.lt_of_lt_of_le (Heap.lt_size ho) (Nat.le_trans I.sz h)) (Nat.lt_irrefl _)
theorem Inv.cne (I : Inv X pins σ H s) : ∀ x c, X.env.cells.lookup x = some c → c ≠ X.env.locals := fun x c e z => by
  obtain ⟨v, o, ho, hd⟩ := I.cell x c e
  obtain ⟨m, ⟨o', es, ep, ho', hd', _⟩, _⟩ := I.loc
  rw [z, ho'] at ho; cases ho; rw [hd'] at hd; cases hd
theorem Inv.funs (I : Inv X pins σ H s) : s.heap.FunFrames X.base X.outer := by
  have all : ∀ (l : List Env), (∀ b ∈ frs l, b ∈ X.fs) → X.s₀.heap.FunFrames X.base l → s.heap.FunFrames X.base l := by
    intro l
    induction l with
    | nil => intro _ _; trivial
    | cons env r ih =>
      intro hs hl
      obtain ⟨hk, ⟨L, o, hf, hn, ho, hd⟩, hr⟩ := hl
      have hL : L ∈ X.fs := hs L (by unfold frs; rw [List.filterMap_cons, hf]; exact List.mem_cons_self)
      obtain ⟨sl, e⟩ := I.base.slot L o ho (I.ok.frf L hL) hL fun z => I.ok.exfs L z hL
      exact ⟨hk, ⟨L, _, hf, hn, e, hd⟩, ih (fun b hb => hs b (by unfold frs; rw [List.filterMap_cons, hf]; exact List.mem_cons_of_mem _ hb)) hr⟩
  exact all X.outer (fun _ hb => hb) I.ok.funs
theorem Inv.stack (I : Inv X pins σ H s) : s.heap.FunFrames X.base X.stack := by
  rcases I.ok.stk with e | ⟨e, hf⟩
  · rw [e]; exact I.funs
  · rw [e]
    obtain ⟨m, hn, _⟩ := I.loc
    refine .cons (by rw [I.ok.kind]; decide) hf hn ?_ I.funs
    exact Heap.get?_none_of_le (Nat.le_trans I.ok.bsz I.ok.above)
theorem Inv.stkSub (I : Inv X pins σ H s) : ∀ b ∈ frs X.stack, b ∈ X.env.locals :: X.fs := fun b hb => by
  rcases I.ok.stk with e | ⟨e, hf⟩
  · rw [e] at hb; exact List.mem_cons_of_mem _ hb
  · rw [e] at hb
    unfold frs at hb
    rw [List.filterMap_cons, hf] at hb
    exact hb
theorem Inv.stkFree (I : Inv X pins σ H s) : ∀ b ∈ frs X.stack, H b = none := fun b hb => by
  rcases List.mem_cons.mp (I.stkSub b hb) with e | hb
  · rw [e]; exact I.free
  · obtain ⟨_, o, ho, _⟩ := I.ok.funs.mem hb
    exact I.base.free b o ho (I.ok.frf b hb) fun z => I.ok.exfs b z hb
theorem Inv.step {g' : Array GenState} {t' : Nat} {d' : Drawn} {ch : List Addr} (I : Inv X pins σ H s)
    (hch : ∀ b ∈ ch, (b ∈ X.ex ∨ X.s₀.heap.objs.size ≤ b) ∧ b ≠ X.env.locals ∧ (∀ x c, X.env.cells.lookup x = some c → c ≠ b) ∧ ∀ p ∈ X.pn ++ pins, p.1 ≠ b)
    (keep : ∀ b o, b ≠ X.env.locals → b ∉ X.fs → b ∉ ch → s.heap.get? b = some o → H b = none → h'.get? b = some o)
    (slot : ∀ b o, b ≠ X.env.locals → b ∈ X.fs → b ∉ ch → s.heap.get? b = some o → H b = none → ∃ sl, h'.get? b = some { o with slots := sl }) (free : ∀ b o, b ∉ ch → s.heap.get? b = some o → H b = none → H' b = none)
    (there : ∀ b o, b ∉ ch → s.heap.get? b = some o → ∃ o', h'.get? b = some o')
    (tups : ∀ b xs, H b = some (.tup xs) → H' b = some (.tup xs)) (frzs : ∀ b o u, H b = some (.frz o u) → H' b = some (.frz o u)) (tbls : ∀ b ps, H b = some (.tbl ps) → ∃ more, H' b = some (.tbl (ps ++ more)))
    (ns : ∀ m, s.heap.Ns X.env.locals m → h'.Ns X.env.locals m) (hok : HOk X.prog X.w H' h') (hg : AllBare g') :
    Inv X pins σ H' { s with heap := h', gens := g', drawn := d', toks := t' } := by
  have neL : ∀ b o, X.s₀.heap.get? b = some o → b ≠ X.env.locals := fun b o e => Nat.ne_of_lt (Nat.lt_of_lt_of_le (Heap.lt_size e) I.ok.above)
  have neC : ∀ b o, X.s₀.heap.get? b = some o → b ∉ X.ex → b ∉ ch := fun b o e hx hb => by
    rcases (hch b hb).1 with z | z
    · exact hx z
    · exact absurd (Nat.lt_of_lt_of_le (Heap.lt_size e) z) (Nat.lt_irrefl _)
  have cellK : ∀ x c, X.env.cells.lookup x = some c → ∀ v, s.heap.IsCell c v → h'.IsCell c v := fun x c e v ⟨o, ho, hd⟩ => by
    have nch : c ∉ ch := fun z => (hch c z).2.2.1 x c e rfl
    by_cases hc : c ∈ X.fs
    · obtain ⟨sl, q⟩ := slot c o (I.cne x c e) hc nch ho (I.freeC x c e)
      exact ⟨_, q, hd⟩
    · exact ⟨o, keep c o (I.cne x c e) hc nch ho (I.freeC x c e), hd⟩
  refine ⟨I.ok, I.os, hg, ⟨fun b o e n hb hx => ?_, fun b o e n hb hx => ?_, fun b o e n hx => ?_, fun b o e hx => ?_, fun b xs e => tups b xs (I.base.tups b xs e), fun b o xs e => frzs b o xs (I.base.frzs b o xs e), fun b ps e => ?_⟩, ?_, fun x c e => ?_, ?_, fun x c e => ?_, fun p hp => ?_, hok, I.len⟩
  · exact keep b o (neL b o e) hb (neC b o e hx) (I.base.keep b o e n hb hx) (I.base.free b o e n hx)
  · obtain ⟨sl, e1⟩ := I.base.slot b o e n hb hx
    obtain ⟨sl', e2⟩ := slot b _ (neL b o e) hb (neC b o e hx) e1 (I.base.free b o e n hx)
    exact ⟨sl', e2⟩
  · obtain ⟨o', e1⟩ := I.base.there b o e hx
    exact free b o' (neC b o e hx) e1 (I.base.free b o e n hx)
  · obtain ⟨o', e1⟩ := I.base.there b o e hx
    exact there b o' (neC b o e hx) e1
  · obtain ⟨m1, e1⟩ := I.base.tbls b ps e
    obtain ⟨m2, e2⟩ := tbls b _ e1
    exact ⟨m1 ++ m2, by rw [e2, Array.append_assoc]⟩
  · obtain ⟨m, hn, hl⟩ := I.loc
    refine ⟨m, ns m hn, fun i x v e1 e2 e3 => ?_⟩
    obtain ⟨u, r, l⟩ := hl i x v e1 e2 e3
    refine ⟨u, r, ?_⟩
    rcases l with l | ⟨k, c, e, z⟩
    · exact .inl l
    · exact .inr ⟨k, c, e, cellK x c e _ z⟩
  · obtain ⟨v, z⟩ := I.cell x c e
    exact ⟨v, cellK x c e v z⟩
  · obtain ⟨m, ⟨o, _, _, ho, _⟩, _⟩ := I.loc
    exact free _ o (fun z => (hch _ z).2.1 rfl) ho I.free
  · obtain ⟨v, o, ho, hd⟩ := I.cell x c e
    exact free c o (fun z => (hch c z).2.2.1 x c e rfl) ho (I.freeC x c e)
  · obtain ⟨e, n, ne, nf, d⟩ := I.pin p hp
    have nch : p.1 ∉ ch := fun z => (hch p.1 z).2.2.2 p hp rfl
    exact ⟨keep p.1 p.2 ne nf nch e n, free p.1 p.2 nch e n, ne, nf, d⟩
theorem Inv.un {t' : Nat} (I : Inv X pins σ H s) (u : Un X.fs [] H H' s.heap h') (hok : HOk X.prog X.w H' h') : Inv X pins σ H' { s with heap := h', toks := t' } := by
  obtain ⟨m, ⟨o, es, ep, ho, r⟩, _⟩ := id I.loc
  obtain ⟨sl, hL⟩ := u.any ho I.free (by simp)
  exact I.step (g' := s.gens) (d' := s.drawn) (ch := []) (fun _ z => nomatch z) (fun b o _ hb _ e n => u.keep b o e n hb (by simp)) (fun b o _ hb _ e n => u.slot b o e n hb (by simp)) (fun b o _ e n => u.free b o e n (by simp)) (fun b o _ e => u.there b o e (by simp)) u.tups u.frzs u.tbls (fun m' hm => by
    obtain ⟨o', es', ep', ho', r'⟩ := hm
    rw [ho] at ho'; cases ho'
    exact ⟨_, es', ep', hL, r'⟩) hok I.bare
theorem Inv.call {g' : Array GenState} {t' : Nat} {d' : Drawn} {ch : List Addr} (I : Inv X pins σ H s) (u : Un (frs X.stack) ch H H' s.heap h') (hok : HOk X.prog X.w H' h') (hg : AllBare g')
    (hch : ∀ b ∈ ch, (b ∈ X.ex ∨ X.s₀.heap.objs.size ≤ b) ∧ b ≠ X.env.locals ∧ (∀ x c, X.env.cells.lookup x = some c → c ≠ b) ∧ ∀ p ∈ X.pn ++ pins, p.1 ≠ b) :
    Inv X pins σ H' { s with heap := h', gens := g', drawn := d', toks := t' } := by
  obtain ⟨m, ⟨o, es, ep, ho, r⟩, _⟩ := id I.loc
  obtain ⟨sl, hL⟩ := u.any ho I.free fun z => (hch _ z).2.1 rfl
  exact I.step (ch := ch) hch (fun b o hL hb hc e n => u.keep b o e n (fun z => (List.mem_cons.mp (I.stkSub b z)).elim hL hb) hc) (fun b o _ _ hc e n => u.any e n hc) (fun b o hc e n => u.free b o e n hc) (fun b o hc e => u.there b o e hc) u.tups u.frzs u.tbls (fun m' hm => by
    obtain ⟨o', es', ep', ho', r'⟩ := hm
    rw [ho] at ho'; cases ho'
    exact ⟨_, es', ep', hL, r'⟩) hok hg
theorem Inv.turned {t' : Nat} {it : Addr} (I : Inv X pins σ H s) (k : ∀ b o, b ≠ it → s.heap.get? b = some o → h'.get? b = some o) (hn : H it = none) (hL : it ≠ X.env.locals)
    (h1 : it ∈ X.ex ∨ X.s₀.heap.objs.size ≤ it) (h2 : ∀ x c, X.env.cells.lookup x = some c → c ≠ it) (h3 : ∀ p ∈ X.pn ++ pins, p.1 ≠ it) : Inv X pins σ H { s with heap := h', toks := t' } := by
  have nit : ∀ b u, H b = some u → b ≠ it := fun b u e z => by rw [z, hn] at e; cases e
  refine I.step (g' := s.gens) (d' := s.drawn) (ch := [it]) (fun b hb => ?_) (fun b o _ _ hc e _ => k b o (fun z => hc (by simp [z])) e) (fun b o _ _ hc e _ => ⟨o.slots, k b o (fun z => hc (by simp [z])) e⟩) (fun _ _ _ _ n => n)
    (fun b o hc e => ⟨o, k b o (fun z => hc (by simp [z])) e⟩) (fun _ _ e => e) (fun _ _ _ e => e) (fun b ps e => ⟨#[], by rw [e]; simp⟩) (fun m hm => ?_) (fun b u e => ?_) I.bare
  · have e : b = it := by simpa using hb
    subst e
    exact ⟨h1, hL, h2, h3⟩
  · obtain ⟨o, es, ep, ho, r⟩ := hm
    exact ⟨o, es, ep, k _ o (Ne.symm hL) ho, r⟩
  · refine (I.hok b u e).stay (fun c v hc q => k c v ?_ q) (fun _ q => q) fun _ _ q => q
    rcases hc with z | z
    · rw [z]; exact nit b u e
    · exact nit c _ z
theorem Inv.tok (I : Inv X pins σ H s) (t : Nat) : Inv X pins σ H { s with toks := t } := I.un (h' := s.heap) (t' := t) Un.refl I.hok
theorem Inv.kept {t' : Nat} (I : Inv X pins σ H s) (k : ∀ b u, s.heap.get? b = some u → h'.get? b = some u) : Inv X pins σ H { s with heap := h', toks := t' } := I.un (Un.kept k) (I.hok.kept k)
theorem Inv.laid {a : Addr} {o : HO} {t' : Nat} (I : Inv X pins σ H s) (k : ∀ b u, s.heap.get? b = some u → h'.get? b = some u) (hp : s.heap.objs.size ≤ a) (new : ObjOk X.prog X.w (upd H a o) h' a o) :
    Inv X pins σ (upd H a o) { s with heap := h', toks := t' } := I.un (Un.laid k hp (I.hok.fresh hp)) (I.hok.laid k hp new)
theorem Inv.write {x e : Addr} {o : HO} {t' : Nat} (I : Inv X pins σ H s) (mu : Mut (H x)) (he : e = x ∨ H e = some (.own x)) (k : ∀ b u, b ≠ e → s.heap.get? b = some u → h'.get? b = some u) (heo : ∃ u, h'.get? e = some u)
    (new : ObjOk X.prog X.w (upd H x o) h' x o) : Inv X pins σ (upd H x o) { s with heap := h', toks := t' } := I.un (Un.write mu he k heo) (I.hok.write mu he k heo new)
theorem Inv.pins_of {pins' : List (Addr × Obj)} (I : Inv X pins σ H s) (h : ∀ p ∈ pins', s.heap.get? p.1 = some p.2 ∧ H p.1 = none ∧ p.1 ≠ X.env.locals ∧ p.1 ∉ X.fs ∧ ∀ v, p.2.data ≠ .cell v) : Inv X pins' σ H s :=
  ⟨I.ok, I.os, I.bare, I.base, I.loc, I.cell, I.free, I.freeC, fun p hp => (List.mem_append.mp hp).elim (fun z => I.pin p (List.mem_append_left _ z)) (h p), I.hok, I.len⟩
theorem nodup_ix {N : List Str} (hN : N.Nodup) {i j : Nat} {x : Str} (a : N[i]? = some x) (b : N[j]? = some x) : i = j := by
  obtain ⟨h1, e1⟩ := List.getElem?_eq_some_iff.mp a
  obtain ⟨h2, e2⟩ := List.getElem?_eq_some_iff.mp b
  exact (List.getElem_inj hN).mp (e1.trans e2.symm)
theorem store_ok2 {M : Model} {A : Around} {E : Value → Shared → Prop} {i : Nat} {x : Str} {v : V} {u : Value} {Q : Unit → Shared → Prop} (I : Inv X pins σ H s) (hN : X.N.Nodup) (hi : X.N[i]? = some x) (hx : Loc X.env.scope x) (r : RelV v u)
    (h : ∀ s', Inv X pins (σ.set i (some v)) H s' → (∃ a, Heap.SameBut a s.heap s'.heap ∧ (a = X.env.locals ∨ X.env.cells.lookup x = some a)) → Q () s') (hf : X.fn x = true ∨ X.env.scope.names.lookup x = some .local := by first | exact .inl rfl | exact .inr rfl | assumption) : wpAny M A (storeName X.env x u) Q E s := by
  obtain ⟨m, hn, hl⟩ := id I.loc
  have hcls : (X.env.scope.kind == .class || (X.env.scope.kind == .module && X.env.locals != X.env.globals)) = false := by rw [I.ok.kind]; rfl
  have hiσ : i < σ.length := by rw [I.len]; exact (List.getElem?_eq_some_iff.mp hi).1
  have cne := I.cne
  have tracked : ∀ {a : Addr} {h' : Heap}, (∃ o, s.heap.get? a = some o ∧ H a = none) → Heap.SameBut a s.heap h' → HOk X.prog X.w H h' := fun {a h'} ha hs b ob e => by
    obtain ⟨_, _, hfree⟩ := ha
    refine (I.hok b ob e).stay (fun c w' hc q => (hs.2 c ?_).trans q) (fun _ q => q) fun _ _ q => q
    rintro rfl
    rcases hc with rfl | hc
    · rw [hfree] at e; cases e
    · rw [hfree] at hc; cases hc
  rcases hx with hk | hk
  · refine wpAny_storeName_local hk hn (fun h' hn' hs => ?_) hcls
    obtain ⟨oL, _, _, hoL, _⟩ := id hn
    refine h _ ⟨I.ok, I.os, I.bare, ⟨fun b o e n hb hx => ?_, fun b o e n hb hx => ?_, I.base.free, fun b o e hx => ?_, I.base.tups, I.base.frzs, I.base.tbls⟩, ⟨_, hn', fun j y v' e1 e2 e3 => ?_⟩, fun y c e => ?_, I.free, I.freeC, fun p hp => ?_, tracked ⟨oL, hoL, I.free⟩ hs, by simpa using I.len⟩ ⟨_, hs, .inl rfl⟩
    · exact (hs.2 b (Nat.ne_of_lt (Nat.lt_of_lt_of_le (Heap.lt_size e) I.ok.above))).trans (I.base.keep b o e n hb hx)
    · obtain ⟨sl, e1⟩ := I.base.slot b o e n hb hx
      exact ⟨sl, (hs.2 b (Nat.ne_of_lt (Nat.lt_of_lt_of_le (Heap.lt_size e) I.ok.above))).trans e1⟩
    · obtain ⟨o', e1⟩ := I.base.there b o e hx
      exact ⟨o', (hs.2 b (Nat.ne_of_lt (Nat.lt_of_lt_of_le (Heap.lt_size e) I.ok.above))).trans e1⟩
    · by_cases hj : j = i
      · subst hj
        rw [hi] at e1; cases e1
        rw [List.getElem?_set_self hiσ] at e2
        cases e2
        exact ⟨u, r, .inl ⟨hk, by simp⟩⟩
      · rw [List.getElem?_set_ne (Ne.symm hj)] at e2
        obtain ⟨u', r', q⟩ := hl j y v' e1 e2 e3
        refine ⟨u', r', ?_⟩
        rcases q with ⟨k, e⟩ | ⟨k, c, e, z⟩
        · refine .inl ⟨k, ?_⟩
          have : y ≠ x := fun e => hj (nodup_ix hN e1 (e ▸ hi))
          simp [this, e]
        · exact .inr ⟨k, c, e, z.sameBut hs (cne y c e)⟩
    · obtain ⟨w', z⟩ := I.cell y c e
      exact ⟨w', z.sameBut hs (cne y c e)⟩
    · obtain ⟨e, n, ne, nf, d⟩ := I.pin p hp
      exact ⟨(hs.2 p.1 ne).trans e, n, ne, nf, d⟩
  · have hfn : X.fn x = true := by
      rcases hf with z | z
      · exact z
      · rw [z] at hk; cases hk
    obtain ⟨c, hc⟩ := I.ok.has x (.inl hk)
    obtain ⟨w', z⟩ := I.cell x c hc
    refine wpAny_storeName_cell I.ok.kind hk hc z (fun h' hc' hs => ?_)
    obtain ⟨oc, hoc, hocd⟩ := id z
    refine h { s with heap := h' } ⟨I.ok, I.os, I.bare, ⟨fun b o e n hb hx => ?_, fun b o e n hb hx => ?_, I.base.free, fun b o e hx => ?_, I.base.tups, I.base.frzs, I.base.tbls⟩, ⟨m, hn.sameBut hs (Ne.symm (cne x c hc)), fun j y v' e1 e2 e3 => ?_⟩, fun y c' e => ?_, I.free, I.freeC, fun p hp => ?_, tracked ⟨oc, hoc, I.freeC x c hc⟩ hs, by simpa using I.len⟩ ⟨c, hs, .inr hc⟩
    · exact (hs.2 b (Nat.ne_of_lt (Nat.lt_of_lt_of_le (Heap.lt_size e) (I.ok.cab x c hfn hc)))).trans (I.base.keep b o e n hb hx)
    · obtain ⟨sl, e1⟩ := I.base.slot b o e n hb hx
      exact ⟨sl, (hs.2 b (Nat.ne_of_lt (Nat.lt_of_lt_of_le (Heap.lt_size e) (I.ok.cab x c hfn hc)))).trans e1⟩
    · obtain ⟨o', e1⟩ := I.base.there b o e hx
      exact ⟨o', (hs.2 b (Nat.ne_of_lt (Nat.lt_of_lt_of_le (Heap.lt_size e) (I.ok.cab x c hfn hc)))).trans e1⟩
    · by_cases hj : j = i
      · subst hj
        rw [hi] at e1; cases e1
        rw [List.getElem?_set_self hiσ] at e2
        cases e2
        exact ⟨u, r, .inr ⟨.inl hk, c, hc, hc'⟩⟩
      · rw [List.getElem?_set_ne (Ne.symm hj)] at e2
        obtain ⟨u', r', q⟩ := hl j y v' e1 e2 e3
        refine ⟨u', r', ?_⟩
        rcases q with q | ⟨k, c', e, z'⟩
        · exact .inl q
        · refine .inr ⟨k, c', e, z'.sameBut hs ?_⟩
          rintro rfl
          exact hj (nodup_ix hN e1 (I.ok.inj _ _ _ e hc ▸ hi))
    · by_cases hcc : c' = c
      · subst hcc; exact ⟨_, hc'⟩
      · obtain ⟨w2, z2⟩ := I.cell y c' e
        exact ⟨w2, z2.sameBut hs hcc⟩
    · obtain ⟨e, n, ne, nf, d⟩ := I.pin p hp
      refine ⟨(hs.2 p.1 ?_).trans e, n, ne, nf, d⟩
      intro q
      rw [q, hoc] at e
      have q' : oc = p.2 := Option.some.inj e
      exact d w' (by rw [← q']; exact hocd)
theorem store_ok {M : Model} {A : Around} {E : Value → Shared → Prop} {i : Nat} {x : Str} {v : V} {u : Value} {Q : Unit → Shared → Prop} (I : Inv X pins σ H s) (hN : X.N.Nodup) (hi : X.N[i]? = some x) (hx : Loc X.env.scope x) (r : RelV v u)
    (h : ∀ s', Inv X pins (σ.set i (some v)) H s' → Q () s') (hf : X.fn x = true ∨ X.env.scope.names.lookup x = some .local := by first | exact .inl rfl | exact .inr rfl | assumption) : wpAny M A (storeName X.env x u) Q E s :=
  store_ok2 I hN hi hx r (fun s' I' _ => h s' I') hf
end
abbrev XK := Value → Option Addr → Hp → Prop
abbrev St := List (Option V)
abbrev VK := V → Hp → Prop
abbrev TE := St → Hp → VK → Prop
abbrev TT := St → Hp → (Bool → Hp → Prop) → Prop
abbrev TA := St → Hp → (List V → Hp → Prop) → Prop
structure Ends where
  nx : St → Hp → Prop
  rt : VK
  bk : St → Hp → Prop := fun _ _ => False
  ct : St → Hp → Prop := fun _ _ => False
abbrev TS := Ends → St → Hp → Prop
def EP (X : Cx) (pins : List (Addr × Obj)) (σ : St) (Q : VK) (u : Value) (s' : Shared) : Prop := ∃ v H', Inv X pins σ H' s' ∧ RelV v u ∧ Q v H'
def TP (X : Cx) (pins : List (Addr × Obj)) (σ : St) (Q : Bool → Hp → Prop) (b : Bool) (s' : Shared) : Prop := ∃ H', Inv X pins σ H' s' ∧ Q b H'
def AP (X : Cx) (pins : List (Addr × Obj)) (σ : St) (Q : List V → Hp → Prop) (us : List Value) (s' : Shared) : Prop := ∃ vs H', Inv X pins σ H' s' ∧ Vals vs us ∧ Q vs H'
def SP (X : Cx) (pins : List (Addr × Obj)) (D : Ends) (f : Flow) (s' : Shared) : Prop :=
  match f with
  | .next => ∃ σ' H', Inv X pins σ' H' s' ∧ D.nx σ' H'
  | .brk => ∃ σ' H', Inv X pins σ' H' s' ∧ D.bk σ' H'
  | .cont => ∃ σ' H', Inv X pins σ' H' s' ∧ D.ct σ' H'
  | .ret u => ∃ v σ' H', Inv X pins σ' H' s' ∧ RelV v u ∧ D.rt v H'
def PE (X : Cx) (e : Expr) (t : TE) : Prop :=
  ∀ (pins : List (Addr × Obj)) (s : Shared) (σ : St) (H : Hp) (Q : VK), Inv X pins σ H s → t σ H Q → wpAny (model X.prog X.w) X.A (eval e X.env) (EP X pins σ Q) X.xe s
def PT (X : Cx) (e : Expr) (t : TT) : Prop :=
  ∀ (pins : List (Addr × Obj)) (s : Shared) (σ : St) (H : Hp) (Q : Bool → Hp → Prop), Inv X pins σ H s → t σ H Q → wpAny (model X.prog X.w) X.A (isTrue e X.env (eval e X.env)) (TP X pins σ Q) X.xe s
def PW (X : Cx) (e : Expr) (t : TT) : Prop :=
  ∀ (whole : Sem Value) (pins : List (Addr × Obj)) (s : Shared) (σ : St) (H : Hp) (Q : Bool → Hp → Prop), Inv X pins σ H s → t σ H Q → wpAny (model X.prog X.w) X.A (isTrue e X.env whole) (TP X pins σ Q) X.xe s
theorem PW.pt {X : Cx} {e : Expr} {t : TT} (h : PW X e t) : PT X e t := h _
def PA (X : Cx) (es : List Expr) (t : TA) : Prop :=
  ∀ (pos : Pos) (pins : List (Addr × Obj)) (s : Shared) (σ : St) (H : Hp) (Q : List V → Hp → Prop), Inv X pins σ H s → t σ H Q → wpAny (model X.prog X.w) X.A (spliced (backTo pos (starEach es X.env))) (AP X pins σ Q) X.xe s
def PS (X : Cx) (st : Stmt) (t : TS) : Prop :=
  ∀ (pins : List (Addr × Obj)) (s : Shared) (σ : St) (H : Hp) (D : Ends), Inv X pins σ H s → t D σ H → wpAny (model X.prog X.w) X.A (exec st X.env) (SP X pins D) X.xe s
def PSs (X : Cx) (st : List Stmt) (t : TS) : Prop :=
  ∀ (pins : List (Addr × Obj)) (s : Shared) (σ : St) (H : Hp) (D : Ends), Inv X pins σ H s → t D σ H → wpAny (model X.prog X.w) X.A (execs st X.env) (SP X pins D) X.xe s
theorem thn {α : Type} {t : Sem α} {Q Q' : α → Shared → Prop} {M : Model} {A : Around} {E : Value → Shared → Prop} {s : Shared} (h : wpAny M A t Q E s) (hQ : ∀ a s, Q a s → Q' a s) : wpAny M A t Q' E s := wpAny_mono h hQ fun _ _ x => x
end L2
namespace L2
open PySem PySem.Spec PyProof.Rows
section
variable {X : Cx}
theorem bin {a b : Expr} {ta tb : TE} (ha : PE X a ta) (hb : PE X b tb) {pins : List (Addr × Obj)} {s : Shared} {σ : St} {H : Hp} {R : V → V → Hp → Prop} (I : Inv X pins σ H s) (h : ta σ H fun x H1 => tb σ H1 fun y H2 => R x y H2)
    {α : Type} {Q : α → Shared → Prop} {f : Value → Value → Sem α}
    (hf : ∀ v u s2 x y H2, Inv X pins σ H2 s2 → RelV x v → RelV y u → R x y H2 → wpAny (model X.prog X.w) X.A (f v u) Q X.xe s2) :
    wpAny (model X.prog X.w) X.A (eval a X.env) (fun v s₁ => wpAny (model X.prog X.w) X.A (eval b X.env) (fun u s₂ => wpAny (model X.prog X.w) X.A (f v u) Q X.xe s₂) X.xe s₁) X.xe s := by
  refine thn (ha pins s σ H _ I h) fun v s1 ⟨x, H1, I1, r1, q1⟩ => ?_
  refine thn (hb pins s1 σ H1 _ I1 q1) fun u s2 ⟨y, H2, I2, r2, q2⟩ => ?_
  exact hf v u s2 x y H2 I2 r1 r2 q2
def tVar (i : Nat) : TE := fun σ H Q => ∃ v, σ[i]? = some (some v) ∧ Q v H
def tC (v : V) : TE := fun _ H Q => Q v H
theorem pe_var {i : Nat} {x : Str} {pos : Pos} (hN : X.N[i]? = some x) (hv : Vis X.env.scope x) (hd : (x == ("__debug__" : Str)) = false := by decide) (hcd : (x == ("__classdict__" : Str)) = false := by decide) : PE X (.Name x pos) (tVar i) := by
  intro pins s σ H Q I h
  obtain ⟨v, e, h⟩ := h
  obtain ⟨m, hn, hl⟩ := I.loc
  obtain ⟨u, r, l⟩ := hl i x v hN e hv
  have fin : EP X pins σ Q u s := ⟨v, H, I, r, h⟩
  rcases l with ⟨hk, hm⟩ | ⟨hk, c, hc, hcell⟩
  · exact wpAny_Name (wpAny_loadName_local I.ok.kind hk hn hm fin) hd
  · rcases hk with hk | hk
    · exact wpAny_Name (wpAny_loadName_cell I.ok.kind hk hc hcell fin) hd
    · exact wpAny_Name (wpAny_loadName_free I.ok.kind hk hc hcell fin hcd) hd
theorem pe_int {i j pos} : PE X (.Constant (.int i) j pos) (tC (.int i)) := fun _ _ _ H _ I h => wpAny_Constant_int ⟨.int i, H, I.tok _, ⟨_, rfl⟩, h⟩
theorem pe_bl {b j pos} : PE X (.Constant (.bool b) j pos) (tC (.bl b)) := fun _ _ _ H _ I h => Constant_bool ⟨.bl b, H, I, rfl, h⟩
theorem pe_non {j pos} : PE X (.Constant .none j pos) (tC .non) := fun _ _ _ H _ I h => Constant_none ⟨.non, H, I, rfl, h⟩
theorem pe_str {x j pos} : PE X (.Constant (.str x) j pos) (tC (.str x)) := fun _ _ _ H _ I h => Calls.Constant_str ⟨.str x, H, I.tok _, ⟨_, rfl⟩, h⟩
def Gl (X : Cx) (x : Str) : Prop := X.env.kindOf x = some .globalImplicit
theorem ld_glob {E : Value → Shared → Prop} {pins : List (Addr × Obj)} {s : Shared} {σ : St} {H : Hp} {x : Str} {u : Value} {pos : Pos} {Q : Value → Shared → Prop} (I : Inv X pins σ H s) (hg : Gl X x) (hm : X.mg x = some u) (h : Q u s)
    (hd : (x == ("__debug__" : Str)) = false := by decide) : wpAny (model X.prog X.w) X.A (eval (.Name x pos) X.env) Q E s :=
  Calls.Name_function_global I.ok.kind hg (Calls.loadGlobal_global (by rw [I.ok.glob]; exact I.mod.glob.keeps I.bk) hm h) hd
theorem ld_blt {E : Value → Shared → Prop} {pins : List (Addr × Obj)} {s : Shared} {σ : St} {H : Hp} {x : Str} {u : Value} {pos : Pos} {Q : Value → Shared → Prop} (I : Inv X pins σ H s) (hg : Gl X x) (hm : X.mg x = none) (hv : bootBuiltins x = some u) (h : Q u s)
    (hn : x ≠ "__name__" := by decide) (hd : (x == ("__debug__" : Str)) = false := by decide) : wpAny (model X.prog X.w) X.A (eval (.Name x pos) X.env) Q E s := by
  obtain ⟨mb, h1, h2⟩ := I.mod.blt
  exact Calls.Name_function_global I.ok.kind hg (Calls.loadGlobal_builtin (by rw [I.ok.glob]; exact I.mod.glob.keeps I.bk) hm (by rw [I.ok.blt]; exact h1.keeps I.bk) ((h2 x hn).trans hv) h) hd
theorem pe_glob {x : Str} {v : V} {u : Value} {pos : Pos} (hg : Gl X x) (hm : X.mg x = some u) (r : RelV v u) (hd : (x == ("__debug__" : Str)) = false := by decide) : PE X (.Name x pos) (tC v) :=
  fun _ _ _ H _ I h => ld_glob I hg hm ⟨v, H, I, r, h⟩ hd
theorem pe_bltn {x : Str} {v : V} {u : Value} {pos : Pos} (hg : Gl X x) (hm : X.mg x = none) (hv : bootBuiltins x = some u) (r : RelV v u) (hn : x ≠ "__name__" := by decide) (hd : (x == ("__debug__" : Str)) = false := by decide) : PE X (.Name x pos) (tC v) :=
  fun _ _ _ H _ I h => ld_blt I hg hm hv ⟨v, H, I, r, h⟩ hn hd
variable {a b : Expr} {ta tb : TE} {pos : Pos}
def PC (X : Cx) (op : CmpOp) (a b : Expr) (t : TE) : Prop :=
  ∀ (pins : List (Addr × Obj)) (s : Shared) (σ : St) (H : Hp) (Q : VK), Inv X pins σ H s → t σ H Q →
    wpAny (model X.prog X.w) X.A (eval a X.env) (fun v s₁ => wpAny (model X.prog X.w) X.A (eval b X.env) (fun u s₂ => wpAny (model X.prog X.w) X.A (compareOp op v u) (EP X pins σ Q) X.xe s₂) X.xe s₁) X.xe s
theorem nobehind (b : Expr) {op : CmpOp} (h : op ≠ .In) (h2 : op ≠ .NotIn) : behindInMarks op b = false := by
  have e1 : (op == CmpOp.In) = false := by cases op <;> first | rfl | exact absurd rfl h
  have e2 : (op == CmpOp.NotIn) = false := by cases op <;> first | rfl | exact absurd rfl h2
  cases b <;> simp [behindInMarks, e1, e2]
def tB (t : TE) : TT := fun σ H Q => t σ H fun x H1 => ∃ c, x = .bl c ∧ Q c H1
theorem pt_cmp {op : CmpOp} {t : TE} (h : PC X op a b t) (h1 : behindInMarks op b = false := by first | exact nobehind _ (by decide) (by decide) | rfl) : PT X (.Compare a [op] [b] pos) (tB t) := by
  intro pins s σ H Q I hw
  refine wpAny_isTrue_Compare1 (thn (h pins s σ H _ I hw) fun v s1 h1 => thn h1 fun u s2 h2 => thn h2 fun c s3 ⟨x, H1, I1, r1, q1⟩ => ?_) h1
  obtain ⟨d, rfl, q⟩ := q1
  cases r1
  exact wpAny_truthy_bool ⟨H1, I1, q⟩
theorem pt_val {e : Expr} {t : TE} (h : PE X e t) (he : ∀ whole, isTrue e X.env whole = (do let v ← whole; standAt e.pos; holding [v] (truthy v)) := by intro _; rfl) : PT X e (tB t) := by
  intro pins s σ H Q I hw
  refine isTrue_plain (thn (h pins s σ H _ I hw) fun v s1 ⟨x, H1, I1, r1, q1⟩ => ?_) (he _)
  obtain ⟨d, rfl, q⟩ := q1
  cases r1
  exact wpAny_truthy_bool ⟨H1, I1, q⟩
variable {tA tB' : TT} {rest : List Expr}
def tOr (t u : TT) : TT := fun σ H Q => t σ H fun c H1 => if c = true then Q true H1 else u σ H1 Q
def tNot (t : TT) : TT := fun σ H Q => t σ H fun c H1 => Q (!c) H1
theorem pw_or1 (ha : PT X a tA) : PW X (.BoolOp .Or [a] pos) tA := by
  intro wh pins s σ H Q I h
  refine isTrue_or (thn (ha pins s σ H Q I h) fun c s1 e => ?_)
  cases c with
  | false => exact isTrue_or_nil e
  | true => exact e
theorem pw_or (ha : PT X a tA) (hb : PW X (.BoolOp .Or (b :: rest) pos) tB') : PW X (.BoolOp .Or (a :: b :: rest) pos) (tOr tA tB') := by
  intro wh pins s σ H Q I h
  refine isTrue_or (thn (ha pins s σ H _ I h) fun c s1 ⟨H1, I1, q1⟩ => ?_)
  cases c with
  | true => exact ⟨H1, I1, q1⟩
  | false => exact hb wh pins s1 σ H1 Q I1 q1
theorem pt_not (ha : PT X a tA) : PT X (.UnaryOp .Not a pos) (tNot tA) := by
  intro pins s σ H Q I h
  exact isTrue_not (ha pins s σ H (fun c H1 => Q (!c) H1) I h)
def tAndV (ta tb : TE) : TE := fun σ H Q => ta σ H fun x H1 => ∃ c, x = .bl c ∧ if c = true then tb σ H1 Q else Q (.bl false) H1
theorem pe_one {op} {t : TE} (h : PE X a t) : PE X (.BoolOp op [a] pos) t := fun pins s σ H Q I hw => BoolOp_one (h pins s σ H Q I hw)
theorem pe_and (ha : PE X a ta) (hb : PE X (.BoolOp .And (b :: rest) pos) tb) : PE X (.BoolOp .And (a :: b :: rest) pos) (tAndV ta tb) := by
  intro pins s σ H Q I h
  refine BoolOp_and (thn (ha pins s σ H _ I h) fun v s1 ⟨x, H1, I1, r1, q1⟩ => ?_)
  obtain ⟨c, rfl, q1⟩ := q1
  cases r1
  refine wpAny_truthy_bool ?_
  cases c with
  | true => exact hb pins s1 σ H1 Q I1 q1
  | false => exact ⟨.bl false, H1, I1, rfl, q1⟩
def tIf (t : TT) (ta tb : TE) : TE := fun σ H Q => t σ H fun c H1 => if c = true then ta σ H1 Q else tb σ H1 Q
theorem pe_ifExp {c : Expr} (hc : PT X c tA) (ha : PE X a ta) (hb : PE X b tb) : PE X (.IfExp c a b pos) (tIf tA ta tb) := by
  intro pins s σ H Q I h
  refine wpAny_IfExp (thn (hc pins s σ H _ I h) fun d s1 ⟨H1, I1, q1⟩ => ?_)
  cases d with
  | true => exact ha pins s1 σ H1 Q I1 q1
  | false => exact hb pins s1 σ H1 Q I1 q1
end
end L2
namespace L2
open PySem PySem.Spec PyProof.Rows
def SqL (K : PySem.W.Frag) (H : Hp) (a : Addr) (xs : List V) : Prop :=
  Rd H a (.lst xs) ∨
    ∃ (o : Obj) (its : Array Value) (n : Nat), K.lookup a = some o ∧ o.cls = .type "list" ∧ o.dict = none ∧ o.data = .seq its n ∧ its.size ≤ sizeLine ∧ Vals xs its.toList
def SqT (K : PySem.W.Frag) (H : Hp) (a : Addr) (xs : List V) : Prop :=
  Rd H a (.tup xs) ∨
    ∃ (o : Obj) (its : Array Value) (n : Nat), K.lookup a = some o ∧ o.cls = .type "tuple" ∧ o.data = .seq its n ∧ its.size ≤ sizeLine ∧ Vals xs its.toList
def absV : Value → Option V
  | .none => some .non
  | .bool b => some (.bl b)
  | .int i _ => some (.int i)
  | .str x _ => some (.str x)
  | .bytes b _ => some (.byt b)
  | .float b _ => some (.flt b)
  | .ref a => some (.ref a)
  | .type n => some (.ty n)
  | _ => none
theorem RelV.abs {x : V} {u : Value} (r : RelV x u) : absV u = some x := by
  cases x with
  | non => cases r; rfl
  | bl _ => cases r; rfl
  | int _ => obtain ⟨t, rfl⟩ := r; rfl
  | str _ => obtain ⟨t, rfl⟩ := r; rfl
  | byt _ => obtain ⟨t, rfl⟩ := r; rfl
  | flt _ => obtain ⟨t, rfl⟩ := r; rfl
  | ref _ => cases r; rfl
  | ty _ => cases r; rfl
theorem RelV.inj {x y : V} {u : Value} (r : RelV x u) (q : RelV y u) : x = y := Option.some.inj (r.abs.symm.trans q.abs)
theorem Vals.inj : ∀ {xs ys : List V} {us : List Value}, Vals xs us → Vals ys us → xs = ys
  | _, _, _, .nil, .nil => rfl
  | _, _, _, .cons r t, .cons r' t' => by rw [r.inj r', Vals.inj t t']
section
variable {X : Cx} {pins : List (Addr × Obj)} {σ : St} {H : Hp} {s : Shared} {a : Addr} {xs ys : List V}
theorem SqL.of {K : PySem.W.Frag} (h : H a = some (.lst xs)) : SqL K H a xs := .inl (.inl h)
theorem SqT.of {K : PySem.W.Frag} (h : H a = some (.tup xs)) : SqT K H a xs := .inl (.inl h)
theorem Inv.list (I : Inv X pins σ H s) (h : SqL X.K H a xs) : ∃ its : List Value, Vals xs its ∧ PlainL s.heap a its.toArray ∧ xs.length ≤ sizeLine := by
  rcases h with h | ⟨o, its, n, hk, hc, hd, hs, hz, r⟩
  · obtain ⟨z, its, n, r, e⟩ := h.ok I.hok
    exact ⟨its, r, ⟨_, n, e, rfl, rfl, rfl⟩, z⟩
  · refine ⟨its.toList, r, ⟨o, n, I.kIn a o hk, hc, hd, by simpa using hs⟩, ?_⟩
    have e := r.length
    simp only [Array.length_toList] at e
    omega
theorem Inv.tuple (I : Inv X pins σ H s) (h : SqT X.K H a xs) : ∃ its : List Value, Vals xs its ∧ IsTup s.heap a its.toArray ∧ xs.length ≤ sizeLine := by
  rcases h with h | ⟨o, its, n, hk, hc, hs, hz, r⟩
  · obtain ⟨z, its, r, p, _⟩ := h.ok I.hok
    exact ⟨its, r, p, z⟩
  · refine ⟨its.toList, r, ⟨o, I.kIn a o hk, hc, n, by simpa using hs⟩, ?_⟩
    have e := r.length
    simp only [Array.length_toList] at e
    omega
theorem Inv.list_inj (I : Inv X pins σ H s) (h : SqL X.K H a xs) (h' : SqL X.K H a ys) : xs = ys := by
  obtain ⟨its, r, ⟨o, n, e, _, _, d⟩, _⟩ := I.list h
  obtain ⟨its', r', ⟨o', n', e', _, _, d'⟩, _⟩ := I.list h'
  rw [e] at e'; cases e'
  rw [d] at d'
  injection d' with d1 _
  have : its = its' := by simpa using congrArg Array.toList d1
  subst this
  exact r.inj r'
theorem Inv.tuple_inj (I : Inv X pins σ H s) (h : SqT X.K H a xs) (h' : SqT X.K H a ys) : xs = ys := by
  obtain ⟨its, r, ⟨o, e, _, n, d⟩, _⟩ := I.tuple h
  obtain ⟨its', r', ⟨o', e', _, n', d'⟩, _⟩ := I.tuple h'
  rw [e] at e'; cases e'
  rw [d] at d'
  injection d' with d1 _
  have : its = its' := by simpa using congrArg Array.toList d1
  subst this
  exact r.inj r'
end
abbrev Cx.wish (X : Cx) (E : Value → Shared → Prop) : Cx := { X with xe := E }
abbrev Cx.nox (X : Cx) : Cx := X.wish fun _ _ => False
theorem Cx.Ok.wish {X : Cx} (ok : X.Ok) (E : Value → Shared → Prop) : (X.wish E).Ok :=
  ⟨ok.mod, ok.kind, ok.glob, ok.blt, ok.above, ok.inj, ok.has, ok.cab, ok.hd, ok.frames, ok.stk, ok.exf, ok.bs, ok.bsz, ok.noex, ok.exfs, ok.funs, ok.frf⟩
theorem Cx.Ok.unwish {X : Cx} {E : Value → Shared → Prop} (ok : (X.wish E).Ok) : X.Ok :=
  ⟨ok.mod, ok.kind, ok.glob, ok.blt, ok.above, ok.inj, ok.has, ok.cab, ok.hd, ok.frames, ok.stk, ok.exf, ok.bs, ok.bsz, ok.noex, ok.exfs, ok.funs, ok.frf⟩
section
variable {X : Cx} {pins : List (Addr × Obj)} {σ : St} {H : Hp} {s : Shared} {E : Value → Shared → Prop}
theorem Inv.wish (I : Inv X pins σ H s) (E : Value → Shared → Prop) : Inv (X.wish E) pins σ H s := ⟨I.ok.wish E, I.os, I.bare, I.base, I.loc, I.cell, I.free, I.freeC, I.pin, I.hok, I.len⟩
theorem Inv.unwish (I : Inv (X.wish E) pins σ H s) : Inv X pins σ H s := ⟨I.ok.unwish, I.os, I.bare, I.base, I.loc, I.cell, I.free, I.freeC, I.pin, I.hok, I.len⟩
theorem SP.unwish {D : Ends} {f : Flow} {s' : Shared} (h : SP (X.wish E) pins D f s') : SP X pins D f s' := by
  cases f with
  | next => obtain ⟨σ', H', I, q⟩ := h; exact ⟨σ', H', I.unwish, q⟩
  | brk => obtain ⟨σ', H', I, q⟩ := h; exact ⟨σ', H', I.unwish, q⟩
  | cont => obtain ⟨σ', H', I, q⟩ := h; exact ⟨σ', H', I.unwish, q⟩
  | ret u => obtain ⟨v, σ', H', I, r, q⟩ := h; exact ⟨v, σ', H', I.unwish, r, q⟩
theorem PE.nox {e : Expr} {t : TE} (h : PE X.nox e t) : PE X e t := fun pins s σ H Q I hw =>
  wpAny_mono (h pins s σ H Q (I.wish _) hw) (fun _ _ ⟨v, H', I', r, q⟩ => ⟨v, H', I'.unwish, r, q⟩) fun _ _ z => False.elim z
theorem PT.nox {e : Expr} {t : TT} (h : PT X.nox e t) : PT X e t := fun pins s σ H Q I hw =>
  wpAny_mono (h pins s σ H Q (I.wish _) hw) (fun _ _ ⟨H', I', q⟩ => ⟨H', I'.unwish, q⟩) fun _ _ z => False.elim z
theorem PSs.nox {st : List Stmt} {t : TS} (h : PSs X.nox st t) : PSs X st t := fun pins s σ H D I hw =>
  wpAny_mono (h pins s σ H D (I.wish _) hw) (fun _ _ q => q.unwish) fun _ _ z => False.elim z
end
section
variable {X : Cx} {st : Stmt} {rest : List Stmt} {t u : TS} {e : Expr} {te : TE} {pos : Pos}
def tNext : TS := fun D σ H => D.nx σ H
def tSeq (t u : TS) : TS := fun D σ H => t { D with nx := u D } σ H
theorem pss_nil : PSs X [] tNext := fun _ _ σ H _ I h => wpAny_execs_nil ⟨σ, H, I, h⟩
theorem pss_cons (h1 : PS X st t) (h2 : PSs X rest u) : PSs X (st :: rest) (tSeq t u) := by
  intro pins s σ H D I h
  refine wpAny_execs_cons (thn (h1 pins s σ H { D with nx := u D } I h) fun f s1 q => ?_)
  cases f with
  | next =>
    obtain ⟨σ', H', I', q⟩ := q
    exact h2 pins s1 σ' H' D I' q
  | ret v => exact q
  | brk => exact q
  | cont => exact q
theorem pss_one (h1 : PS X st t) : PSs X [st] t := by
  intro pins s σ H D I h
  refine wpAny_execs_cons (thn (h1 pins s σ H D I h) fun f s1 q => ?_)
  cases f with
  | next => exact wpAny_execs_nil q
  | ret v => exact q
  | brk => exact q
  | cont => exact q
theorem Inv.quiet {pins : List (Addr × Obj)} {σ : St} {H : Hp} {s : Shared} (I : Inv X pins σ H s) : interactive X.env = false := by simp [interactive, I.ok.kind]
def tDrop (te : TE) : TS := fun D σ H => te σ H fun _ H1 => D.nx σ H1
theorem ps_expr (he : PE X e te) (hs : swapsWith e none pos.line X.env = pure false := by rfl) : PS X (.Expr e pos) (tDrop te) := by
  intro pins s σ H D I h
  exact wpAny_Expr_any (thn (he pins s σ H _ I h) fun v s1 ⟨x, H1, I1, r1, q1⟩ => ⟨σ, H1, I1, q1⟩) I.quiet hs
def tRet (te : TE) : TS := fun D σ H => te σ H D.rt
theorem ps_ret (he : PE X e te) : PS X (.Return (some e) pos) (tRet te) := by
  intro pins s σ H D I h
  exact wpAny_Return_some (thn (he pins s σ H _ I h) fun v s1 ⟨x, H1, I1, r1, q1⟩ => ⟨x, σ, H1, I1, r1, q1⟩)
def tIfS (c : TT) (t u : TS) : TS := fun D σ H => c σ H fun b H1 => if b = true then t D σ H1 else u D σ H1
theorem ps_if {c : Expr} {a b : List Stmt} {tc : TT} (hc : PT X c tc) (ha : PSs X a t) (hb : PSs X b u) : PS X (.If c a b pos) (tIfS tc t u) := by
  intro pins s σ H D I h
  refine wpAny_If (thn (hc pins s σ H _ I h) fun d s1 ⟨H1, I1, q1⟩ => ?_)
  cases d with
  | true => exact ha pins s1 σ H1 D I1 q1
  | false => exact hb pins s1 σ H1 D I1 q1
def tNever : TS := fun _ _ _ => False
theorem pss_never {sts : List Stmt} : PSs X sts tNever := fun _ _ _ _ _ _ h => h.elim
end
abbrev TG := V → St → Hp → (St → Hp → Prop) → Prop
abbrev TGs := List V → St → Hp → (St → Hp → Prop) → Prop
def PG (X : Cx) (target : Expr) (t : TG) : Prop :=
  ∀ (pins : List (Addr × Obj)) (s : Shared) (σ : St) (H : Hp) (v : V) (u : Value) (Q : St → Hp → Prop), Inv X pins σ H s → RelV v u → t v σ H Q →
    wpAny (model X.prog X.w) X.A (assign target X.env u) (fun _ s' => ∃ σ' H', Inv X pins σ' H' s' ∧ Q σ' H') X.xe s
def PGs (X : Cx) (ts : List Expr) (t : TGs) : Prop :=
  ∀ (pins : List (Addr × Obj)) (s : Shared) (σ : St) (H : Hp) (vs : List V) (us : List Value) (Q : St → Hp → Prop), Inv X pins σ H s → Vals vs us → t vs σ H Q →
    wpAny (model X.prog X.w) X.A (assignInOrder ((assignEach ts X.env).map (·.2)) us) (fun _ s' => ∃ σ' H', Inv X pins σ' H' s' ∧ Q σ' H') X.xe s
section
variable {X : Cx} {pos : Pos}
def gName (i : Nat) : TG := fun v σ H Q => Q (σ.set i (some v)) H
theorem pg_name {i : Nat} {x : Str} (hN : X.N.Nodup) (hi : X.N[i]? = some x) (hx : Loc X.env.scope x) (hf : X.fn x = true ∨ X.env.scope.names.lookup x = some .local := by first | exact .inl rfl | exact .inr rfl | assumption) : PG X (.Name x pos) (gName i) := by
  intro pins s σ H v u Q I r h
  exact wpAny_assign_Name (store_ok I hN hi hx r (fun s' I' => ⟨_, H, I', h⟩) hf)
def gNil : TGs := fun vs σ H Q => vs = [] ∧ Q σ H
def gCons (t : TG) (u : TGs) : TGs := fun vs σ H Q => ∃ v r, vs = v :: r ∧ t v σ H fun σ' H' => u r σ' H' Q
theorem pgs_nil : PGs X [] gNil := by
  intro pins s σ H vs us Q I r h
  obtain ⟨e, h⟩ := h
  subst e
  cases r
  exact assignInOrder_nil ⟨σ, H, I, h⟩
theorem pgs_cons {e : Expr} {es : List Expr} {t : TG} {u : TGs} (h1 : PG X e t) (h2 : PGs X es u)
    (hs : (assignEach (e :: es) X.env).map (·.2) = assign e X.env :: (assignEach es X.env).map (·.2) := by rfl) : PGs X (e :: es) (gCons t u) := by
  intro pins s σ H vs us Q I r h
  obtain ⟨v, vr, e1, h⟩ := h
  subst e1
  cases r with
  | cons r rr =>
    rw [hs]
    refine assignInOrder_cons (thn (h1 pins s σ H _ _ _ I r h) fun _ s1 ⟨σ1, H1, I1, q1⟩ => ?_)
    exact h2 pins s1 σ1 H1 _ _ Q I1 rr q1
def gTup (K : PySem.W.Frag) (n : Nat) (t : TGs) : TG := fun v σ H Q => ∃ a xs, v = .ref a ∧ SqT K H a xs ∧ xs.length = n ∧ t xs σ H Q
theorem pg_tup {es : List Expr} {k : Nat} {t : TGs} {n : Nat} (hc : X.calm = true) (h : PGs X es t)
    (hn : (assignEach es X.env).length = n := by rfl) (hst : (assignEach es X.env).findIdx? (·.1) = none := by rfl) : PG X (.Tuple es k pos) (gTup X.K n t) := by
  intro pins s σ H v u Q I r hw
  obtain ⟨a, xs, e1, hq, hl, hw⟩ := hw
  subst e1
  cases r
  obtain ⟨its, rv, ht, hz⟩ := I.tuple hq
  refine assign_Tuple_tuple (I.ok.hd hc) ht (by simp [hn, ← hl, rv.length]) hst fun h' hx => ?_
  have I1 : Inv X pins σ H { s with heap := h' } := I.kept (t' := s.toks) fun b o e => hx b o (Nat.ne_of_lt (Heap.lt_size e)) e
  exact h pins _ σ H xs _ Q I1 (by simpa using rv) hw
def tAsg (te : TE) (g : TG) : TS := fun D σ H => te σ H fun x H1 => g x σ H1 D.nx
theorem ps_set {i : Nat} {x : Str} {e : Expr} {te : TE} {pos' : Pos} (hN : X.N.Nodup) (hi : X.N[i]? = some x) (hx : Loc X.env.scope x) (he : PE X e te) (hs : swapsWith e (some (.Name x pos')) pos.line X.env = pure false := by rfl) (hf : X.fn x = true ∨ X.env.scope.names.lookup x = some .local := by first | exact .inl rfl | exact .inr rfl | assumption) :
    PS X (.Assign [.Name x pos'] e pos) (tAsg te (gName i)) := by
  intro pins s σ H D I h
  refine wpAny_Assign_Name (thn (he pins s σ H _ I h) fun v s1 ⟨y, H1, I1, r1, q1⟩ => ?_) hs
  exact store_ok I1 hN hi hx r1 (fun s2 I2 => ⟨_, H1, I2, q1⟩) hf
end
section
variable {X : Cx} {pos : Pos}
end
structure It where
  go : Nat → Hp → Prop
  yld : Nat → Hp → V → Hp → Prop
  stop : Nat → Hp → Prop
def FpOk (X : Cx) (pins : List (Addr × Obj)) (H : Hp) (b : Addr) : Prop :=
  H b = none ∧ b ≠ X.env.locals ∧ b ∉ X.fs ∧ (b ∈ X.ex ∨ X.s₀.heap.objs.size ≤ b) ∧ (∀ x c, X.env.cells.lookup x = some c → c ≠ b) ∧ ∀ p ∈ X.pn ++ pins, p.1 ≠ b
theorem Inv.fpOk {X : Cx} {pins : List (Addr × Obj)} {σ : St} {H H' : Hp} {s : Shared} {b : Addr} (I : Inv X pins σ H s) (hb : s.heap.objs.size ≤ b) (hn : H' b = none) : FpOk X pins H' b := by
  refine ⟨hn, Nat.ne_of_gt (Nat.lt_of_lt_of_le I.lt hb), I.nofs hb, .inr (Nat.le_trans I.sz hb), fun x c e z => ?_, fun p hp z => ?_⟩
  · obtain ⟨v, q⟩ := I.cell x c e
    exact absurd (Nat.lt_of_lt_of_le q.lt (by rw [z]; exact hb)) (Nat.lt_irrefl _)
  · exact absurd (Nat.lt_of_lt_of_le (Heap.lt_size (I.pin p hp).1) (by rw [z]; exact hb)) (Nat.lt_irrefl _)
structure Turn (P : Program) (w : World) (K : PySem.W.Frag) (tg : Expr) (J : It) (fp : List Addr) (it : Addr) (tn : Nat → Heap → Prop) : Prop where
  mem : it ∈ fp
  obj : ∀ i h, tn i h → ∀ b ∈ fp, ∃ o, h.get? b = some o ∧ ∀ v, o.data ≠ .cell v
  keep : ∀ i h h', tn i h → (∀ b ∈ fp, ∀ o, h.get? b = some o → h'.get? b = some o) → tn i h'
  item : ∀ (X : Cx), X.prog = P → X.w = w → X.K = K → X.calm = true → ∀ (i : Nat) (pins : List (Addr × Obj)) (s : Shared) (σ : St) (H : Hp) (E : Value → Shared → Prop), Inv X pins σ H s → (∀ b ∈ fp, FpOk X pins H b) → tn i s.heap → J.go i H →
    wpAny (model P w) X.A (pyNext (.ref it)) (fun r s1 => ∃ u, r = some u ∧
      wpAny (model P w) X.A (letOwnedTupleGo tg (.ref it) u) (fun _ s2 => ∃ x H', Inv X pins σ H' s2 ∧ RelV x u ∧ J.yld i H x H' ∧ tn (i + 1) s2.heap ∧ ∀ b ∈ fp, H' b = none) E s1) E s
  done : ∀ (X : Cx), X.prog = P → X.w = w → X.K = K → X.calm = true → ∀ (i : Nat) (pins : List (Addr × Obj)) (s : Shared) (σ : St) (H : Hp) (E : Value → Shared → Prop), Inv X pins σ H s → (∀ b ∈ fp, FpOk X pins H b) → tn i s.heap → J.stop i H →
    wpAny (model P w) X.A (pyNext (.ref it)) (fun r s1 => r = none ∧ Inv X pins σ H s1) E s
  self : ∀ (A : Around) (i : Nat) (s : Shared) (Q : Value → Shared → Prop) (E : Value → Shared → Prop), tn i s.heap → Q (.ref it) s → wpAny (model P w) A (pyIter (.ref it)) Q E s
abbrev TI := St → Hp → (It → Hp → Prop) → Prop
def PIE (X : Cx) (pins : List (Addr × Obj)) (σ : St) (tg : Expr) (R : It → Hp → Prop) (itv : Value) (s2 : Shared) : Prop :=
  ∃ (it : Addr) (fp : List Addr) (tn : Nat → Heap → Prop) (J : It) (H' : Hp), itv = .ref it ∧ Inv X pins σ H' s2 ∧ Turn X.prog X.w X.K tg J fp it tn ∧ tn 0 s2.heap ∧ (∀ b ∈ fp, FpOk X pins H' b) ∧ R J H'
def PI (X : Cx) (tg iter : Expr) (wi : TI) : Prop :=
  ∀ (pins : List (Addr × Obj)) (s : Shared) (σ : St) (H : Hp) (R : It → Hp → Prop), Inv X pins σ H s → wi σ H R →
    wpAny (model X.prog X.w) X.A (eval iter X.env) (fun v s1 => wpAny (model X.prog X.w) X.A (pyIter v) (PIE X pins σ tg R) X.xe s1) X.xe s
theorem go_of {M : Model} {A : Around} {E : Value → Shared → Prop} {s : Shared} {tg : Expr} {it : Addr} {u : Value} {o : Obj} {n : String} {vs : Array Value} {Q : Unit → Shared → Prop} (ho : s.heap.get? it = some o) (hc : o.cls = .type n) (hd : o.data = .fields vs)
    (hn : ["enumerate", "zip", "dict_itemiterator", "dict_reverseitemiterator", "odict_iterator", "itertools.zip_longest", "itertools.pairwise"].contains n = false) (hQ : Q () s) : wpAny M A (letOwnedTupleGo tg (.ref it) u) Q E s := by
  unfold letOwnedTupleGo
  cases tg <;> first
    | exact wpAny_pure hQ
    | (cases u <;> first
        | exact wpAny_pure hQ
        | (refine wpAny_bind (wpAny_load ho ?_)
           rw [hc, hd]
           show wpAny M A (if (["enumerate", "zip", "dict_itemiterator", "dict_reverseitemiterator", "odict_iterator", "itertools.zip_longest", "itertools.pairwise"].contains n && vs[0]? == some (rawInt _)) = true then _ else _) Q E s
           rw [if_neg (by intro h; rw [hn, Bool.false_and] at h; cases h)]
           exact wpAny_pure hQ))
def Itl (K : PySem.W.Frag) (a : Addr) : It :=
  ⟨fun i H => ∃ xs x, SqL K H a xs ∧ xs[i]? = some x, fun i H x H' => H' = H ∧ ∀ xs, SqL K H a xs → xs[i]? = some x, fun i H => ∃ xs, SqL K H a xs ∧ xs.length ≤ i⟩
def Itt (K : PySem.W.Frag) (a : Addr) : It :=
  ⟨fun i H => ∃ xs x, SqT K H a xs ∧ xs[i]? = some x, fun i H x H' => H' = H ∧ ∀ xs, SqT K H a xs → xs[i]? = some x, fun i H => ∃ xs, SqT K H a xs ∧ xs.length ≤ i⟩
def Itr (lo : Int) (n : Nat) : It := ⟨fun i _ => i < n, fun i H x H' => H' = H ∧ x = .int (lo + i), fun i _ => n ≤ i⟩
theorem turn_list {P : Program} {w : World} {K : PySem.W.Frag} {tg : Expr} (a it : Addr) : Turn P w K tg (Itl K a) [it] it (fun i h => h.IsListIter it a i) where
  mem := by simp
  obj := fun i h st b hb => by
    have e : b = it := by simpa using hb
    subst e
    obtain ⟨o, e, c, d⟩ := st
    exact ⟨o, e, fun v z => by rw [d] at z; cases z⟩
  keep := fun i h h' st k => st.at fun o e => k it (by simp) o e
  item := by
    intro X hP hw hK hc i pins s σ H E I hf st hg
    subst hP hw hK
    obtain ⟨xs, x, hq, hx⟩ := hg
    obtain ⟨its, rv, p, hz⟩ := I.list hq
    obtain ⟨u, hu, ru⟩ := rv.get hx
    obtain ⟨f0, f1, f2, f3, f4, f5⟩ := hf it (by simp)
    refine wpAny_pyNext_list_item st p.isList (x := u) (by simpa using hu) fun h' st' sb => ?_
    have I1 : Inv X pins σ H { s with heap := h' } := I.turned (t' := s.toks) (fun b o hb e => (sb.2 b hb).trans e) f0 f1 f3 f4 f5
    obtain ⟨o, e, c, d⟩ := id st'
    exact ⟨u, rfl, go_of (s := { s with heap := h' }) e c d (by decide) ⟨x, H, I1, ru, ⟨rfl, fun ys hy => by rw [I.list_inj hy hq]; exact hx⟩, st', fun b hb => (hf b hb).1⟩⟩
  done := by
    intro X hP hw hK hc i pins s σ H E I hf st hg
    subst hP hw hK
    obtain ⟨xs, hq, hx⟩ := hg
    obtain ⟨its, rv, p, hz⟩ := I.list hq
    obtain ⟨f0, f1, f2, f3, f4, f5⟩ := hf it (by simp)
    have hl := rv.length
    exact wpAny_pyNext_list_end (I.ok.hd hc) st p.isList (by simp; omega) fun h' eb => ⟨rfl, I.turned (t' := s.toks) (fun b o hb e => eb b o hb e) f0 f1 f3 f4 f5⟩
  self := fun _ _ _ _ _ st h => wpAny_pyIter_listiter st h
theorem turn_tuple {P : Program} {w : World} {K : PySem.W.Frag} {tg : Expr} (a it : Addr) : Turn P w K tg (Itt K a) [it] it (fun i h => h.IsTupleIter it a i) where
  mem := by simp
  obj := fun i h st b hb => by
    have e : b = it := by simpa using hb
    subst e
    obtain ⟨o, e, c, d⟩ := st
    exact ⟨o, e, fun v z => by rw [d] at z; cases z⟩
  keep := fun i h h' st k => st.at fun o e => k it (by simp) o e
  item := by
    intro X hP hw hK hc i pins s σ H E I hf st hg
    subst hP hw hK
    obtain ⟨xs, x, hq, hx⟩ := hg
    obtain ⟨its, rv, p, hz⟩ := I.tuple hq
    obtain ⟨u, hu, ru⟩ := rv.get hx
    obtain ⟨f0, f1, f2, f3, f4, f5⟩ := hf it (by simp)
    refine wpAny_pyNext_tuple_item st (show s.heap.IsTuple a its.toArray from p) (x := u) (by simpa using hu) fun h' st' sb => ?_
    have I1 : Inv X pins σ H { s with heap := h' } := I.turned (t' := s.toks) (fun b o hb e => (sb.2 b hb).trans e) f0 f1 f3 f4 f5
    obtain ⟨o, e, c, d⟩ := id st'
    exact ⟨u, rfl, go_of (s := { s with heap := h' }) e c d (by decide) ⟨x, H, I1, ru, ⟨rfl, fun ys hy => by rw [I.tuple_inj hy hq]; exact hx⟩, st', fun b hb => (hf b hb).1⟩⟩
  done := by
    intro X hP hw hK hc i pins s σ H E I hf st hg
    subst hP hw hK
    obtain ⟨xs, hq, hx⟩ := hg
    obtain ⟨its, rv, p, hz⟩ := I.tuple hq
    obtain ⟨f0, f1, f2, f3, f4, f5⟩ := hf it (by simp)
    have hl := rv.length
    exact wpAny_pyNext_tuple_end (I.ok.hd hc) st (show s.heap.IsTuple a its.toArray from p) (by simp; omega) fun h' eb => ⟨rfl, I.turned (t' := s.toks) (fun b o hb e => eb b o hb e) f0 f1 f3 f4 f5⟩
  self := fun _ _ _ _ _ st h => wpAny_pyIter_tupleiter st h
theorem turn_range {P : Program} {w : World} {K : PySem.W.Frag} {tg : Expr} (it : Addr) (lo : Int) (n : Nat) : Turn P w K tg (Itr lo n) [it] it (fun i h => IsRangeIter h it (lo + (i : Nat) * 1) ((n : Int) - (i : Nat)) 1) where
  mem := by simp
  obj := fun i h st b hb => by
    have e : b = it := by simpa using hb
    subst e
    exact ⟨_, st, fun v z => by
      have z' : Data.fields _ = Data.cell v := z
      cases z'⟩
  keep := fun i h h' st k => k it (by simp) _ st
  item := by
    intro X hP hw hK hc i pins s σ H E I hf st hg
    subst hP hw hK
    obtain ⟨f0, f1, f2, f3, f4, f5⟩ := hf it (by simp)
    have W := Walks.range (prog := X.prog) (w := X.w) (I.ok.hd hc) it lo 1 n
    refine W.item i s _ _ hg st fun v h' tk hv st' kk => ?_
    obtain ⟨t, rfl⟩ := hv
    have I1 : Inv X pins σ H { s with heap := h', toks := tk } := I.turned (fun b o hb e => kk b o (by simpa using hb) e) f0 f1 f3 f4 f5
    refine ⟨_, rfl, go_of (s := { s with heap := h', toks := tk }) (n := "range_iterator") st' rfl rfl (by decide) ⟨.int (lo + i), H, I1, ⟨t, ?_⟩, ⟨rfl, rfl⟩, st', fun b hb => (hf b hb).1⟩⟩
    rw [Int.mul_one]
  done := by
    intro X hP hw hK hc i pins s σ H E I hf st hg
    subst hP hw hK
    obtain ⟨f0, f1, f2, f3, f4, f5⟩ := hf it (by simp)
    exact wpAny_pyNext_range_end (I.ok.hd hc) st (by have : n ≤ i := hg; omega) fun h' eb => ⟨rfl, I.turned (t' := s.toks) (fun b o hb e => eb b o hb e) f0 f1 f3 f4 f5⟩
  self := fun _ _ _ _ _ st h => wpAny_pyIter_rangeiter st h
end L2
namespace L2
open PySem PySem.Spec PyProof.Rows
section
variable {X : Cx} {tg : Expr}
def iList (K : PySem.W.Frag) (tl : TE) : TI := fun σ H R => tl σ H fun x H1 => ∃ a, x = .ref a ∧ (∃ xs, SqL K H1 a xs) ∧ R (Itl K a) H1
def iTup (K : PySem.W.Frag) (tl : TE) : TI := fun σ H R => tl σ H fun x H1 => ∃ a, x = .ref a ∧ (∃ xs, SqT K H1 a xs) ∧ R (Itt K a) H1
theorem pi_list {l : Expr} {tl : TE} (hl : PE X l tl) : PI X tg l (iList X.K tl) := by
  intro pins s σ H R I h
  refine thn (hl pins s σ H _ I h) fun v s1 ⟨x, H1, I1, r1, q1⟩ => ?_
  obtain ⟨a, e, ⟨xs, hq⟩, q⟩ := q1
  subst e
  cases r1
  obtain ⟨its, rv, p, hz⟩ := I1.list hq
  refine wpAny_pyIter_list p.isList ?_
  refine ⟨s1.heap.objs.size, [s1.heap.objs.size], _, _, H1, rfl, I1.kept (t' := s1.toks) fun b o e => Heap.get?_push_of_some _ e, turn_list a _, ⟨_, Heap.get?_push_size _ rfl, rfl, rfl⟩, fun b hb => ?_, q⟩
  have e : b = s1.heap.objs.size := by simpa using hb
  subst e
  exact I1.fpOk (Nat.le_refl _) (I1.hok.fresh (Nat.le_refl _))
theorem pi_tup {l : Expr} {tl : TE} (hl : PE X l tl) : PI X tg l (iTup X.K tl) := by
  intro pins s σ H R I h
  refine thn (hl pins s σ H _ I h) fun v s1 ⟨x, H1, I1, r1, q1⟩ => ?_
  obtain ⟨a, e, ⟨xs, hq⟩, q⟩ := q1
  subst e
  cases r1
  obtain ⟨its, rv, p, hz⟩ := I1.tuple hq
  refine wpAny_pyIter_tuple (show s1.heap.IsTuple a its.toArray from p) ?_
  refine ⟨s1.heap.objs.size, [s1.heap.objs.size], _, _, H1, rfl, I1.kept (t' := s1.toks) fun b o e => Heap.get?_push_of_some _ e, turn_tuple a _, ⟨_, Heap.get?_push_size _ rfl, rfl, rfl⟩, fun b hb => ?_, q⟩
  have e : b = s1.heap.objs.size := by simpa using hb
  subst e
  exact I1.fpOk (Nat.le_refl _) (I1.hok.fresh (Nat.le_refl _))
theorem range_it {pins : List (Addr × Obj)} {σ : St} {H : Hp} {s : Shared} {R : It → Hp → Prop} {E : Value → Shared → Prop} {lo hi : Int} {t u v : Tok} {tk : Nat} (I : Inv X pins σ H s) (h1 : -(2 ^ 62) ≤ lo) (h2 : lo < 2 ^ 62) (h3 : -(2 ^ 62) ≤ hi) (h4 : hi < 2 ^ 62)
    (q : R (Itr lo (hi - lo).toNat) H) : wpAny (model X.prog X.w) X.A (pyIter (.ref s.heap.objs.size)) (PIE X pins σ tg R) E { s with heap := s.heap.push { cls := .type "range", data := .fields #[.int lo t, .int hi u, .int 1 v] }, toks := tk } := by
  refine wpAny_pyIter_range (IsRange.new ..) (small_one h1 h2 h3 h4) ?_
  have I1 : Inv X pins σ H { s with heap := s.heap.push { cls := .type "range", data := .fields #[.int lo t, .int hi u, .int 1 v] }, toks := tk } := I.kept fun b o e => Heap.get?_push_of_some _ e
  refine ⟨(s.heap.push { cls := .type "range", data := .fields #[.int lo t, .int hi u, .int 1 v] }).objs.size, [(s.heap.push { cls := .type "range", data := .fields #[.int lo t, .int hi u, .int 1 v] }).objs.size], _, _, H, rfl,
    I1.kept (t' := tk) fun b o e => Heap.get?_push_of_some _ e, turn_range _ lo (hi - lo).toNat, ?_, fun b hb => ?_, q⟩
  · have e1 : lo + ((0 : Nat) : Int) * 1 = lo := by simp
    have e2 : (((hi - lo).toNat : Nat) : Int) - ((0 : Nat) : Int) = Builtin.Range.rangeSize lo hi 1 := by rw [rangeSize_one]; split <;> omega
    show IsRangeIter _ _ (lo + ((0 : Nat) : Int) * 1) ((((hi - lo).toNat : Nat) : Int) - ((0 : Nat) : Int)) 1
    rw [e1, e2]
    exact Heap.get?_push_size _ rfl
  · have e : b = (s.heap.push { cls := .type "range", data := .fields #[.int lo t, .int hi u, .int 1 v] }).objs.size := by simpa using hb
    subst e
    exact I1.fpOk (Nat.le_refl _) (I1.hok.fresh (Nat.le_refl _))
def iRng1 (ta : TA) : TI := fun σ H R => ta σ H fun vs H1 => ∃ j : Int, vs = [.int j] ∧ -(2 ^ 62) ≤ j ∧ j < 2 ^ 62 ∧ R (Itr 0 j.toNat) H1
theorem pi_range1 {a : Expr} {ta : TA} {p pos : Pos} (hg : Gl X "range") (hm : X.mg "range" = none) (ha : PA X [a] ta) (hs : starEach [a] X.env = [(false, eval a X.env)] := by rfl) : PI X tg (.Call (.Name "range" p) [a] [] pos) (iRng1 ta) := by
  intro pins s σ H R I h
  refine Call_ (ld_blt I hg hm boot_range (PyProof.Rows.callWith_type1 (thn (ha pos pins s σ H _ I h) fun us s1 ⟨vs, H1, I1, r1, q1⟩ => ?_) hs rfl))
  obtain ⟨j, e, q1, q2, q⟩ := q1
  subst e
  cases r1 with
  | cons r rr =>
    cases rr
    obtain ⟨t, rfl⟩ := r
    exact call_range_1 (range_it I1 (by omega) (by omega) q1 q2 (by simpa using q))
def tFor (wi : TI) (g : TG) (tb : TS) : TS := fun D σ H => wi σ H fun J H1 => ∃ W : Nat → Nat → St → Hp → Prop, (∃ m, W 0 m σ H1) ∧ ∀ i m σ H, W i m σ H →
  (J.stop i H ∧ D.nx σ H) ∨ (J.go i H ∧ ∃ N : St → Hp → Prop, (∀ σ' H', N σ' H' → ∃ m', m' < m ∧ W (i + 1) m' σ' H') ∧ ∀ x H', J.yld i H x H' → g x σ H' fun σ2 H2 => tb { D with nx := N, ct := N, bk := D.nx } σ2 H2)
def pinsAt (fp : List Addr) (h : Heap) : List (Addr × Obj) := fp.filterMap fun b => (h.get? b).map fun o => (b, o)
theorem mem_pinsAt {fp : List Addr} {h : Heap} {b : Addr} {o : Obj} (hb : b ∈ fp) (e : h.get? b = some o) : (b, o) ∈ pinsAt fp h := List.mem_filterMap.mpr ⟨b, hb, by rw [e]; rfl⟩
theorem of_pinsAt {fp : List Addr} {h : Heap} {p : Addr × Obj} (hp : p ∈ pinsAt fp h) : p.1 ∈ fp ∧ h.get? p.1 = some p.2 := by
  obtain ⟨b, hb, e⟩ := List.mem_filterMap.mp hp
  cases q : h.get? b with
  | none => rw [q] at e; cases e
  | some o =>
    rw [q] at e
    have e' : (b, o) = p := Option.some.inj e
    subst e'
    exact ⟨hb, q⟩
theorem Inv.pinned {pins : List (Addr × Obj)} {σ : St} {H : Hp} {s : Shared} {fp : List Addr} (I : Inv X pins σ H s) (hf : ∀ b ∈ fp, FpOk X pins H b) (ho : ∀ b ∈ fp, ∃ o, s.heap.get? b = some o ∧ ∀ v, o.data ≠ .cell v) : Inv X (pins ++ pinsAt fp s.heap) σ H s :=
  I.pins_of fun p hp => (List.mem_append.mp hp).elim (fun z => I.pin p (List.mem_append_right _ z)) fun z => by
    obtain ⟨hb, e⟩ := of_pinsAt z
    obtain ⟨f0, f1, f2, _⟩ := hf p.1 hb
    obtain ⟨o, e', d⟩ := ho p.1 hb
    rw [e] at e'; cases e'
    exact ⟨e, f0, f1, f2, d⟩
theorem Inv.unpinned {pins pl : List (Addr × Obj)} {σ : St} {H : Hp} {s : Shared} (I : Inv X (pins ++ pl) σ H s) : Inv X pins σ H s := I.pins_of fun p hp => I.pin p (List.mem_append_right _ (List.mem_append_left _ hp))
theorem ps_for {iter : Expr} {body : List Stmt} {wi : TI} {g : TG} {tb : TS} {pos : Pos} (hp : PassesOwn (model X.prog X.w) X.A X.env X.xe) (hc : X.calm = true) (hi : PI X tg iter wi) (hg : PG X tg g) (hb : PSs X body tb)
    (hs : ∀ x, foldedSetIterable iter X.env x = pure x := by intro _; rfl) : PS X (.For tg iter body [] pos) (tFor wi g tb) := by
  intro pins s σ H D I h
  refine wpAny_For (thn (hi pins s σ H _ I h) fun v s1 h1 => thn h1 fun itv s2 h2 => ?_) hs
  obtain ⟨it, fp, tn, J, H2, e, I2, T, st2, f2, W, ⟨m0, w0⟩, turn⟩ := h2
  subst e
  -- what stays true of the iterator's objects through the loop
  have stat : ∀ {H' : Hp}, (∀ b ∈ fp, H' b = none) → ∀ b ∈ fp, FpOk X pins H' b := fun hn b hb => ⟨hn b hb, (f2 b hb).2⟩
  refine codeAny_forLoop_any (fun n s' => ∃ i σ' H', Inv X pins σ' H' s' ∧ tn i s'.heap ∧ (∀ b ∈ fp, H' b = none) ∧ W i n σ' H') ?_ m0 ⟨0, σ, H2, I2, st2, fun b hb => (f2 b hb).1, w0⟩
  rintro n s3 ⟨i, σ3, H3, I3, st3, fr3, w3⟩
  rcases turn i n σ3 H3 w3 with ⟨stop, qn⟩ | ⟨go, N, hN, step⟩
  · refine wpAny_passesOwn hp (thn (T.done X rfl rfl rfl hc i pins s3 σ3 H3 X.xe I3 (stat fr3) st3 stop) fun r s4 ⟨hr, I4⟩ => ?_)
    subst hr
    exact wpAny_execs_nil ⟨σ3, H3, I4, qn⟩
  · refine wpAny_passesOwn hp (thn (T.item X rfl rfl rfl hc i pins s3 σ3 H3 X.xe I3 (stat fr3) st3 go) fun r s4 ⟨u, hr, h4⟩ => ?_)
    subst hr
    refine wpAny_passesOwn hp (thn h4 fun _ s5 ⟨x, H5, I5, r5, y5, st5, fr5⟩ => ?_)
    have I5' := I5.pinned (stat fr5) (T.obj _ _ st5)
    refine wpAny_passesOwn hp (thn (hg _ s5 σ3 H5 x u _ I5' r5 (step x H5 y5)) fun _ s6 ⟨σ6, H6, I6, q6⟩ => ?_)
    refine wpAny_passesOwn hp (thn (hb _ s6 σ6 H6 _ I6 q6) fun f s7 q7 => ?_)
    have again : ∀ {σ7 : St} {H7 : Hp}, Inv X (pins ++ pinsAt fp s5.heap) σ7 H7 s7 → N σ7 H7 → ∃ m, m < n ∧ ∃ i σ' H', Inv X pins σ' H' s7 ∧ tn i s7.heap ∧ (∀ b ∈ fp, H' b = none) ∧ W i m σ' H' := fun {σ7 H7} I7 n7 => by
      obtain ⟨m', hm, w7⟩ := hN σ7 H7 n7
      refine ⟨m', hm, i + 1, σ7, H7, I7.unpinned, T.keep _ _ _ st5 fun b hb o e => (I7.pin (b, o) (List.mem_append_right _ (List.mem_append_right _ (mem_pinsAt hb e)))).1, fun b hb => ?_, w7⟩
      obtain ⟨o, e, d⟩ := T.obj _ _ st5 b hb
      exact (I7.pin (b, o) (List.mem_append_right _ (List.mem_append_right _ (mem_pinsAt hb e)))).2.1
    cases f with
    | next => obtain ⟨σ7, H7, I7, n7⟩ := q7; exact again I7 n7
    | cont => obtain ⟨σ7, H7, I7, n7⟩ := q7; exact again I7 n7
    | brk => obtain ⟨σ7, H7, I7, q7⟩ := q7; exact ⟨σ7, H7, I7.unpinned, q7⟩
    | ret v => obtain ⟨x7, σ7, H7, I7, r7, q7⟩ := q7; exact ⟨x7, σ7, H7, I7.unpinned, r7, q7⟩
end
theorem for_list {K : PySem.W.Frag} {a : Addr} {xs : List V} {g : TG} {tb : TS} {D : Ends} {σ : St} {H : Hp} (Pv : Nat → St → Hp → Prop) (h0 : Pv 0 σ H) (hl : ∀ i σ H, i ≤ xs.length → Pv i σ H → SqL K H a xs)
    (hs : ∀ i x σ H, xs[i]? = some x → Pv i σ H → g x σ H fun σ2 H2 => tb { D with nx := Pv (i + 1), ct := Pv (i + 1), bk := D.nx } σ2 H2) (hd : ∀ σ H, Pv xs.length σ H → D.nx σ H) :
    ∃ W : Nat → Nat → St → Hp → Prop, (∃ m, W 0 m σ H) ∧ ∀ i m σ H, W i m σ H →
      ((Itl K a).stop i H ∧ D.nx σ H) ∨ ((Itl K a).go i H ∧ ∃ N : St → Hp → Prop, (∀ σ' H', N σ' H' → ∃ m', m' < m ∧ W (i + 1) m' σ' H') ∧ ∀ x H', (Itl K a).yld i H x H' → g x σ H' fun σ2 H2 => tb { D with nx := N, ct := N, bk := D.nx } σ2 H2) := by
  refine ⟨fun i m σ H => m = xs.length - i ∧ i ≤ xs.length ∧ Pv i σ H, ⟨xs.length, by simp, Nat.zero_le _, h0⟩, ?_⟩
  rintro i m σ H ⟨rfl, hi, p⟩
  have q := hl i σ H hi p
  by_cases hlt : i < xs.length
  · refine .inr ⟨⟨xs, xs[i], q, by simp [hlt]⟩, Pv (i + 1), fun σ' H' p' => ⟨xs.length - (i + 1), by omega, rfl, hlt, p'⟩, fun x H' y => ?_⟩
    obtain ⟨e, y⟩ := y
    subst e
    exact hs i x σ _ (y xs q) p
  · have e : i = xs.length := by omega
    subst e
    exact .inl ⟨⟨xs, q, Nat.le_refl _⟩, hd σ H p⟩
theorem for_tup {K : PySem.W.Frag} {a : Addr} {xs : List V} {g : TG} {tb : TS} {D : Ends} {σ : St} {H : Hp} (Pv : Nat → St → Hp → Prop) (h0 : Pv 0 σ H) (hl : ∀ i σ H, i ≤ xs.length → Pv i σ H → SqT K H a xs)
    (hs : ∀ i x σ H, xs[i]? = some x → Pv i σ H → g x σ H fun σ2 H2 => tb { D with nx := Pv (i + 1), ct := Pv (i + 1), bk := D.nx } σ2 H2) (hd : ∀ σ H, Pv xs.length σ H → D.nx σ H) :
    ∃ W : Nat → Nat → St → Hp → Prop, (∃ m, W 0 m σ H) ∧ ∀ i m σ H, W i m σ H →
      ((Itt K a).stop i H ∧ D.nx σ H) ∨ ((Itt K a).go i H ∧ ∃ N : St → Hp → Prop, (∀ σ' H', N σ' H' → ∃ m', m' < m ∧ W (i + 1) m' σ' H') ∧ ∀ x H', (Itt K a).yld i H x H' → g x σ H' fun σ2 H2 => tb { D with nx := N, ct := N, bk := D.nx } σ2 H2) := by
  refine ⟨fun i m σ H => m = xs.length - i ∧ i ≤ xs.length ∧ Pv i σ H, ⟨xs.length, by simp, Nat.zero_le _, h0⟩, ?_⟩
  rintro i m σ H ⟨rfl, hi, p⟩
  have q := hl i σ H hi p
  by_cases hlt : i < xs.length
  · refine .inr ⟨⟨xs, xs[i], q, by simp [hlt]⟩, Pv (i + 1), fun σ' H' p' => ⟨xs.length - (i + 1), by omega, rfl, hlt, p'⟩, fun x H' y => ?_⟩
    obtain ⟨e, y⟩ := y
    subst e
    exact hs i x σ _ (y xs q) p
  · have e : i = xs.length := by omega
    subst e
    exact .inl ⟨⟨xs, q, Nat.le_refl _⟩, hd σ H p⟩
theorem for_range {lo : Int} {n : Nat} {g : TG} {tb : TS} {D : Ends} {σ : St} {H : Hp} (Pv : Nat → St → Hp → Prop) (h0 : Pv 0 σ H)
    (hs : ∀ i σ H, i < n → Pv i σ H → g (.int (lo + i)) σ H fun σ2 H2 => tb { D with nx := Pv (i + 1), ct := Pv (i + 1), bk := D.nx } σ2 H2) (hd : ∀ σ H, Pv n σ H → D.nx σ H) :
    ∃ W : Nat → Nat → St → Hp → Prop, (∃ m, W 0 m σ H) ∧ ∀ i m σ H, W i m σ H →
      ((Itr lo n).stop i H ∧ D.nx σ H) ∨ ((Itr lo n).go i H ∧ ∃ N : St → Hp → Prop, (∀ σ' H', N σ' H' → ∃ m', m' < m ∧ W (i + 1) m' σ' H') ∧ ∀ x H', (Itr lo n).yld i H x H' → g x σ H' fun σ2 H2 => tb { D with nx := N, ct := N, bk := D.nx } σ2 H2) := by
  refine ⟨fun i m σ H => m = n - i ∧ i ≤ n ∧ Pv i σ H, ⟨n, by simp, Nat.zero_le _, h0⟩, ?_⟩
  rintro i m σ H ⟨rfl, hi, p⟩
  by_cases hlt : i < n
  · refine .inr ⟨hlt, Pv (i + 1), fun σ' H' p' => ⟨n - (i + 1), by omega, rfl, hlt, p'⟩, fun x H' y => ?_⟩
    obtain ⟨e, y⟩ := y
    subst e y
    exact hs i σ _ hlt p
  · have e : i = n := by omega
    subst e
    exact .inl ⟨Nat.le_refl _, hd σ H p⟩
end L2
namespace L2
open PySem PySem.Spec PyProof.Rows
abbrev R2 := V → V → Hp → VK → Prop
def OpR (X : Cx) (f : Value → Value → Sem Value) (r : R2) : Prop :=
  ∀ (pins : List (Addr × Obj)) (s : Shared) (σ : St) (H : Hp) (x y : V) (v u : Value) (Q : VK), Inv X pins σ H s → RelV x v → RelV y u → r x y H Q →
    wpAny (model X.prog X.w) X.A (f v u) (EP X pins σ Q) X.xe s
def UnR (X : Cx) (f : Value → Sem Value) (r : V → Hp → VK → Prop) : Prop :=
  ∀ (pins : List (Addr × Obj)) (s : Shared) (σ : St) (H : Hp) (x : V) (v : Value) (Q : VK), Inv X pins σ H s → RelV x v → r x H Q →
    wpAny (model X.prog X.w) X.A (f v) (EP X pins σ Q) X.xe s
def CallR (X : Cx) (f : Value) (r : List V → Hp → VK → Prop) : Prop :=
  ∀ (pins : List (Addr × Obj)) (s : Shared) (σ : St) (H : Hp) (xs : List V) (us : List Value) (Q : VK), Inv X pins σ H s → Vals xs us → r xs H Q →
    wpAny (model X.prog X.w) X.A (call f us) (EP X pins σ Q) X.xe s
def TruR (X : Cx) (r : V → Hp → (Bool → Hp → Prop) → Prop) : Prop :=
  ∀ (pins : List (Addr × Obj)) (s : Shared) (σ : St) (H : Hp) (x : V) (v : Value) (Q : Bool → Hp → Prop), Inv X pins σ H s → RelV x v → r x H Q →
    wpAny (model X.prog X.w) X.A (truthy v) (TP X pins σ Q) X.xe s
def tOp (r : R2) (ta tb : TE) : TE := fun σ H Q => ta σ H fun x H1 => tb σ H1 fun y H2 => r x y H2 Q
def tUn (r : V → Hp → VK → Prop) (ta : TE) : TE := fun σ H Q => ta σ H fun x H1 => r x H1 Q
def rI (C : Int → Int → Prop) (g : Int → Int → V) : R2 := fun x y H Q => ∃ i j, x = .int i ∧ y = .int j ∧ C i j ∧ Q (g i j) H
def rI0 (g : Int → Int → V) : R2 := fun x y H Q => ∃ i j, x = .int i ∧ y = .int j ∧ Q (g i j) H
def rU (g : Int → V) : V → Hp → VK → Prop := fun x H Q => ∃ i, x = .int i ∧ Q (g i) H
section
variable {X : Cx} {a b c : Expr} {ta tb tc : TE} {pos : Pos}
theorem binT (ha : PE X a ta) (hb : PE X b tb) {pins : List (Addr × Obj)} {s : Shared} {σ : St} {H : Hp} {R : V → V → Hp → Prop} (I : Inv X pins σ H s)
    (h : ta σ H fun x H1 => tb σ H1 fun y H2 => R x y H2) {Q : Value → Shared → Prop} {f : Value → Value → Sem Value}
    (hf : ∀ v u s2 x y H2, Inv X pins σ H2 s2 → RelV x v → RelV y u → R x y H2 → wpAny (model X.prog X.w) X.A (f v u) Q X.xe s2) :
    wpAny (model X.prog X.w) X.A (eval a X.env) (fun v s₁ => wpAny (model X.prog X.w) X.A (eval b X.env) (fun u s₂ => wpAny (model X.prog X.w) X.A (f v u) Q X.xe s₂) X.xe s₁) X.xe s := by
  refine thn (ha pins s σ H _ I h) fun v s1 ⟨x, H1, I1, r1, q1⟩ => ?_
  refine thn (hb pins s1 σ H1 _ I1 q1) fun u s2 ⟨y, H2, I2, r2, q2⟩ => ?_
  exact hf v u s2 x y H2 I2 r1 r2 q2
theorem pe_op {op : Operator} {r : R2} (ho : OpR X (binaryOp op) r) (ha : PE X a ta) (hb : PE X b tb) : PE X (.BinOp a op b pos) (tOp r ta tb) := by
  intro pins s σ H Q I h
  exact wpAny_BinOp (binT ha hb I h fun v u s2 x y H2 I2 rx ry q => ho pins s2 σ H2 x y v u Q I2 rx ry q)
theorem pe_un {op : UnaryOp} {r : V → Hp → VK → Prop} (ho : UnR X (unaryOp op) r) (ha : PE X a ta) : PE X (.UnaryOp op a pos) (tUn r ta) := by
  intro pins s σ H Q I h
  exact UnaryOp_ (thn (ha pins s σ H _ I h) fun v s1 ⟨x, H1, I1, r1, q1⟩ => ho pins s1 σ H1 x v Q I1 r1 q1)
theorem opI {f : Value → Value → Sem Value} {C : Int → Int → Prop} {g : Int → Int → Int}
    (rule : ∀ (i j : Int) (t u : Tok) (s : Shared) (Q : Value → Shared → Prop) (E : Value → Shared → Prop), C i j → Q (.int (g i j) s.toks) { s with toks := s.toks + 1 } → wpAny (model X.prog X.w) X.A (f (.int i t) (.int j u)) Q E s) :
    OpR X f (rI C fun i j => .int (g i j)) := by
  intro pins s σ H x y v u Q I rx ry h
  obtain ⟨i, j, rfl, rfl, hc, q⟩ := h
  obtain ⟨t, rfl⟩ := rx
  obtain ⟨t', rfl⟩ := ry
  exact rule i j t t' s _ _ hc ⟨.int (g i j), H, I.tok _, ⟨_, rfl⟩, q⟩
theorem opI0 {f : Value → Value → Sem Value} {g : Int → Int → Int}
    (rule : ∀ (i j : Int) (t u : Tok) (s : Shared) (Q : Value → Shared → Prop) (E : Value → Shared → Prop), Q (.int (g i j) s.toks) { s with toks := s.toks + 1 } → wpAny (model X.prog X.w) X.A (f (.int i t) (.int j u)) Q E s) :
    OpR X f (rI0 fun i j => .int (g i j)) := by
  intro pins s σ H x y v u Q I rx ry h
  obtain ⟨i, j, rfl, rfl, q⟩ := h
  obtain ⟨t, rfl⟩ := rx
  obtain ⟨t', rfl⟩ := ry
  exact rule i j t t' s _ _ ⟨.int (g i j), H, I.tok _, ⟨_, rfl⟩, q⟩
theorem opB0 {f : Value → Value → Sem Value} {g : Int → Int → Bool}
    (rule : ∀ (i j : Int) (t u : Tok) (s : Shared) (Q : Value → Shared → Prop) (E : Value → Shared → Prop), Q (.bool (g i j)) s → wpAny (model X.prog X.w) X.A (f (.int i t) (.int j u)) Q E s) :
    OpR X f (rI0 fun i j => .bl (g i j)) := by
  intro pins s σ H x y v u Q I rx ry h
  obtain ⟨i, j, rfl, rfl, q⟩ := h
  obtain ⟨t, rfl⟩ := rx
  obtain ⟨t', rfl⟩ := ry
  exact rule i j t t' s _ _ ⟨.bl (g i j), H, I, rfl, q⟩
def CDiv (i j : Int) : Prop := 0 < j ∧ j < 1073741824
def CMul (i j : Int) : Prop := (-(2 ^ 64) < i ∧ i < 2 ^ 64) ∨ (-(2 ^ 64) < j ∧ j < 2 ^ 64)
theorem CMul.ok {i j : Int} (h : CMul i j) : IntMulOk i j := by
  rcases h with ⟨h1, h2⟩ | ⟨h1, h2⟩
  · exact .of_left (intBits_le_64 h1 h2)
  · exact .of_right (intBits_le_64 h1 h2)
theorem op_add : OpR X (binaryOp .Add) (rI0 fun i j => .int (i + j)) := opI0 fun _ _ _ _ _ _ _ q => add_int q
theorem op_mul : OpR X (binaryOp .Mult) (rI CMul fun i j => .int (i * j)) := opI fun _ _ _ _ _ _ _ hc q => mul_int q hc.ok
theorem op_fdiv : OpR X (binaryOp .FloorDiv) (rI CDiv fun i j => .int (i / j)) := opI fun i j _ _ _ _ _ hc q => by
  have h1 : (0 : Int) < j := hc.1
  have h2 : j < 1073741824 := hc.2
  exact floordiv_int (by omega) (by rw [Int.fdiv_eq_ediv_of_nonneg i (by omega)]; exact q) (.inl (PyProof.noPylong_small (by omega)))
theorem op_mod : OpR X (binaryOp .Mod) (rI (fun _ j => 0 < j) fun i j => .int (i % j)) := opI fun i j _ _ _ _ _ hc q => by
  have h1 : (0 : Int) < j := hc
  exact mod_int' (by omega) (by rw [Int.fmod_eq_emod_of_nonneg i (by omega)]; exact q)
theorem unI {f : Value → Sem Value} {g : Int → Int}
    (rule : ∀ (i : Int) (t : Tok) (s : Shared) (Q : Value → Shared → Prop) (E : Value → Shared → Prop), Q (.int (g i) s.toks) { s with toks := s.toks + 1 } → wpAny (model X.prog X.w) X.A (f (.int i t)) Q E s) :
    UnR X f (rU fun i => .int (g i)) := by
  intro pins s σ H x v Q I rx h
  obtain ⟨i, rfl, q⟩ := h
  obtain ⟨t, rfl⟩ := rx
  exact rule i t s _ _ ⟨.int (g i), H, I.tok _, ⟨_, rfl⟩, q⟩
theorem un_neg : UnR X (unaryOp .USub) (rU fun i => .int (-i)) := unI fun _ _ _ _ _ q => neg_int q
end
def scal : V → V → Bool
  | .non, .non => true | .non, .int _ => true | .int _, .non => true | .non, .bl _ => true | .bl _, .non => true | .non, .str _ => true | .str _, .non => true
  | .int _, .int _ => true | .bl _, .bl _ => true | .str _, .str _ => true | .byt _, .byt _ => true
  | .int _, .str _ => true | .str _, .int _ => true | .bl _, .str _ => true | .str _, .bl _ => true
  | _, _ => false
def rEq : R2 := fun x y H Q => scal x y = true ∧ Q (.bl (decide (x = y))) H
def rNe : R2 := fun x y H Q => scal x y = true ∧ Q (.bl (!decide (x = y))) H
theorem dec_int {i j : Int} : decide (V.int i = V.int j) = (i == j) := by
  rw [Bool.eq_iff_iff]
  simp
theorem dec_bl {i j : Bool} : decide (V.bl i = V.bl j) = (i == j) := by
  rw [Bool.eq_iff_iff]
  simp
theorem dec_str {i j : Str} : decide (V.str i = V.str j) = (i == j) := by
  rw [Bool.eq_iff_iff]
  simp
theorem dec_byt {i j : Array UInt8} : decide (V.byt i = V.byt j) = (i.toList == j.toList) := by
  rw [Bool.eq_iff_iff]
  cases i
  cases j
  simp
section
variable {X : Cx} {a b c : Expr} {ta tb tc : TE} {pos : Pos}
theorem fin_bl {pins : List (Addr × Obj)} {σ : St} {H : Hp} {s : Shared} {Q : VK} {k k' : Bool} (I : Inv X pins σ H s) (q : Q (.bl k) H) (e : k = k') : EP X pins σ Q (.bool k') s := by
  subst e
  exact ⟨.bl k, H, I, rfl, q⟩
theorem op_eq : OpR X (compareOp .Eq) rEq := by
  intro pins s σ H x y v u Q I rx ry h
  obtain ⟨hs, q⟩ := h
  cases x with
  | non =>
    cases rx
    cases y with
    | non => cases ry; exact PySem.EqNone.eq_none_none (fin_bl I q (by simp))
    | bl j => cases ry; exact PySem.EqNone.eq_none_bool (fin_bl I q (by simp))
    | int j => obtain ⟨t', rfl⟩ := ry; exact PySem.EqNone.eq_none_int (fin_bl I q (by simp))
    | str j => obtain ⟨t', rfl⟩ := ry; exact PySem.EqNone.eq_none_str (fin_bl I q (by simp))
    | _ => exact absurd (show false = true from hs) Bool.false_ne_true
  | bl i =>
    cases rx
    cases y with
    | non => cases ry; exact PySem.EqNone.eq_bool_none (fin_bl I q (by simp))
    | bl j => cases ry; exact eq_bool (fin_bl I q dec_bl)
    | str j => obtain ⟨t', rfl⟩ := ry; exact PySem.EqMixed.eq_bool_str (fin_bl I q (by simp))
    | _ => exact absurd (show false = true from hs) Bool.false_ne_true
  | int i =>
    obtain ⟨t, rfl⟩ := rx
    cases y with
    | non => cases ry; exact PySem.EqNone.eq_int_none (fin_bl I q (by simp))
    | int j => obtain ⟨t', rfl⟩ := ry; exact eq_int (fin_bl I q dec_int)
    | str j => obtain ⟨t', rfl⟩ := ry; exact PySem.EqMixed.eq_int_str (fin_bl I q (by simp))
    | _ => exact absurd (show false = true from hs) Bool.false_ne_true
  | str i =>
    obtain ⟨t, rfl⟩ := rx
    cases y with
    | non => cases ry; exact PySem.EqNone.eq_str_none (fin_bl I q (by simp))
    | bl j => cases ry; exact PySem.EqMixed.eq_str_bool (fin_bl I q (by simp))
    | int j => obtain ⟨t', rfl⟩ := ry; exact PySem.EqMixed.eq_str_int (fin_bl I q (by simp))
    | str j => obtain ⟨t', rfl⟩ := ry; exact eq_str (fin_bl I q dec_str)
    | _ => exact absurd (show false = true from hs) Bool.false_ne_true
  | byt i =>
    obtain ⟨t, rfl⟩ := rx
    cases y with
    | byt j => obtain ⟨t', rfl⟩ := ry; exact PySem.W.eq_bytes (fin_bl I q dec_byt)
    | _ => exact absurd (show false = true from hs) Bool.false_ne_true
  | _ => cases y <;> exact absurd (show false = true from hs) Bool.false_ne_true
theorem op_ne : OpR X (compareOp .NotEq) rNe := by
  intro pins s σ H x y v u Q I rx ry h
  obtain ⟨hs, q⟩ := h
  cases x with
  | non =>
    cases rx
    cases y with
    | non => cases ry; exact PySem.EqNone.ne_none_none (fin_bl I q (by simp))
    | bl j => cases ry; exact PySem.EqNone.ne_none_bool (fin_bl I q (by simp))
    | int j => obtain ⟨t', rfl⟩ := ry; exact PySem.EqNone.ne_none_int (fin_bl I q (by simp))
    | str j => obtain ⟨t', rfl⟩ := ry; exact PySem.EqNone.ne_none_str (fin_bl I q (by simp))
    | _ => exact absurd (show false = true from hs) Bool.false_ne_true
  | bl i =>
    cases rx
    cases y with
    | non => cases ry; exact PySem.EqNone.ne_bool_none (fin_bl I q (by simp))
    | bl j => cases ry; exact ne_bool (fin_bl I q (congrArg not dec_bl))
    | str j => obtain ⟨t', rfl⟩ := ry; exact PySem.EqMixed.ne_bool_str (fin_bl I q (by simp))
    | _ => exact absurd (show false = true from hs) Bool.false_ne_true
  | int i =>
    obtain ⟨t, rfl⟩ := rx
    cases y with
    | non => cases ry; exact PySem.EqNone.ne_int_none (fin_bl I q (by simp))
    | int j => obtain ⟨t', rfl⟩ := ry; exact ne_int (fin_bl I q (congrArg not dec_int))
    | str j => obtain ⟨t', rfl⟩ := ry; exact PySem.EqMixed.ne_int_str (fin_bl I q (by simp))
    | _ => exact absurd (show false = true from hs) Bool.false_ne_true
  | str i =>
    obtain ⟨t, rfl⟩ := rx
    cases y with
    | non => cases ry; exact PySem.EqNone.ne_str_none (fin_bl I q (by simp))
    | bl j => cases ry; exact PySem.EqMixed.ne_str_bool (fin_bl I q (by simp))
    | int j => obtain ⟨t', rfl⟩ := ry; exact PySem.EqMixed.ne_str_int (fin_bl I q (by simp))
    | str j => obtain ⟨t', rfl⟩ := ry; exact ne_str (fin_bl I q (congrArg not dec_str))
    | _ => exact absurd (show false = true from hs) Bool.false_ne_true
  | byt i =>
    obtain ⟨t, rfl⟩ := rx
    cases y with
    | byt j => obtain ⟨t', rfl⟩ := ry; exact PySem.W.ne_bytes (fin_bl I q (congrArg not dec_byt))
    | _ => exact absurd (show false = true from hs) Bool.false_ne_true
  | _ => cases y <;> exact absurd (show false = true from hs) Bool.false_ne_true
theorem op_le : OpR X (compareOp .LtE) (rI0 fun i j => .bl (decide (i ≤ j))) := opB0 fun _ _ _ _ _ _ _ q => le_int q
theorem op_gt : OpR X (compareOp .Gt) (rI0 fun i j => .bl (decide (j < i))) := opB0 fun _ _ _ _ _ _ _ q => gt_int q
theorem op_in_str : OpR X (compareOp .In) (fun x y H Q => ∃ i j, x = .str i ∧ y = .str j ∧ Q (.bl (!(Builtin.Str.occurrences j i 0 j.length 1).isEmpty)) H) := by
  intro pins s σ H x y v u Q I rx ry h
  obtain ⟨i, j, rfl, rfl, q⟩ := h
  obtain ⟨t, rfl⟩ := rx
  obtain ⟨t', rfl⟩ := ry
  exact in_str (fin_bl I q rfl)
theorem nomark (b : Expr) {op : CmpOp} (h : op ≠ .In := by decide) (h2 : op ≠ .NotIn := by decide) : behindInMarks op b = false := by
  have e1 : (op == CmpOp.In) = false := by cases op <;> first | rfl | exact absurd rfl h
  have e2 : (op == CmpOp.NotIn) = false := by cases op <;> first | rfl | exact absurd rfl h2
  cases b <;> simp [behindInMarks, e1, e2]
theorem pe_cmpR {op : CmpOp} {r : R2} (ho : OpR X (compareOp op) r) (ha : PE X a ta) (hb : PE X b tb) (hm : behindInMarks op b = false) : PE X (.Compare a [op] [b] pos) (tOp r ta tb) := by
  intro pins s σ H Q I h
  exact wpAny_Compare1 (binT ha hb I h fun v u s2 x y H2 I2 rx ry q => ho pins s2 σ H2 x y v u Q I2 rx ry q) hm
def tTest (t : TE) : TT := fun σ H Q => t σ H fun x H' => ∃ k, x = .bl k ∧ Q k H'
theorem pt_cmpR {op : CmpOp} {r : R2} (ho : OpR X (compareOp op) r) (ha : PE X a ta) (hb : PE X b tb) (hm : behindInMarks op b = false) : PT X (.Compare a [op] [b] pos) (tTest (tOp r ta tb)) := by
  intro pins s σ H Q I h
  refine wpAny_isTrue_Compare1 (thn (ha pins s σ H _ I h) fun v s1 ⟨x, H1, I1, r1, q1⟩ => thn (hb pins s1 σ H1 _ I1 q1) fun u s2 ⟨y, H2, I2, r2, q2⟩ =>
    thn (ho pins s2 σ H2 x y v u _ I2 r1 r2 q2) fun c s3 ⟨z, H3, I3, r3, k, e, q3⟩ => ?_) hm
  subst e
  cases r3
  exact wpAny_truthy_bool ⟨H3, I3, q3⟩
def tChain (r r' : R2) (ta tb tc : TE) : TE := fun σ H Q => ta σ H fun x H1 => tb σ H1 fun y H2 => r x y H2 fun z H3 => ∃ k, z = .bl k ∧
  (if k = true then tc σ H3 fun w' H4 => r' y w' H4 Q else Q (.bl false) H3)
theorem pe_chain {op op' : CmpOp} {r r' : R2} (ho : OpR X (compareOp op) r) (ho' : OpR X (compareOp op') r') (ha : PE X a ta) (hb : PE X b tb) (hc : PE X c tc)
    (hm : lastMarks [op, op'] [b, c] = false := by with_unfolding_all rfl) : PE X (.Compare a [op, op'] [b, c] pos) (tChain r r' ta tb tc) := by
  intro pins s σ H Q I h
  refine Compare_chain (thn (ha pins s σ H _ I h) fun v s1 ⟨x, H1, I1, r1, q1⟩ => chain_link (thn (hb pins s1 σ H1 _ I1 q1) fun u s2 ⟨y, H2, I2, r2, q2⟩ =>
    thn (ho pins s2 σ H2 x y v u _ I2 r1 r2 q2) fun d s3 ⟨z, H3, I3, r3, k, e, q3⟩ => ?_)) hm
  subst e
  cases r3
  refine wpAny_truthy_bool ?_
  cases k with
  | false => exact ite_ff ⟨.bl false, H3, I3, rfl, q3⟩
  | true => exact ite_tt (chain_last (thn (hc pins s3 σ H3 _ I3 q3) fun w' s4 ⟨z', H4, I4, r4, q4⟩ => ho' pins s4 σ H4 y z' u w' Q I4 r2 r4 q4))
theorem pt_chain {op op' : CmpOp} {r r' : R2} (ho : OpR X (compareOp op) r) (ho' : OpR X (compareOp op') r') (ha : PE X a ta) (hb : PE X b tb) (hc : PE X c tc)
    (hm : lastMarks [op, op'] [b, c] = false := by with_unfolding_all rfl) : PT X (.Compare a [op, op'] [b, c] pos) (tTest (tChain r r' ta tb tc)) := by
  intro pins s σ H Q I h
  refine isTrue_chain (thn (ha pins s σ H _ I h) fun v s1 ⟨x, H1, I1, r1, q1⟩ => test_link (thn (hb pins s1 σ H1 _ I1 q1) fun u s2 ⟨y, H2, I2, r2, q2⟩ =>
    thn (ho pins s2 σ H2 x y v u _ I2 r1 r2 q2) fun d s3 ⟨z, H3, I3, r3, k, e, q3⟩ => ?_)) hm
  subst e
  cases r3
  refine wpAny_truthy_bool ?_
  cases k with
  | false =>
    obtain ⟨k', e', q'⟩ := q3
    cases e'
    exact ite_ff ⟨H3, I3, q'⟩
  | true =>
    refine ite_tt (test_last (thn (hc pins s3 σ H3 _ I3 q3) fun w' s4 ⟨z', H4, I4, r4, q4⟩ => thn (ho' pins s4 σ H4 y z' u w' _ I4 r2 r4 q4) fun d' s5 ⟨z2, H5, I5, r5, k2, e2, q5⟩ => ?_))
    subst e2
    cases r5
    exact wpAny_truthy_bool ⟨H5, I5, q5⟩
def TruV (K : PySem.W.Frag) (x : V) (H : Hp) (k : Bool) : Prop :=
  match x with
  | .non => k = false
  | .bl b => k = b
  | .int i => k = (i != 0)
  | .str y => y.length ≤ sizeLine ∧ k = ((y.length : Int) != 0)
  | .byt y => y.size ≤ sizeLine ∧ k = ((y.size : Int) != 0)
  | .ref p => (∃ xs, SqL K H p xs ∧ k = !xs.isEmpty) ∨ (∃ xs, SqT K H p xs ∧ k = !xs.isEmpty) ∨ ∃ kvs, H p = some (.dK kvs) ∧ k = !kvs.isEmpty
  | _ => False
theorem isEmpty_kv {κ : Type} {kvs : List (κ × V)} {vs : List (κ × Value)} (r : KV kvs vs) : (!vs.isEmpty) = !kvs.isEmpty := by
  cases r <;> rfl
theorem isEmpty_of {xs : List V} {its : List Value} (r : Vals xs its) : (!its.toArray.isEmpty) = !xs.isEmpty := by
  cases r <;> simp
theorem line63 : (sizeLine : Nat) < 2 ^ 63 := by rw [sizeLine_eq]; decide
theorem tru_ok : TruR X (fun x H Q => ∃ k, TruV X.K x H k ∧ Q k H) := by
  intro pins s σ H x v Q I rx h
  obtain ⟨k, e, q⟩ := h
  have hl := line63
  have hs : sizeLine = 16777216 := sizeLine_eq
  cases x with
  | non =>
    cases rx
    have e' : k = false := e
    subst e'
    exact truthy_none ⟨H, I, q⟩
  | bl b =>
    cases rx
    have e' : k = b := e
    subst e'
    exact wpAny_truthy_bool ⟨H, I, q⟩
  | int i =>
    obtain ⟨t, rfl⟩ := rx
    have e' : k = (i != 0) := e
    subst e'
    exact PySem.P.truthy_int ⟨H, I, q⟩
  | str y =>
    obtain ⟨t, rfl⟩ := rx
    obtain ⟨hy, e'⟩ : y.length ≤ sizeLine ∧ k = ((y.length : Int) != 0) := e
    subst e'
    exact PySem.P.truthy_str (by omega) ⟨H, I.tok _, q⟩
  | byt y =>
    obtain ⟨t, rfl⟩ := rx
    obtain ⟨hy, e'⟩ : y.size ≤ sizeLine ∧ k = ((y.size : Int) != 0) := e
    subst e'
    exact PySem.W.truthy_bytes (by omega) ⟨H, I.tok _, q⟩
  | ref p =>
    cases rx
    have e' : (∃ xs, SqL X.K H p xs ∧ k = !xs.isEmpty) ∨ (∃ xs, SqT X.K H p xs ∧ k = !xs.isEmpty) ∨ ∃ kvs, H p = some (.dK kvs) ∧ k = !kvs.isEmpty := e
    rcases e' with ⟨xs, hx, e'⟩ | ⟨xs, hx, e'⟩ | ⟨kvs, hx, e'⟩
    · subst e'
      obtain ⟨its, r, pl, hz⟩ := I.list hx
      have hlen := r.length
      exact wpAny_truthy_list pl.isList (by simp only [List.size_toArray]; omega) ⟨H, I.tok _, by rw [isEmpty_of r]; exact q⟩
    · subst e'
      obtain ⟨its, r, pl, hz⟩ := I.tuple hx
      have hlen := r.length
      exact truthy_tuple pl (by simp only [List.size_toArray]; omega) ⟨H, I.tok _, by rw [isEmpty_of r]; exact q⟩
    · subst e'
      obtain ⟨hz, hS, vs, r, m⟩ : kvs.length ≤ sizeLine ∧ (p == sysModules) = false ∧ ∃ vs, KV kvs vs ∧ s.heap.DictOf (mixKind X.prog X.w) p vs := I.hok p _ hx
      have hlen : kvs.length = vs.length := Paired.length r
      exact wpAny_truthy_dict hS m (by omega) ⟨H, I.tok _, by rw [isEmpty_kv r]; exact q⟩
  | _ => exact (show False from e).elim
theorem pt_truth (ha : PE X a ta) (he : ∀ whole, isTrue a X.env whole = (do let v ← whole; standAt a.pos; holding [v] (truthy v))) :
    PT X a (fun σ H Q => ta σ H fun x H' => ∃ k, TruV X.K x H' k ∧ Q k H') := by
  intro pins s σ H Q I h
  exact isTrue_plain (thn (ha pins s σ H _ I h) fun v s1 ⟨x, H1, I1, r1, q1⟩ => tru_ok pins s1 σ H1 x v Q I1 r1 q1) (he _)
theorem op_add_str : OpR X (binaryOp .Add) (fun x y H Q => ∃ i j, x = .str i ∧ y = .str j ∧ i.length + j.length ≤ sizeLine ∧ Q (.str (i ++ j)) H) := by
  intro pins s σ H x y v u Q I rx ry h
  obtain ⟨i, j, rfl, rfl, hz, q⟩ := h
  obtain ⟨t, rfl⟩ := rx
  obtain ⟨t', rfl⟩ := ry
  exact add_str (fun t' tk => ⟨.str (i ++ j), H, I.tok _, ⟨_, rfl⟩, q⟩) hz
theorem vals1 {x : V} {us : List Value} (r : Vals [x] us) : ∃ u, us = [u] ∧ RelV x u := by
  cases r with
  | cons r1 r2 => cases r2; exact ⟨_, rfl, r1⟩
theorem vals2 {x y : V} {us : List Value} (r : Vals [x, y] us) : ∃ u w', us = [u, w'] ∧ RelV x u ∧ RelV y w' := by
  cases r with
  | cons r1 r2 =>
    cases r2 with
    | cons r3 r4 => cases r4; exact ⟨_, _, rfl, r1, r3⟩
end
end L2
namespace L2
open PySem PySem.Spec PyProof.Rows
structure ObjM (h : Heap) (x dx C : Addr) (mA : Str → Option Value) : Prop where
  obj : h.get? x = some (PySem.W.instObj C dx)
  ns : h.Ns1 dx mA
  ne : dx ≠ x
theorem lookIn_ns {h : Heap} {dx : Addr} {mA : Str → Option Value} (n : h.Ns1 dx mA) : ∃ od, h.get? dx = some od ∧ ∀ name, PySem.W.lookIn name od = some (mA name) := by
  obtain ⟨o, es, ep, ho, hd, hk, _, hm⟩ := n
  refine ⟨o, ho, fun name => ?_⟩
  have e := hm name
  unfold nsFind findBy at e
  rw [← Array.find?_toList] at e
  unfold PySem.W.lookIn
  rw [hd]
  dsimp only
  split
  · rename_i y q
    rw [q] at e
    exact congrArg some e
  · rename_i q
    rw [q] at e
    have a : es.toList.any (·.refKey) = false := by
      rw [List.any_eq_false]
      intro y hy
      obtain ⟨z, t, hkey⟩ := hk y (Array.mem_toList_iff.mp hy)
      simp [DictEntry.refKey, hkey]
    have a' : ¬ es.toList.any (·.refKey) = true := by rw [a]; exact Bool.false_ne_true
    rw [if_neg a']
    exact congrArg some e
theorem ObjM.look {h : Heap} {x dx C : Addr} {mA : Str → Option Value} (I : ObjM h x dx C mA) : ∃ od, PySem.W.InstAt h x (PySem.W.instObj C dx) C (some od) ∧ ∀ name, PySem.W.lookIn name od = some (mA name) :=
  let ⟨od, ho, hl⟩ := lookIn_ns I.ns
  ⟨od, ⟨I.obj, rfl, rfl, ho⟩, hl⟩
section
variable {prog : Program} {w : World} {A : Around} {E : Value → Shared → Prop} {s : Shared} {K : PySem.W.Frag} {x dx C f : Addr} {mA : Str → Option Value} {name : Str} {v : Value}
end
section
variable {P : Program} {w : World} {H H' : Hp} {h h' : Heap} {a C dx : Addr} {fs fs' : List (Str × V)}
theorem ins_get (hok : HOk P w H h) (e : H a = some (.ins C dx fs)) : ∃ mA, ObjM h a dx C mA ∧ (∀ f, RelO (fs.lookup f) (mA f)) ∧ PySem.Within mA (fs.map (·.1)) ∧ fs.length ≤ 1000 ∧ H dx = some (.own a) := by
  obtain ⟨d, z, ne, ob, mA, n, r, q⟩ := (show ObjOk P w H h a (.ins C dx fs) from hok a _ e)
  exact ⟨mA, ⟨ob, n, ne⟩, r, q, z, d⟩
end
structure Cls (K : PySem.W.Frag) (C : Addr) : Prop where
  pg : PySem.W.plainGet K C Str.empty = true
  hd : PySem.W.hasDictIn K C = true
  po : PySem.W.plainOver K C = true
  sa : PySem.W.findIn K (.ref C) "__setattr__" = some (some (.builtin "object.__setattr__"))
theorem Cls.get {K : PySem.W.Frag} {C : Addr} (c : Cls K C) (f : Str) : PySem.W.plainGet K C f = true := c.pg
section
variable {X : Cx} {pins : List (Addr × Obj)} {σ : St} {H : Hp} {s : Shared} {a C dx : Addr} {fs : List (Str × V)} {f : Str} {v : V} {A : Around} {E : Value → Shared → Prop}
end
section
variable {X : Cx} {o e value : Expr} {f : Str} {pos pos' tpos : Pos} {ta tv : TE}
end
section
variable {X : Cx} {pins : List (Addr × Obj)} {σ : St} {H : Hp} {s : Shared} {A : Around} {E : Value → Shared → Prop} {Q : Value → Shared → Prop} {c : Value} {b : Bool}
inductive TyOf (K : PySem.W.Frag) (H : Hp) : V → Value → Prop where
  | non : TyOf K H .non (.type "NoneType")
  | bl (x : Bool) : TyOf K H (.bl x) (.type "bool")
  | int (i : Int) : TyOf K H (.int i) (.type "int")
  | str (x : Str) : TyOf K H (.str x) (.type "str")
  | flt (x : UInt64) : TyOf K H (.flt x) (.type "float")
  | lst {a : Addr} {xs : List V} (e : H a = some (.lst xs)) : TyOf K H (.ref a) (.type "list")
  | frz {a : Addr} {o : Obj} {xs : List V} (e : H a = some (.frz o (.lst xs))) : TyOf K H (.ref a) (.type "list")
  | tup {a : Addr} {xs : List V} (e : H a = some (.tup xs)) : TyOf K H (.ref a) (.type "tuple")
  | dK {a : Addr} {kvs : List (Key × V)} (e : H a = some (.dK kvs)) : TyOf K H (.ref a) (.type "dict")
  | dT {a : Addr} {kvs : List (List Key × V)} (e : H a = some (.dT kvs)) : TyOf K H (.ref a) (.type "dict")
  | ins {a C dx : Addr} {fs : List (Str × V)} (e : H a = some (.ins C dx fs)) (cl : Cls K C) (ha : PySem.W.findIn K (.ref C) "__class__" = some (some (.builtin "object.__class__")))
      (hn : PySem.W.specialIn K (.builtin "object.__class__") "__get__" = some (some (.builtin "getset_descriptor.__get__"))) (htk : PySem.W.takesIn K (.builtin "object.__class__") = some true)
      (hm : PySem.W.mroIn K C (.type "object") = some true) : TyOf K H (.ref a) (.ref C)
theorem isinst_ok {x : V} {u t : Value} (I : Inv X pins σ H s) (rx : RelV x u) (ty : TyOf X.K H x t) (e : PySem.W.kitOne X.K t c = some b) (h : ∀ tk, Q (.bool b) { s with toks := tk }) :
    wpAny (model X.prog X.w) A (call (.builtin "isinstance") [u, c]) Q E s := by
  cases ty with
  | non => cases (show u = Value.none from rx); exact PySem.W.kia_one PySem.W.kitx_none I.kIn True.intro e (fun z => nomatch z) h
  | bl y => cases (show u = Value.bool y from rx); exact PySem.W.kia_one PySem.W.kitx_bool I.kIn True.intro e (fun z => nomatch z) h
  | int i => obtain ⟨t, q⟩ := (show ∃ t, u = Value.int i t from rx); cases q; exact PySem.W.kia_one PySem.W.kitx_int I.kIn True.intro e (fun z => nomatch z) h
  | str y => obtain ⟨t, q⟩ := (show ∃ t, u = Value.str y t from rx); cases q; exact PySem.W.kia_one PySem.W.kitx_str I.kIn True.intro e (fun z => nomatch z) h
  | flt y => obtain ⟨t, q⟩ := (show ∃ t, u = Value.float y t from rx); cases q; exact PySem.W.kia_one PySem.W.kitx_float I.kIn True.intro e (fun z => nomatch z) h
  | @lst a xs ea =>
    cases (show u = Value.ref a from rx)
    obtain ⟨_, _, n, _, h1⟩ := (show ObjOk X.prog X.w H s.heap a (.lst xs) from I.hok a _ ea)
    exact PySem.W.kia_one PySem.W.kitx_list I.kIn ⟨_, h1, rfl⟩ e (fun z => nomatch z) h
  | @frz a ob xs ea =>
    cases (show u = Value.ref a from rx)
    obtain ⟨_, _, _, n, _, h1⟩ := (show ObjOk X.prog X.w H s.heap a (.frz ob (.lst xs)) from I.hok a _ ea)
    exact PySem.W.kia_one PySem.W.kitx_list I.kIn ⟨_, h1, rfl⟩ e (fun z => nomatch z) h
  | @tup a xs ea =>
    cases (show u = Value.ref a from rx)
    obtain ⟨_, _, _, p, _⟩ := (show ObjOk X.prog X.w H s.heap a (.tup xs) from I.hok a _ ea)
    obtain ⟨o, h1, h2, _⟩ := p
    exact PySem.W.kia_one PySem.W.kitx_tuple I.kIn ⟨o, h1, h2⟩ e (fun z => nomatch z) h
  | @dK a kvs ea =>
    cases (show u = Value.ref a from rx)
    obtain ⟨_, _, vs, _, p⟩ := (show ObjOk X.prog X.w H s.heap a (.dK kvs) from I.hok a _ ea)
    obtain ⟨o, es, ep, h1, h2, _⟩ := p
    exact PySem.W.kia_one PySem.W.kitx_dict I.kIn ⟨o, h1, h2.1⟩ e (fun z => nomatch z) h
  | @dT a kvs ea =>
    cases (show u = Value.ref a from rx)
    obtain ⟨_, _, xs, _, o, es, ep, h1, h2, _⟩ := (show ObjOk X.prog X.w H s.heap a (.dT kvs) from I.hok a _ ea)
    exact PySem.W.kia_one PySem.W.kitx_dict I.kIn ⟨o, h1, h2.1⟩ e (fun z => nomatch z) h
  | @ins a C dx fs ea cl ha hn htk hm =>
    cases (show u = Value.ref a from rx)
    obtain ⟨mA, O, _⟩ := ins_get I.hok ea
    obtain ⟨od, J, _⟩ := O.look
    exact PySem.W.kia_one (PySem.W.kitx_own (cl.get _) cl.hd ha hn htk hm) I.kIn J e (fun z => nomatch z) h
end
end L2
namespace L2
open PySem PySem.Spec PyProof.Rows
structure Room (k : Nat) (A : Around) : Prop where
  hd : A.handled = none
  dp : A.depth + 3 * k + 5 < recursionLimit
  un : A.units + 16 * k + 200 < cLine
theorem Room.mono {j k : Nat} {A : Around} (r : Room k A) (h : j ≤ k) : Room j A := ⟨r.hd, by have := r.dp; omega, by have := r.un; omega⟩
theorem Room.deeper {k : Nat} {A : Around} (r : Room (k + 1) A) (env : Env) : Room k (A.deeper env) :=
  ⟨r.hd, by have := r.dp; show A.depth + 1 + 3 * k + 5 < _; omega, by have := r.un; show A.units + 3 + 16 * k + 200 < _; omega⟩
theorem Room.depth {k : Nat} {A : Around} (r : Room k A) : A.depth < recursionLimit := by have := r.dp; omega
theorem Room.units {k : Nat} {A : Around} (r : Room k A) : A.units + 64 < cLine := by have := r.un; omega
def tNil : TA := fun _ H Q => Q [] H
def tCons (ta : TE) (tr : TA) : TA := fun σ H Q => ta σ H fun x H1 => tr σ H1 fun xs H2 => Q (x :: xs) H2
section
variable {X : Cx} {e : Expr} {es : List Expr} {te : TE} {t : TA} {pos : Pos}
theorem pa_nil : PA X [] tNil := fun _ _ _ _ H Q I h => Calls.spliced_nil ⟨[], H, I, .nil, h⟩
theorem pa_cons (ha : PE X e te) (hr : PA X es t) (hs : starEach (e :: es) X.env = (false, eval e X.env) :: starEach es X.env := by rfl) : PA X (e :: es) (tCons te t) := by
  intro pos pins s σ H Q I h
  rw [hs]
  show wpAny _ _ (spliced ((false, eval e X.env) :: backTo pos (starEach es X.env))) _ _ s
  refine Calls.spliced_cons (thn (ha pins s σ H _ I h) fun u s1 ⟨x, H1, I1, r1, q1⟩ => ?_)
  exact thn (hr pos pins s1 σ H1 _ I1 q1) fun us s2 ⟨xs, H2, I2, r2, q2⟩ => ⟨x :: xs, H2, I2, .cons r1 r2, q2⟩
def tTup (t : TA) : TE := fun σ H Q => t σ H fun xs H1 => xs.length ≤ sizeLine ∧ ∀ p, H1 p = none → Q (.ref p) (upd H1 p (.tup xs))
def tLst (t : TA) : TE := fun σ H Q => t σ H fun xs H1 => xs.length ≤ sizeLine ∧ ∀ p, H1 p = none → Q (.ref p) (upd H1 p (.lst xs))
theorem pe_tup {x1} (h : PA X es t) : PE X (.Tuple es x1 pos) (tTup t) := by
  intro pins s σ H Q I hq
  refine wpAny_Tuple_spliced (thn (h pos pins s σ H _ I hq) fun us s1 ⟨xs, H1, I1, r, z, q⟩ => ⟨by rw [← r.length]; exact z, ?_⟩)
  have hf : H1 s1.heap.objs.size = none := I1.hok.fresh (Nat.le_refl _)
  refine ⟨.ref s1.heap.objs.size, upd H1 s1.heap.objs.size (.tup xs), I1.laid (t' := s1.toks) (fun b u e => Heap.get?_push_of_some _ e) (Nat.le_refl _) ?_, rfl, q _ hf⟩
  exact ⟨z, us, r, ⟨⟨_, Heap.get?_push_size _ rfl, rfl, _, rfl⟩, _, Heap.get?_push_size _ rfl, rfl⟩⟩
theorem pe_lst (h : PA X es t) : PE X (.List es pos) (tLst t) := by
  intro pins s σ H Q I hq
  refine wpAny_List_spliced (thn (h pos pins s σ H _ I hq) fun us s1 ⟨xs, H1, I1, r, z, q⟩ => ⟨by rw [← r.length]; exact z, ?_⟩)
  have hf : H1 s1.heap.objs.size = none := I1.hok.fresh (Nat.le_refl _)
  refine ⟨.ref s1.heap.objs.size, upd H1 s1.heap.objs.size (.lst xs), I1.laid (t' := s1.toks) (fun b u e => Heap.get?_push_of_some _ e) (Nat.le_refl _) ?_, rfl, q _ hf⟩
  exact ⟨z, us, 0, r, Heap.get?_push_size _ rfl⟩
end
abbrev Sp := List V → Hp → VK → XK → Prop
abbrev CXT := List Env → Hp → Shared → XK → Value → Shared → Prop
structure Env0 (P : Program) (w : World) (K : PySem.W.Frag) (mg : Str → Option Value) (base : Heap) (A : Around) (outer : List Env) (s : Shared) (H : Hp) : Prop where
  frames : A.frames = some outer
  mod : Mod K mg base
  bs : ∀ b o, base.get? b = some o → s.heap.get? b = some o ∧ H b = none
  bsz : base.objs.size ≤ s.heap.objs.size
  funs : s.heap.FunFrames base outer
  frf : ∀ b ∈ frs outer, H b = none
  hok : HOk P w H s.heap
  bare : AllBare s.gens
def CE (outer : List Env) (P : Program) (w : World) (H : Hp) (s : Shared) (Q : VK) (u : Value) (s' : Shared) : Prop :=
  ∃ v H', s'.os = s.os ∧ AllBare s'.gens ∧ Un (frs outer) [] H H' s.heap s'.heap ∧ HOk P w H' s'.heap ∧ RelV v u ∧ Q v H'
def CR (CX : CXT) (outer : List Env) (P : Program) (w : World) (H : Hp) (s : Shared) (Q : VK) (E : XK) (r : Result) (s' : Shared) : Prop :=
  match r with
  | .ok (.ret u) => CE outer P w H s Q u s'
  | .ok _ => False
  | .error e => CX outer H s E e s'
structure FnOk (P : Program) (w : World) (K : PySem.W.Frag) (mg : Str → Option Value) (base : Heap) (CX : CXT) (k : Nat) (f : Addr) (fd : FuncData) (ps : List Str) (sp : Sp) : Prop where
  len : ∀ vs H Q E, sp vs H Q E → vs.length = ps.length
  run : ∀ (A : Around) (outer : List Env) (s : Shared) (H : Hp) (args : Args) (us : List Value) (vs : List V) (Q : VK) (E : XK), Room k A → Env0 P w K mg base A outer s H → BindsTo s fd args (ps.zip us) → Vals vs us → sp vs H Q E →
    codeAny (model P w) A (.call (.ref f) args) (CR CX outer P w H s Q E) s
theorem FnOk.mono {P : Program} {w : World} {K : PySem.W.Frag} {mg : Str → Option Value} {base : Heap} {CX : CXT} {j k : Nat} {f : Addr} {fd : FuncData} {ps : List Str} {sp : Sp} (F : FnOk P w K mg base CX j f fd ps sp) (h : j ≤ k) :
    FnOk P w K mg base CX k f fd ps sp := ⟨F.len, fun A outer s H args us vs Q E hr => F.run A outer s H args us vs Q E (hr.mono h)⟩
theorem FnOk.imp {P : Program} {w : World} {K : PySem.W.Frag} {mg : Str → Option Value} {base : Heap} {CX : CXT} {k : Nat} {f : Addr} {fd : FuncData} {ps : List Str} {sp sp' : Sp} (F : FnOk P w K mg base CX k f fd ps sp)
    (h : ∀ vs H Q E, sp' vs H Q E → sp vs H Q E) : FnOk P w K mg base CX k f fd ps sp' :=
  ⟨fun vs H Q E q => F.len vs H Q E (h _ _ _ _ q), fun A outer s H args us vs Q E hr he hb hv hs => F.run A outer s H args us vs Q E hr he hb hv (h _ _ _ _ hs)⟩
section
variable {X : Cx} {pins : List (Addr × Obj)} {σ : St} {H : Hp} {s s' : Shared}
theorem Inv.env0 (I : Inv X pins σ H s) : Env0 X.prog X.w X.K X.mg X.base X.A X.stack s H :=
  ⟨I.ok.frames, I.ok.mod, I.bs, Nat.le_trans I.ok.bsz I.sz, I.stack, I.stkFree, I.hok, I.bare⟩
theorem Inv.after {Q : VK} {u : Value} (I : Inv X pins σ H s) (h : CE X.stack X.prog X.w H s Q u s') : EP X pins σ Q u s' := by
  obtain ⟨v, H', os, bare, un, hok, r, q⟩ := h
  obtain ⟨hh, g, d, t, os'⟩ := s'
  obtain rfl : os' = s.os := os
  exact ⟨v, H', I.call (h' := hh) (g' := g) (d' := d) (t' := t) (ch := []) un hok bare (fun b z => absurd z (by simp)), r, q⟩
end
def tCall (sp : Sp) (dvs : List V) (E : XK) (t : TA) : TE := fun σ H Q => t σ H fun vs H1 => sp (vs ++ dvs) H1 Q E
def Binds (K : PySem.W.Frag) (fd : FuncData) (ps : List Str) (ds : List Value) : Prop :=
  ∀ (s : Shared) (us : List Value), K.In s.heap → (us ++ ds).length = ps.length → BindsTo s fd ⟨us, []⟩ (ps.zip (us ++ ds))
theorem Binds.all {K : PySem.W.Frag} {fd : FuncData} {ps : List Str} (h : ∀ us : List Value, us.length = ps.length → bindArgs fd ⟨us, []⟩ = pure (ps.zip us)) : Binds K fd ps [] := fun s us _ hl => by
  rw [List.append_nil] at hl ⊢
  exact .of_eq (h us hl)
def Passes (CX : CXT) (X : Cx) (E : XK) : Prop := ∀ (pins : List (Addr × Obj)) (σ : St) (H : Hp) (s : Shared) (e : Value) (s' : Shared), Inv X pins σ H s → CX X.stack H s E e s' → X.xe e s'
section
variable {X : Cx} {CX : CXT} {k : Nat} {f C : Addr} {fd : FuncData} {ps : List Str} {sp : Sp} {dvs : List V} {ds : List Value} {E : XK} {x m : Str} {p pos apos : Pos} {e o : Expr} {es : List Expr} {ta : TE} {t : TA}
theorem run_fn {pins : List (Addr × Obj)} {σ : St} {H : Hp} {s : Shared} {Q : VK} {us : List Value} {vs : List V} (F : FnOk X.prog X.w X.K X.mg X.base CX k f fd ps sp) (hr : Room k X.A) (hb : Binds X.K fd ps ds) (hd : Vals dvs ds) (hx : Passes CX X E)
    (I : Inv X pins σ H s) (r : Vals vs us) (h : sp (vs ++ dvs) H Q E) : wpAny (model X.prog X.w) X.A (call (.ref f) us) (EP X pins σ Q) X.xe s := by
  have r2 : Vals (vs ++ dvs) (us ++ ds) := r.append hd
  have hl : (us ++ ds).length = ps.length := by rw [← r2.length]; exact F.len _ _ _ _ h
  refine wpAny_call (codeAny_mono (F.run X.A X.stack s H ⟨us, []⟩ (us ++ ds) (vs ++ dvs) Q E hr I.env0 (hb s us I.kIn hl) r2 h) fun r s' hq => ?_)
  cases r with
  | error e => exact hx pins σ H s e s' I hq
  | ok fl =>
    cases fl with
    | ret u => exact I.after hq
    | next => exact False.elim hq
    | brk => exact False.elim hq
    | cont => exact False.elim hq
theorem pe_call (F : FnOk X.prog X.w X.K X.mg X.base CX k f fd ps sp) (hr : Room k X.A) (hg : Gl X x) (hm : X.mg x = some (.ref f)) (hk : PySem.W.keepIn X.K (.ref f) = true) (hb : Binds X.K fd ps ds) (hd : Vals dvs ds) (hx : Passes CX X E)
    (ha : PA X (e :: es) t) (hdb : (x == ("__debug__" : Str)) = false := by decide) (he : starEach (e :: es) X.env = (false, eval e X.env) :: starEach es X.env := by rfl) (hpl : (backTo pos (starEach es X.env)).any (·.1) = false := by rfl) :
    PE X (.Call (.Name x p) (e :: es) [] pos) (tCall sp dvs E t) := by
  intro pins s σ H Q I h
  refine wpAny_Call_Name_kw (ld_glob I hg hm ?_ hdb)
  refine PySem.W.callWith_K (h₀ := X.base) I.ok.mod.kin hk (thn (ha pos pins s σ H _ I h) fun us s1 ⟨vs, H1, I1, r, q⟩ => ⟨I1.kIn, ?_⟩) he hpl
  exact run_fn F hr hb hd hx I1 r q
structure Mk (K : PySem.W.Frag) (C f : Addr) : Prop where
  makes : PySem.W.makesIn K C = true
  init : PySem.W.findIn K (.ref C) "__init__" = some (some (.ref f))
  fn : PySem.W.isFn K (.ref f) = true
  kp : PySem.W.keepIn K (.ref C) = true
end
section
variable {X : Cx} {CX : CXT} {k : Nat} {f C : Addr} {fd : FuncData} {ps ks : List Str} {sp : Sp} {E : XK} {x m : Str} {p pos apos kpos : Pos} {e o : Expr} {es : List Expr} {kws : List Keyword} {te ta : TE} {t tk : TA} {nm : Option Str}
variable {g : List Value → List Value → List Value} {gV : List V → List V → List V}
end
structure FnScope (N P : List Str) (sc : Scope) : Prop where
  kind : sc.kind = .function
  co : sc.isCoroutine = false
  gen : sc.isGenerator = false
  nd : N.Nodup
  pre : N.take P.length = P
  par : ∀ x ∈ P, sc.names.lookup x = some .local ∨ sc.names.lookup x = some .cell
  nofree : ∀ y ∈ sc.names, y.2 ≠ .free
theorem bindL_out {kindOf : Str → Option NameKind} {x : Str} : ∀ {binds : List (Str × Value)} {m : Str → Option Value}, (∀ v, (x, v) ∉ binds) → bindL kindOf binds m x = m x
  | [], _, _ => rfl
  | (n, v) :: r, m, h => by
    unfold bindL
    rw [bindL_out fun w hw => h w (List.mem_cons_of_mem _ hw)]
    split
    · have : x ≠ n := by rintro rfl; exact h v List.mem_cons_self
      simp [this]
    · rfl
theorem bindC_out {kindOf : Str → Option NameKind} {x : Str} : ∀ {binds : List (Str × Value)} {m : Str → Option Value}, (∀ v, (x, v) ∉ binds) → bindC kindOf binds m x = m x
  | [], _, _ => rfl
  | (n, v) :: r, m, h => by
    unfold bindC
    rw [bindC_out fun w hw => h w (List.mem_cons_of_mem _ hw)]
    split
    · rfl
    · have : x ≠ n := by rintro rfl; exact h v List.mem_cons_self
      simp [this]
theorem bindL_get {kindOf : Str → Option NameKind} {x : Str} {v : Value} : ∀ {P : List Str} {vs : List Value} {i : Nat} {m : Str → Option Value}, P.Nodup → P[i]? = some x → vs[i]? = some v → kindOf x = some .local →
    bindL kindOf (P.zip vs) m x = some v
  | [], _, _, _, _, h, _, _ => by simp at h
  | _ :: _, [], _, _, _, _, h, _ => by simp at h
  | p :: P, w :: vs, 0, m, nd, h1, h2, hk => by
    simp at h1 h2; subst h1; subst h2
    show bindL kindOf ((p, w) :: P.zip vs) m p = _
    unfold bindL
    rw [bindL_out fun v hv => (List.nodup_cons.mp nd).1 (List.of_mem_zip hv).1, if_pos hk]
    simp
  | p :: P, w :: vs, i + 1, m, nd, h1, h2, hk => by
    show bindL kindOf ((p, w) :: P.zip vs) m x = _
    unfold bindL
    exact bindL_get (i := i) (List.nodup_cons.mp nd).2 (by simpa using h1) (by simpa using h2) hk
theorem bindC_get {kindOf : Str → Option NameKind} {x : Str} {v : Value} : ∀ {P : List Str} {vs : List Value} {i : Nat} {m : Str → Option Value}, P.Nodup → P[i]? = some x → vs[i]? = some v → kindOf x ≠ some .local →
    bindC kindOf (P.zip vs) m x = some v
  | [], _, _, _, _, h, _, _ => by simp at h
  | _ :: _, [], _, _, _, _, h, _ => by simp at h
  | p :: P, w :: vs, 0, m, nd, h1, h2, hk => by
    simp at h1 h2; subst h1; subst h2
    show bindC kindOf ((p, w) :: P.zip vs) m p = _
    unfold bindC
    rw [bindC_out fun v hv => (List.nodup_cons.mp nd).1 (List.of_mem_zip hv).1, if_neg hk]
    simp
  | p :: P, w :: vs, i + 1, m, nd, h1, h2, hk => by
    show bindC kindOf ((p, w) :: P.zip vs) m x = _
    unfold bindC
    exact bindC_get (i := i) (List.nodup_cons.mp nd).2 (by simpa using h1) (by simpa using h2) hk
def start (N : List Str) (vs : List V) : St := vs.map some ++ List.replicate (N.length - vs.length) none
def cxOf (CX : CXT) (P : Program) (w : World) (K : PySem.W.Frag) (mg : Str → Option Value) (base : Heap) (N : List Str) (qual : Str) (scope : Scope) (f : Addr) (cd : Value) (A : Around) (outer : List Env) (s : Shared) (H : Hp) (E : XK) : Cx where
  prog := P
  w := w
  K := K
  mg := mg
  base := base
  A := A.deeper (envOfC qual scope s.heap.objs.size f cd)
  N := N
  s₀ := s
  H₀ := H
  env := envOfC qual scope s.heap.objs.size f cd
  outer := outer
  stack := envOfC qual scope s.heap.objs.size f cd :: outer
  ex := []
  calm := true
  fn := fun _ => true
  pn := []
  xe := fun e s' => wpAny (model P w) (A.deeper (envOfC qual scope s.heap.objs.size f cd)) (leaving (envOfC qual scope s.heap.objs.size f cd) e) (fun _ s'' => CX outer H s E e s'') (fun e' s'' => CX outer H s E e' s'') s'
theorem cell_has {sc : Scope} {n : Nat} {x : Str} (h : sc.names.lookup x = some .cell) : ∃ c, (cellsFrom n sc.names []).lookup x = some c := by
  have q := PySem.W.cellsFrom_some sc.names n [] (.inl h)
  exact Option.isSome_iff_exists.mp q
theorem inv_start {CX : CXT} {P : Program} {w : World} {K : PySem.W.Frag} {mg : Str → Option Value} {base : Heap} {N ps : List Str} {qual : Str} {scope : Scope} {f : Addr} {cd : Value} {A : Around} {outer : List Env} {s s1 : Shared} {H : Hp} {E : XK} {us : List Value} {vs : List V}
    (S : FnScope N ps scope) (hd : A.handled = none) (e0 : Env0 P w K mg base A outer s H) (hl : vs.length = ps.length) (r : Vals vs us)
    (x : InCallC s s.heap.objs.size (bindL (envOfC qual scope s.heap.objs.size f cd).kindOf (ps.zip us) fun _ => none) (cellsFrom (s.heap.objs.size + 1) scope.names []) (bindC (envOfC qual scope s.heap.objs.size f cd).kindOf (ps.zip us) fun _ => none) s1) :
    Inv (cxOf CX P w K mg base N qual scope f cd A outer s H E) [] (start N vs) H s1 := by
  have hpl : ps.length ≤ N.length := by have := congrArg List.length S.pre; rw [List.length_take] at this; omega
  obtain ⟨h1, tk, rfl, hk⟩ := x.done
  have noA : ∀ b : Addr, b ∉ (cxOf CX P w K mg base N qual scope f cd A outer s H E).ex := fun b z => absurd (show b ∈ ([] : List Addr) from z) (by simp)
  refine ⟨⟨e0.mod, S.kind, rfl, rfl, Nat.le_refl _, fun y z c h1 h2 => ?_, fun y hy => ?_, fun y c _ h => ?_, fun _ => hd, Around.frames_deeper e0.frames, .inr ⟨rfl, rfl⟩, fun b z => absurd z (noA b), e0.bs, e0.bsz, fun b _ _ => noA b, fun b z => absurd z (noA b), e0.funs, e0.frf⟩,
    rfl, e0.bare, Un.kept hk, ⟨_, x.toInCall.ns, fun i y v h1 h2 h3 => ?_⟩, fun y c h => ⟨_, x.cell y c h⟩, e0.hok.fresh (Nat.le_refl _), fun y c h => ?_, fun p hp => absurd (show p ∈ ([] : List (Addr × Obj)) from hp) (by simp), e0.hok.kept hk, ?_⟩
  · exact name_of_addr x.apart (PySem.mem_of_lookup h1) (PySem.mem_of_lookup h2)
  · have hy : scope.names.lookup y = some .cell ∨ scope.names.lookup y = some .free := hy
    rcases hy with hy | hy
    · exact cell_has hy
    · exact absurd rfl (S.nofree _ (PySem.mem_of_lookup hy))
  · exact Nat.le_of_lt (x.above y c (PySem.mem_of_lookup h))
  · have hi : i < vs.length := by
      unfold start at h2
      by_cases hi : i < vs.length
      · exact hi
      · rw [List.getElem?_append_right (by simpa using hi)] at h2
        rw [List.getElem?_replicate] at h2
        split at h2 <;> cases h2
    have ha : vs[i]? = some v := by
      unfold start at h2
      rw [List.getElem?_append_left (by simpa using hi), List.getElem?_map] at h2
      cases e : vs[i]? with
      | none => rw [e] at h2; cases h2
      | some a => rw [e] at h2; cases h2; rfl
    obtain ⟨u, hu, rv⟩ := r.get ha
    have hp : ps[i]? = some y := by
      rw [← S.pre, List.getElem?_take_of_lt (by omega)]; exact h1
    have ndP : ps.Nodup := by rw [← S.pre]; exact S.nd.sublist (List.take_sublist _ _)
    refine ⟨u, rv, ?_⟩
    rcases S.par y (List.mem_of_getElem? hp) with k | k
    · exact .inl ⟨k, bindL_get ndP hp hu k⟩
    · obtain ⟨c, e⟩ := cell_has (n := s.heap.objs.size + 1) k
      refine .inr ⟨.inl k, c, e, ?_⟩
      have q := x.cell y c e
      rw [bindC_get ndP hp hu (by show scope.names.lookup y ≠ _; rw [k]; decide)] at q
      exact q
  · exact e0.hok.fresh (Nat.le_of_lt (x.above y c (PySem.mem_of_lookup h)))
  · unfold start
    show _ = N.length
    rw [List.length_append, List.length_map, List.length_replicate]
    omega
theorem fn_of {CX : CXT} {P : Program} {w : World} {K : PySem.W.Frag} {mg : Str → Option Value} {base : Heap} {k : Nat} {f : Addr} {name qual : Str} {params : Arguments} {body : List Stmt} {scope : Scope} {dV kV doc pm cdv ct oc : Value} {an od : Option Addr}
    {osl : Array (Option Value)} {N ps : List Str} {sp : Sp} (lk : K.lookup f = some ⟨oc, od, .func (PySem.W.fnOf name qual params body scope dV kV doc pm an cdv ct), osl⟩) (hcd : PySem.W.codeIn K cdv qual = true) (S : FnScope N ps scope)
    (len : ∀ vs H Q E, sp vs H Q E → vs.length = ps.length)
    (hbody : ∀ (A : Around) (outer : List Env) (s : Shared) (H : Hp) (vs : List V) (Q : VK) (E : XK), Room k (A.deeper (envOfC qual scope s.heap.objs.size f cdv)) → sp vs H Q E →
      ∃ t, PSs (cxOf CX P w K mg base N qual scope f cdv A outer s H E) body t ∧ t { nx := fun _ H' => Q .non H', rt := Q } (start N vs) H) :
    FnOk P w K mg base CX (k + 1) f (PySem.W.fnOf name qual params body scope dV kV doc pm an cdv ct) ps sp := by
  refine ⟨len, fun A outer s H args us vs Q E hr e0 hb r hsp => ?_⟩
  have hl := len _ _ _ _ hsp
  have KX : K.In s.heap := e0.mod.kin.keeps fun b o e => (e0.bs b o e).1
  have lim : s.heap.NoLimit := e0.mod.nolimit.keeps fun b o e => (e0.bs b o e).1
  have hkind : ∀ y ∈ ps.zip us, scope.names.lookup y.1 = some .local ∨ (scope.names.lookup y.1 = some .cell ∧ ((cellsFrom (s.heap.objs.size + 1) scope.names []).lookup y.1).isSome = true) := fun ⟨n, v⟩ hy => by
    rcases S.par n (List.of_mem_zip hy).1 with q | q
    · exact .inl q
    · exact .inr ⟨q, PySem.W.cellsFrom_some _ _ _ (.inl q)⟩
  refine codeAny_call_function hr.depth (KX _ _ lk) rfl S.co S.gen rfl (PySem.W.codeRec_of KX hcd) (hb _ _ _ _ ?_)
  refine wpAny_newFunctionEnv_cells S.kind hkind fun env he s1 x => ?_
  subst he
  refine ⟨lim.keeps x.toInCall.keep, codeAny_func ?_⟩
  obtain ⟨t, ht, hq⟩ := hbody A outer s H vs Q E (hr.deeper _) hsp
  have I : Inv (cxOf CX P w K mg base N qual scope f cdv A outer s H E) [] (start N vs) H s1 := inv_start S hr.hd e0 hl r x
  refine wpAny_mono (ht [] s1 (start N vs) H _ I hq) (fun fl s' hs => ?_) fun e s' hs => hs
  have fin : ∀ {σ' : St} {H' : Hp} {v : V} {u : Value}, Inv (cxOf CX P w K mg base N qual scope f cdv A outer s H E) [] σ' H' s' → RelV v u → Q v H' → CE outer P w H s Q u s' :=
    fun {σ' H' v u} J rv q => ⟨v, H', J.os, J.bare, J.base, J.hok, rv, q⟩
  cases fl with
  | ret u =>
    obtain ⟨v, σ', H', J, rv, q⟩ := hs
    exact fin J rv q
  | next =>
    obtain ⟨σ', H', J, q⟩ := hs
    exact fin (v := V.non) (u := Value.none) J rfl q
  | brk =>
    obtain ⟨_, _, _, q⟩ := hs
    exact False.elim q
  | cont =>
    obtain ⟨_, _, _, q⟩ := hs
    exact False.elim q
end L2
namespace L2
open PySem PySem.Spec PyProof.Rows
section
variable {X : Cx} {x : Str} {p pos : Pos} {e : Expr} {es : List Expr} {t : TA} {id T : String} {r : List V → Hp → VK → Prop}
def tCB (r : List V → Hp → VK → Prop) (t : TA) : TE := fun σ H Q => t σ H fun vs H1 => r vs H1 Q
theorem pe_callB (hc : CallR X (.builtin id) r) (hg : Gl X x) (hm : X.mg x = none) (hv : bootBuiltins x = some (.builtin id)) (ha : PA X (e :: es) t) (hn : x ≠ "__name__" := by decide) (hdb : (x == ("__debug__" : Str)) = false := by decide)
    (he : starEach (e :: es) X.env = (false, eval e X.env) :: starEach es X.env := by rfl) (hpl : (backTo pos (starEach es X.env)).any (·.1) = false := by rfl) : PE X (.Call (.Name x p) (e :: es) [] pos) (tCB r t) := by
  intro pins s σ H Q I h
  refine wpAny_Call_Name_kw (ld_blt I hg hm hv ?_ hn hdb)
  exact PyProof.Rows.callWith_builtin1 (thn (ha pos pins s σ H _ I h) fun us s1 ⟨vs, H1, I1, r1, q1⟩ => hc pins s1 σ H1 vs us Q I1 r1 q1) he hpl
theorem pe_callTy (hc : CallR X (.type T) r) (hg : Gl X x) (hm : X.mg x = none) (hv : bootBuiltins x = some (.type T)) (ha : PA X (e :: es) t) (hn : x ≠ "__name__" := by decide) (hdb : (x == ("__debug__" : Str)) = false := by decide)
    (he : starEach (e :: es) X.env = (false, eval e X.env) :: starEach es X.env := by rfl) (hpl : (backTo pos (starEach es X.env)).any (·.1) = false := by rfl) : PE X (.Call (.Name x p) (e :: es) [] pos) (tCB r t) := by
  intro pins s σ H Q I h
  refine wpAny_Call_Name_kw (ld_blt I hg hm hv ?_ hn hdb)
  exact PyProof.Rows.callWith_type1 (thn (ha pos pins s σ H _ I h) fun us s1 ⟨vs, H1, I1, r1, q1⟩ => hc pins s1 σ H1 vs us Q I1 r1 q1) he hpl
end
end L2
namespace HT
open PySem PyProof.Rows
section
open PySem.SeqAt
open PySem.AutoSeq1 (wpAny_loadPart')
open PySem.MeetsSeq PySem.MeetsSeq2 PySem.MeetsSeq3
end
section
variable {prog : Program} {w : World} {A : Around} {E : Value → Shared → Prop} {s : Shared}
theorem cat_tup {t b : Addr} {vs ws : List Value} {Q : Value → Shared → Prop} (ht : IsTup s.heap t vs.toArray) (hb : IsTup s.heap b ws.toArray) (hv : vs ≠ [])
    (h1 : ws = [] → Q (.ref t) s) (h2 : ws ≠ [] → Q (.ref s.heap.objs.size) { s with heap := s.heap.push { cls := .type "tuple", data := .seq (vs ++ ws).toArray } })
    (hsz : vs.length + ws.length ≤ sizeLine) : wpAny (model prog w) A (binaryOp .Add (.ref t) (.ref b)) Q E s := by
  obtain ⟨⟨cls, dd, data, sl⟩, ho, hc, n, hd⟩ := id ht
  obtain ⟨⟨cls2, dd2, data2, sl2⟩, ho2, hc2, n2, hd2⟩ := id hb
  simp only at hc hd hc2 hd2
  subst hc hd hc2 hd2
  have e : vs.toArray ++ ws.toArray = (vs ++ ws).toArray := by simp
  by_cases hw : ws = []
  · exact concat_meets ⟨_, ho, rfl⟩ ⟨_, ho2, rfl⟩ noFill_tuple_add seq_tuple_add PySem.F.slot_tuple_add PySem.F.entry_tuple_add (PySem.F.args_tuple_add_2 _ _)
      (tuple_addW1 t b vs.toArray ws.toArray n n2 dd dd2 sl sl2 (by simpa using hv) (by simp [hw])) ⟨ho, ho2, h1 hw⟩
  · refine concat_meets ⟨_, ho, rfl⟩ ⟨_, ho2, rfl⟩ noFill_tuple_add seq_tuple_add PySem.F.slot_tuple_add PySem.F.entry_tuple_add (PySem.F.args_tuple_add_2 _ _)
      (tuple_addW2 t b vs.toArray ws.toArray n n2 dd dd2 sl sl2 (by simpa using hv) (by simpa using hw) (by rw [List.size_toArray, List.size_toArray]; exact hsz)) ⟨ho, ho2, ?_⟩
    rw [e]
    exact h2 hw
def sIx (n d : Nat) : Option Int → Nat
  | none => d
  | some v => if v < 0 then (v + (n : Int)).toNat else min v.toNat n
theorem sIx_nat (n d k : Nat) : sIx n d (some (k : Int)) = min k n := by
  show (if (k : Int) < 0 then ((k : Int) + (n : Int)).toNat else min (k : Int).toNat n) = min k n
  rw [if_neg (by omega), Int.toNat_natCast]
theorem sIx_le (n d : Nat) (hd : d ≤ n) (o : Option Int) : sIx n d o ≤ n := by
  cases o with
  | none => exact hd
  | some v =>
    show (if v < 0 then (v + (n : Int)).toNat else min v.toNat n) ≤ n
    by_cases hv : v < 0
    · rw [if_pos hv]; omega
    · rw [if_neg hv]; exact Nat.min_le_right _ _
theorem clip_eq (v : Int) (n d : Nat) : (if v < 0 then max (v + (n : Int)) 0 else min v (n : Int)) = ((sIx n d (some v) : Nat) : Int) := by
  show (if v < 0 then max (v + (n : Int)) 0 else min v (n : Int)) = (((if v < 0 then (v + (n : Int)).toNat else min v.toNat n) : Nat) : Int)
  by_cases hv : v < 0
  · simp only [if_pos hv]; omega
  · simp only [if_neg hv]; omega
theorem adjust_gen (lo hi : Option Int) (n : Nat) : Builtin.Slice.sliceAdjust lo hi 1 (n : Int) = (((sIx n 0 lo : Nat) : Int), ((sIx n n hi : Nat) : Int)) := by
  have h1 : ¬ ((1 : Int) < 0) := by omega
  unfold Builtin.Slice.sliceAdjust
  simp only [h1, if_false]
  refine Prod.ext ?_ ?_
  · cases lo with
    | none => rfl
    | some v => exact clip_eq v n 0
  · cases hi with
    | none => rfl
    | some v => exact clip_eq v n n
theorem places_gen (i j : Nat) : Builtin.Slice.slicePlaces (i : Int) (j : Int) 1 = j - i := by
  unfold Builtin.Slice.slicePlaces
  have h1 : (1 : Int) > 0 := by omega
  simp only [h1, if_true, Int.ediv_one]
  split <;> omega
theorem slicePart_ {v : Value} {o : Option Int} {Q : Option Int → Shared → Prop} (p : IsPart v o) (h : Q o s) : wpAny (model prog w) A (Builtin.Slice.slicePartIndex v) Q E s := by
  cases p with
  | none => exact slicePart_none h
  | int i t => exact slicePart_int h
theorem sliceApplied_gen {sl : Addr} {vl vu : Value} {lo hi : Option Int} {n : Nat} {Q : Int × Int × Nat → Shared → Prop} (hs : s.heap.IsSliceOf sl vl vu .none) (pl : IsPart vl lo) (pu : IsPart vu hi)
    (h : Q (((sIx n 0 lo : Nat) : Int), 1, sIx n n hi - sIx n 0 lo) s) : wpAny (model prog w) A (Builtin.Slice.sliceApplied (.ref sl) (pure (n : Int))) Q E s := by
  obtain ⟨os, hos, hcs, hds⟩ := id hs
  unfold Builtin.Slice.sliceApplied Builtin.Slice.sliceFields
  refine wpAny_bind (wpAny_bind (wpAny_field hos hds (x := vl) rfl (wpAny_bind (wpAny_field hos hds (x := vu) rfl (wpAny_bind (wpAny_field hos hds (x := .none) rfl (wpAny_pure ?_)))))))
  refine wpAny_bind (slicePart_none ?_)
  show wpAny _ _ (if ((1 : Int) == 0) = true then _ else _) _ _ s
  rw [if_neg (by decide)]
  refine wpAny_bind (slicePart_ pl (wpAny_bind (slicePart_ pu (wpAny_bind (wpAny_pure ?_)))))
  show wpAny _ _ (match Builtin.Slice.sliceAdjust lo hi 1 (n : Int) with | (lo, hi) => pure (lo, (1 : Int), Builtin.Slice.slicePlaces lo hi 1)) _ _ s
  rw [adjust_gen lo hi n]
  show wpAny _ _ (pure (((sIx n 0 lo : Nat) : Int), (1 : Int), Builtin.Slice.slicePlaces ((sIx n 0 lo : Nat) : Int) ((sIx n n hi : Nat) : Int) 1)) _ _ s
  rw [places_gen]
  exact wpAny_pure h
theorem pick_gen (xs : Array Value) (i k : Nat) : ((List.range k).filterMap fun (m : Nat) => xs[((i : Int) + (m : Int) * 1).toNat]?).toArray = ((xs.toList.drop i).take k).toArray := by
  have e : (fun (m : Nat) => xs[((i : Int) + (m : Int) * 1).toNat]?) = fun m => xs[i + m]? := by
    funext m
    have : ((i : Int) + (m : Int) * 1).toNat = i + m := by omega
    rw [this]
  rw [e]
  have := pick_run xs i k
  rw [List.filterMap_map] at this
  have e2 : ((fun x => xs[x]?) ∘ fun x => i + x) = fun m => xs[i + m]? := rfl
  rw [e2] at this
  rw [this]
theorem getItem_tuple_cut {t sl : Addr} {items : Array Value} {vl vu : Value} {lo hi : Option Int} {Q : Value → Shared → Prop} (ht : IsTup s.heap t items) (hs : s.heap.IsSliceOf sl vl vu .none) (pl : IsPart vl lo) (pu : IsPart vu hi)
    (hw : ¬ (sIx items.size 0 lo = 0 ∧ sIx items.size items.size hi = items.size))
    (h : Q (.ref s.heap.objs.size) { s with heap := s.heap.push { cls := .type "tuple", data := .seq ((items.toList.drop (sIx items.size 0 lo)).take (sIx items.size items.size hi - sIx items.size 0 lo)).toArray } })
    (hsz : items.size ≤ sizeLine) : wpAny (model prog w) A (getItem (.ref t) (.ref sl)) Q E s := by
  have htake : sizeOk (.seq ((items.toList.drop (sIx items.size 0 lo)).take (sIx items.size items.size hi - sIx items.size 0 lo)).toArray) := by
    show ((items.toList.drop (sIx items.size 0 lo)).take (sIx items.size items.size hi - sIx items.size 0 lo)).toArray.size ≤ sizeLine
    rw [List.size_toArray, List.length_take, List.length_drop, Array.length_toList]
    omega
  have hj : sIx items.size items.size hi ≤ items.size := sIx_le _ _ (Nat.le_refl _) hi
  obtain ⟨os, hos, hcs, hds⟩ := id hs
  have hTs : s.TypeIs (.ref sl) "slice" := ⟨os, hos, hcs⟩
  unfold getItem
  try with_reducible refine wpAny_holding ?_
  first | refine wpAny_bind (wpAny_pure ?_) | skip
  refine wpAny_bind (wpAny_sequenceKey ht.typeIs (by decide) ?_)
  refine wpAny_bind (wpAny_callSpecial?_slot (name := Str.ofString "__getitem__") ht.typeIs PyProof.Rows.slot_tuple_getitem
    (wpAny_call_entry PyProof.Rows.slot_tuple_getitem ht.typeIs entry_tuple_getitem ?_ (args_tuple_getitem _ _)))
  show wpAny _ _ (Builtin.Tuple.tupleItemsOf (.ref t) >>= _) _ _ s
  refine wpAny_bind (tupleItemsOf_ ht ?_)
  refine wpAny_bind (wpAny_typeOf hTs ?_)
  rw [if_pos (by decide)]
  refine wpAny_bind (sliceApplied_gen hs pl pu ?_)
  have hno : ¬ ((((sIx items.size 0 lo : Nat) : Int) == 0 && (1 : Int) == 1 && (sIx items.size items.size hi - sIx items.size 0 lo) == items.size) = true) := by
    intro q
    rw [Bool.and_eq_true, Bool.and_eq_true] at q
    have q1 : ((sIx items.size 0 lo : Nat) : Int) = 0 := eq_of_beq q.1.1
    have q2 : sIx items.size items.size hi - sIx items.size 0 lo = items.size := eq_of_beq q.2
    exact hw ⟨by omega, by omega⟩
  show wpAny _ _ (if (((sIx items.size 0 lo : Nat) : Int) == 0 && (1 : Int) == 1 && (sIx items.size items.size hi - sIx items.size 0 lo) == items.size) = true then _ else _) _ _ s
  rw [if_neg hno, pick_gen]
  first
    | exact wpAny_bind (m := Builtin.Tuple.tupleExact _) (wpAny_newObj_type (wpAny_pure ⟨_, rfl, wpAny_pure h⟩) htake)
    | exact wpAny_bind (m := Builtin.Tuple.tupleExact _) (wpAny_newObj_type (wpAny_bind (wpAny_pure (wpAny_pure ⟨_, rfl, wpAny_pure h⟩))) htake)
    | exact wpAny_bind (wpAny_bind (m := Builtin.Tuple.tupleExact _) (wpAny_newObj_type (wpAny_pure (wpAny_pure ⟨_, rfl, wpAny_pure h⟩)) htake))
    | exact wpAny_bind (wpAny_bind (m := Builtin.Tuple.tupleExact _) (wpAny_newObj_type (wpAny_pure ⟨_, rfl, wpAny_pure h⟩) htake))
end
end HT
namespace L2
open PySem PySem.Spec PyProof.Rows
abbrev TO := St → Hp → (Option Int → Hp → Prop) → Prop
def PO (X : Cx) (e : Option Expr) (t : TO) : Prop :=
  ∀ (pins : List (Addr × Obj)) (s : Shared) (σ : St) (H : Hp) (Q : Option Int → Hp → Prop), Inv X pins σ H s → t σ H Q →
    wpAny (model X.prog X.w) X.A (evalPart e X.env) (fun u s' => ∃ o H', Inv X pins σ H' s' ∧ IsPart u o ∧ Q o H') X.xe s
def tNoPart : TO := fun _ H Q => Q none H
def tPart (t : TE) : TO := fun σ H Q => t σ H fun x H1 => ∃ i, x = .int i ∧ Q (some i) H1
section
variable {X : Cx} {e : Expr} {te : TE} {lo hi : Option Expr} {tl th : TO} {pos p2 : Pos}
theorem po_none : PO X none tNoPart := by
  intro pins s σ H Q I h
  rw [evalPart_none]
  exact wpAny_pure ⟨none, H, I, .none, h⟩
theorem po_some (h : PE X e te) : PO X (some e) (tPart te) := by
  intro pins s σ H Q I hw
  rw [evalPart_some]
  refine thn (h pins s σ H _ I hw) fun u s1 ⟨x, H1, I1, r1, q1⟩ => ?_
  obtain ⟨i, rfl, q⟩ := q1
  obtain ⟨t, rfl⟩ := r1
  exact ⟨some i, H1, I1, .int i t, q⟩
def SlR (X : Cx) (r : V → Option Int → Option Int → Hp → VK → Prop) : Prop :=
  ∀ (pins : List (Addr × Obj)) (s : Shared) (σ : St) (H : Hp) (x : V) (v vl vu : Value) (lo hi : Option Int) (sl : Addr) (Q : VK), Inv X pins σ H s → RelV x v → s.heap.IsSliceOf sl vl vu .none → IsPart vl lo → IsPart vu hi → r x lo hi H Q →
    ∃ T id, typeLookup (.type T) "__getitem__" = pure (some (.builtin id)) ∧ s.TypeIs v T ∧ wpAny (model X.prog X.w) X.A (getItem v (.ref sl)) (EP X pins σ Q) X.xe s
def tSl (r : V → Option Int → Option Int → Hp → VK → Prop) (te : TE) (tl th : TO) : TE := fun σ H Q => te σ H fun x H1 => tl σ H1 fun l H2 => th σ H2 fun u H3 => r x l u H3 Q
theorem pe_slice {r : V → Option Int → Option Int → Hp → VK → Prop} (hr : SlR X r) (he : PE X e te) (hl : PO X lo tl) (hu : PO X hi th) : PE X (.Subscript e (.Slice lo hi none p2) pos) (tSl r te tl th) := by
  intro pins s σ H Q I h
  refine Subscript_ (thn (he pins s σ H _ I h) fun v s1 ⟨x, H1, I1, r1, q1⟩ => ?_)
  refine wpAny_Slice (thn (hl pins s1 σ H1 _ I1 q1) fun vl s2 ⟨l, H2, I2, pl, q2⟩ => thn (hu pins s2 σ H2 _ I2 q2) fun vu s3 ⟨u, H3, I3, pu, q3⟩ => ?_)
  rw [evalPart_none]
  refine wpAny_pure ?_
  have I4 : Inv X pins σ H3 { s3 with heap := s3.heap.push { cls := .type "slice", data := .fields #[vl, vu, .none] } } := I3.kept (t' := s3.toks) fun b ob q => Heap.get?_push_of_some _ q
  obtain ⟨T, id, hT, ht, hg⟩ := hr pins { s3 with heap := s3.heap.push { cls := .type "slice", data := .fields #[vl, vu, .none] } } σ H3 x v vl vu l u s3.heap.objs.size Q I4 r1 (Heap.IsSliceOf.new ..) pl pu q3
  show wpAny (model X.prog X.w) X.A (subscriptTail e (.Slice lo hi none p2) v (.ref s3.heap.objs.size)) (EP X pins σ Q) X.xe { s3 with heap := s3.heap.push { cls := .type "slice", data := .fields #[vl, vu, .none] } }
  exact tail_any (ops := [.ref s3.heap.objs.size, v]) ht hT hg (by with_unfolding_all rfl)
def cutV (xs : List V) (lo hi : Option Int) : List V := (xs.drop (HT.sIx xs.length 0 lo)).take (HT.sIx xs.length xs.length hi - HT.sIx xs.length 0 lo)
theorem cutV_length (xs : List V) (lo hi : Option Int) : (cutV xs lo hi).length ≤ xs.length := by
  unfold cutV
  rw [List.length_take, List.length_drop]
  omega
def rSlT (K : PySem.W.Frag) : V → Option Int → Option Int → Hp → VK → Prop := fun x lo hi H Q => ∃ a xs, x = .ref a ∧ SqT K H a xs ∧
  ¬ (HT.sIx xs.length 0 lo = 0 ∧ HT.sIx xs.length xs.length hi = xs.length) ∧ ∀ p, H p = none → Q (.ref p) (upd H p (.tup (cutV xs lo hi)))
theorem sl_tup : SlR X (rSlT X.K) := by
  intro pins s σ H x v vl vu lo hi sl Q I rx hs pl pu h
  obtain ⟨a, xs, rfl, hx, hw, q⟩ := h
  cases rx
  obtain ⟨its, r, ht, hz⟩ := I.tuple hx
  have hlen : its.toArray.size = xs.length := by rw [List.size_toArray]; exact r.length.symm
  refine ⟨"tuple", _, PyProof.Rows.slot_tuple_getitem.lookup, ht.typeIs, ?_⟩
  refine HT.getItem_tuple_cut ht hs pl pu (by rw [hlen]; exact hw) ?_ (by rw [hlen]; exact hz)
  rw [hlen]
  refine ⟨.ref s.heap.objs.size, _, I.laid (t' := s.toks) (o := .tup (cutV xs lo hi)) (fun b ob q => Heap.get?_push_of_some _ q) (Nat.le_refl _) ?_, rfl, q _ (I.hok.fresh (Nat.le_refl _))⟩
  exact ⟨Nat.le_trans (cutV_length xs lo hi) hz, _, (r.drop (HT.sIx xs.length 0 lo)).take (HT.sIx xs.length xs.length hi - HT.sIx xs.length 0 lo), IsTupN.new _ _⟩
def rCatT (K : PySem.W.Frag) : R2 := fun x y H Q => ∃ a b xs ys, x = .ref a ∧ y = .ref b ∧ SqT K H a xs ∧ SqT K H b ys ∧ xs ≠ [] ∧ xs.length + ys.length ≤ sizeLine ∧
  (ys = [] → Q (.ref a) H) ∧ (ys ≠ [] → ∀ p, H p = none → Q (.ref p) (upd H p (.tup (xs ++ ys))))
theorem Vals.nil_iff {xs : List V} {us : List Value} (r : Vals xs us) : us = [] ↔ xs = [] := by
  cases r with
  | nil => simp
  | cons _ _ => simp
theorem op_catT : OpR X (binaryOp .Add) (rCatT X.K) := by
  intro pins s σ H x y v u Q I rx ry h
  obtain ⟨a, b, xs, ys, rfl, rfl, ha, hb, hx, hz, q1, q2⟩ := h
  cases rx
  cases ry
  obtain ⟨its, r1, p1, _⟩ := I.tuple ha
  obtain ⟨its2, r2, p2, _⟩ := I.tuple hb
  refine HT.cat_tup p1 p2 (fun z => hx (r1.nil_iff.mp z)) (fun z => ⟨.ref a, H, I, rfl, q1 (r2.nil_iff.mp z)⟩) (fun z => ?_) (by rw [← r1.length, ← r2.length]; exact hz)
  refine ⟨.ref s.heap.objs.size, _, I.laid (t' := s.toks) (o := .tup (xs ++ ys)) (fun b ob q => Heap.get?_push_of_some _ q) (Nat.le_refl _) ?_, rfl, q2 (fun w => z (r2.nil_iff.mpr w)) _ (I.hok.fresh (Nat.le_refl _))⟩
  exact ⟨by rw [List.length_append]; exact hz, _, r1.append r2, IsTupN.new _ _⟩
end
end L2
namespace L2
open PySem PySem.Spec PyProof.Rows
def ixN (n : Nat) (i : Int) : Option Nat := if 0 ≤ i then (if i < n then some i.toNat else none) else if -(n : Int) ≤ i then some (i + n).toNat else none
def atI {α : Type} (xs : List α) (i : Int) : Option α := (ixN xs.length i).bind fun j => xs[j]?
theorem ixN_seq {n : Nat} {i : Int} {j : Nat} (h : ixN n i = some j) : seqIndex? i n = some j ∧ j < n ∧ -(n : Int) ≤ i ∧ i < n := by
  unfold ixN at h
  by_cases h0 : 0 ≤ i
  · rw [if_pos h0] at h
    by_cases h1 : i < n
    · rw [if_pos h1] at h
      have e : i.toNat = j := Option.some.inj h
      exact ⟨by rw [seqIndex_of h0 h1, e], by omega, by omega, h1⟩
    · rw [if_neg h1] at h; cases h
  · rw [if_neg h0] at h
    by_cases h1 : -(n : Int) ≤ i
    · rw [if_pos h1] at h
      have e : (i + n).toNat = j := Option.some.inj h
      exact ⟨by rw [seqIndex_neg (by omega) h1, e], by omega, h1, by omega⟩
    · rw [if_neg h1] at h; cases h
theorem atI_get {α : Type} {xs : List α} {i : Int} {v : α} (h : atI xs i = some v) : ∃ j, seqIndex? i xs.length = some j ∧ xs[j]? = some v ∧ j < xs.length ∧ -(xs.length : Int) ≤ i ∧ i < xs.length := by
  unfold atI at h
  cases e : ixN xs.length i with
  | none => rw [e] at h; cases h
  | some j =>
    rw [e] at h
    obtain ⟨h1, h2, h3, h4⟩ := ixN_seq e
    exact ⟨j, h1, h, h2, h3, h4⟩
theorem atI_nat {α : Type} {xs : List α} {j : Nat} {v : α} (h : xs[j]? = some v) : atI xs (j : Int) = some v := by
  have hj : j < xs.length := (List.getElem?_eq_some_iff.mp h).1
  have e : ixN xs.length (j : Int) = some j := by
    unfold ixN
    rw [if_pos (by omega), if_pos (by omega)]; simp
  unfold atI; rw [e]; exact h
theorem atI_last {α : Type} (xs : List α) (v : α) : atI (xs ++ [v]) (-1) = some v := by
  have hl : (xs ++ [v]).length = xs.length + 1 := by simp
  have e : ixN (xs ++ [v]).length (-1) = some xs.length := by
    unfold ixN
    rw [hl, if_neg (by decide), if_pos (by omega)]
    congr 1
    omega
  unfold atI
  rw [e]
  show (xs ++ [v])[xs.length]? = some v
  simp
def PlainIx (b : Expr) : Prop := ∀ o i, subscripted b false o i = operate [o, i] (getItem o i)
def IxR (X : Cx) (r : R2) : Prop :=
  ∀ (value slice : Expr) (pins : List (Addr × Obj)) (s : Shared) (σ : St) (H : Hp) (x y : V) (v u : Value) (Q : VK), Inv X pins σ H s → RelV x v → RelV y u → r x y H Q →
    subscripted slice false v u = operate [v, u] (getItem v u) → wpAny (model X.prog X.w) X.A (subscriptTail value slice v u) (EP X pins σ Q) X.xe s
def MtR (X : Cx) (id : String) (r : V → List V → Hp → VK → Prop) : Prop :=
  ∀ (pins : List (Addr × Obj)) (s : Shared) (σ : St) (H : Hp) (x : V) (xs : List V) (v : Value) (us : List Value) (Q : VK), Inv X pins σ H s → RelV x v → Vals xs us → r x xs H Q →
    wpAny (model X.prog X.w) X.A (call (.builtin id) (v :: us)) (EP X pins σ Q) X.xe s
section
variable {X : Cx} {a b : Expr} {ta tb : TE} {pos : Pos}
theorem IxR.or {r r' : R2} (h : IxR X r) (h' : IxR X r') : IxR X (fun x y H Q => r x y H Q ∨ r' x y H Q) := by
  intro value slice pins s σ H x y v u Q I rx ry q hs
  rcases q with q | q
  · exact h value slice pins s σ H x y v u Q I rx ry q hs
  · exact h' value slice pins s σ H x y v u Q I rx ry q hs
theorem pe_ix {r : R2} (hr : IxR X r) (ha : PE X a ta) (hb : PE X b tb) (hs : PlainIx b) : PE X (.Subscript a b pos) (tOp r ta tb) := by
  intro pins s σ H Q I h
  exact Subscript_ (binT ha hb I h fun v u s2 x y H2 I2 rx ry q => hr a b pins s2 σ H2 x y v u Q I2 rx ry q (hs _ _))
def rIxL (K : PySem.W.Frag) : R2 := fun x y H Q => ∃ p xs i v, x = .ref p ∧ y = .int i ∧ SqL K H p xs ∧ atI xs i = some v ∧ Q v H
def rIxT (K : PySem.W.Frag) : R2 := fun x y H Q => ∃ p xs i v, x = .ref p ∧ y = .int i ∧ SqT K H p xs ∧ atI xs i = some v ∧ Q v H
def rIxS : R2 := fun x y H Q => ∃ z i c, x = .str z ∧ y = .int i ∧ z.length ≤ sizeLine ∧ atI z.cps.toList i = some c ∧ Q (.str ⟨#[c]⟩) H
theorem ix_list : IxR X (rIxL X.K) := by
  intro value slice pins s σ H x y v u Q I rx ry h hs
  obtain ⟨p, xs, i, z, rfl, rfl, hq, he, q⟩ := h
  cases rx
  obtain ⟨t, rfl⟩ := ry
  obtain ⟨its, r, pl, hz⟩ := I.list hq
  obtain ⟨j, h1, h2, h3, h4, h5⟩ := atI_get he
  obtain ⟨w, ew, rw'⟩ := r.get h2
  have hl := r.length
  have hn := line63
  have fin : EP X pins σ Q w s := ⟨z, H, I, rw', q⟩
  by_cases h0 : 0 ≤ i
  · have hj : i.toNat = j := by
      rw [seqIndex_of h0 h5] at h1
      exact Option.some.inj h1
    exact item_listR pl.isList h0 (by omega) (by rw [hj]; simpa using ew) fin hs
  · have hj : (i + (its.toArray.size : Int)).toNat = j := by
      rw [seqIndex_neg (by omega) h4] at h1
      rw [List.size_toArray, ← hl]
      exact Option.some.inj h1
    exact subscriptTail_builtinR (x := w) pl.isList.typeIs slot_list_getitem.lookup
      (wpAny_getItem_list_neg (Q := fun r s' => r = w ∧ EP X pins σ Q r s') pl.isList (by omega) (by rw [List.size_toArray] <;> omega) (by omega) (by rw [hj]; simpa using ew) ⟨rfl, fin⟩) hs
theorem ix_tup : IxR X (rIxT X.K) := by
  intro value slice pins s σ H x y v u Q I rx ry h hs
  obtain ⟨p, xs, i, z, rfl, rfl, hq, he, q⟩ := h
  cases rx
  obtain ⟨t, rfl⟩ := ry
  obtain ⟨its, r, pl, hz⟩ := I.tuple hq
  obtain ⟨j, h1, h2, h3, h4, h5⟩ := atI_get he
  obtain ⟨w, ew, rw'⟩ := r.get h2
  have hl := r.length
  have hn := line63
  have fin : EP X pins σ Q w s := ⟨z, H, I, rw', q⟩
  exact subscriptTail_builtinR (x := w) pl.typeIs slot_tuple_getitem.lookup
    (getItem_tuple (j := j) (Q := fun r s' => r = w ∧ EP X pins σ Q r s') pl (by omega) (by omega) (by rw [List.size_toArray, ← hl]; exact h1) (by simpa using ew) ⟨rfl, fin⟩) hs
theorem ix_str : IxR X rIxS := by
  intro value slice pins s σ H x y v u Q I rx ry h hs
  obtain ⟨z, i, c, rfl, rfl, hz, he, q⟩ := h
  obtain ⟨t, rfl⟩ := rx
  obtain ⟨t', rfl⟩ := ry
  obtain ⟨j, h1, h2, h3, h4, h5⟩ := atI_get he
  have hl : z.cps.toList.length = z.length := by simp [Str.length]
  rw [hl] at h1 h4 h5
  have hn := line63
  exact tail_any (typeIs_str s z t) slot_str_getitem.lookup (getItem_str (c := c) (by
    have e1 : decide (i < -(2 ^ 63 : Int)) = false := decide_eq_false (by omega)
    have e2 : decide (i ≥ 2 ^ 63) = false := decide_eq_false (by omega)
    rw [e1, e2, Bool.or_false]) (by rw [h1]; simpa using h2) ⟨.str ⟨#[c]⟩, H, I.tok _, ⟨_, rfl⟩, q⟩) hs
def rIx (K : PySem.W.Frag) : R2 := fun x y H Q => rIxL K x y H Q ∨ rIxT K x y H Q ∨ rIxS x y H Q
theorem ix_seq : IxR X (rIx X.K) := ix_list.or (ix_tup.or ix_str)
theorem Inv.lst {pins : List (Addr × Obj)} {σ : St} {H : Hp} {s : Shared} {p : Addr} {xs : List V} (I : Inv X pins σ H s) (h : H p = some (.lst xs)) :
    ∃ (its : List Value) (n : Nat), Vals xs its ∧ s.heap.get? p = some { cls := .type "list", data := .seq its.toArray n } ∧ xs.length ≤ sizeLine := by
  obtain ⟨z, its, n, r, e⟩ := I.hok p _ h
  exact ⟨its, n, r, e, z⟩
theorem slice_bounds (lo hi : Option Int) (n : Nat) : (sliceBounds lo hi none n).1 = ((HT.sIx n 0 lo : Nat) : Int) ∧ (sliceBounds lo hi none n).2.1 = ((HT.sIx n n hi : Nat) : Int) ∧ (sliceBounds lo hi none n).2.2 = 1 := by
  refine ⟨?_, ?_, rfl⟩
  · cases lo with
    | none => simp [sliceBounds, HT.sIx]
    | some i =>
      simp only [sliceBounds, HT.sIx, Option.getD_none, show (1 : Int) > 0 by decide, if_true]
      by_cases h : i < 0
      · simp only [h, if_true] <;> omega
      · simp only [h, if_false] <;> omega
  · cases hi with
    | none => simp [sliceBounds, HT.sIx]
    | some i =>
      simp only [sliceBounds, HT.sIx, Option.getD_none, show (1 : Int) > 0 by decide, if_true]
      by_cases h : i < 0
      · simp only [h, if_true] <;> omega
      · simp only [h, if_false] <;> omega
theorem slicePick_cut (its : List Value) (lo hi : Option Int) : slicePick its.toArray lo hi none = ((its.drop (HT.sIx its.length 0 lo)).take (HT.sIx its.length its.length hi - HT.sIx its.length 0 lo)).toArray := by
  obtain ⟨h1, h2, h3⟩ := slice_bounds lo hi its.toArray.size
  unfold slicePick
  rw [h1, h2, h3]
  simp only [sliceRange_one, pick_run, List.size_toArray] <;> rfl
def rSlL (K : PySem.W.Frag) : V → Option Int → Option Int → Hp → VK → Prop := fun x lo hi H Q => ∃ a xs, x = .ref a ∧ SqL K H a xs ∧ ∀ p, H p = none → Q (.ref p) (upd H p (.lst (cutV xs lo hi)))
theorem sl_list : SlR X (rSlL X.K) := by
  intro pins s σ H x v vl vu lo hi sl Q I rx hs pl pu h
  obtain ⟨a, xs, rfl, hx, q⟩ := h
  cases rx
  obtain ⟨its, r, ht, hz⟩ := I.list hx
  have hlen := r.length
  refine ⟨"list", _, slot_list_getitem.lookup, ht.isList.typeIs, ?_⟩
  refine wpAny_getItem_list_slice ht.isList hs pl pu .none (by simp) ?_ (by rw [List.size_toArray] <;> omega)
  rw [slicePick_cut, ← hlen]
  refine ⟨.ref s.heap.objs.size, _, I.laid (t' := s.toks) (o := .lst (cutV xs lo hi)) (fun b ob q => Heap.get?_push_of_some _ q) (Nat.le_refl _) ?_, rfl, q _ (I.hok.fresh (Nat.le_refl _))⟩
  exact ⟨Nat.le_trans (cutV_length xs lo hi) hz, _, 0, (r.drop (HT.sIx xs.length 0 lo)).take (HT.sIx xs.length xs.length hi - HT.sIx xs.length 0 lo), Heap.get?_push_size _ rfl⟩
def flatV : V → Bool
  | .non => true
  | .bl _ => true
  | .int _ => true
  | .str _ => true
  | _ => false
def eqV : V → V → Bool
  | .non, .non => true
  | .bl a, .bl b => a == b
  | .bl a, .int b => (if a then 1 else 0) == b
  | .int a, .bl b => a == (if b then 1 else 0)
  | .int a, .int b => a == b
  | .str a, .str b => a == b
  | _, _ => false
theorem eqAt_V {A : Around} {s : Shared} {y x : V} {u v : Value} (ry : RelV y u) (rx : RelV x v) (fy : flatV y = true) (fx : flatV x = true) : SeqAt.EqAt A s u v (eqV y x) := by
  cases y with
  | non =>
    cases ry
    cases x with
    | non => cases rx; exact SeqAt.EqAt.same _
    | bl b => cases rx; exact SeqAt.EqAt.none_bool b
    | int b => obtain ⟨t, rfl⟩ := rx; exact SeqAt.EqAt.none_int b t
    | str b => obtain ⟨t, rfl⟩ := rx; exact SeqAt.EqAt.none_str b t
    | _ => exact absurd (show false = true from fx) Bool.false_ne_true
  | bl a =>
    cases ry
    cases x with
    | non => cases rx; exact SeqAt.EqAt.bool_none a
    | bl b => cases rx; exact SeqAt.EqAt.bool_bool a b
    | int b => obtain ⟨t, rfl⟩ := rx; exact SeqAt.EqAt.bool_int a b t
    | str b => obtain ⟨t, rfl⟩ := rx; exact SeqAt.EqAt.bool_str a b t
    | _ => exact absurd (show false = true from fx) Bool.false_ne_true
  | int a =>
    obtain ⟨t', rfl⟩ := ry
    cases x with
    | non => cases rx; exact SeqAt.EqAt.int_none a t'
    | bl b => cases rx; exact SeqAt.EqAt.int_bool a t' b
    | int b => obtain ⟨t, rfl⟩ := rx; exact SeqAt.EqAt.int_int a t' b t
    | str b => obtain ⟨t, rfl⟩ := rx; exact SeqAt.EqAt.int_str a t' b t
    | _ => exact absurd (show false = true from fx) Bool.false_ne_true
  | str a =>
    obtain ⟨t', rfl⟩ := ry
    cases x with
    | non => cases rx; exact SeqAt.EqAt.str_none a t'
    | bl b => cases rx; exact SeqAt.EqAt.str_bool a t' b
    | int b => obtain ⟨t, rfl⟩ := rx; exact SeqAt.EqAt.str_int a t' b t
    | str b => obtain ⟨t, rfl⟩ := rx; exact SeqAt.EqAt.str_str a t' b t
    | _ => exact absurd (show false = true from fx) Bool.false_ne_true
  | _ => exact absurd (show false = true from fy) Bool.false_ne_true
theorem call_len_seq : CallR X (.builtin "len") (fun xs H Q => ∃ p ys, xs = [.ref p] ∧ (SqL X.K H p ys ∨ SqT X.K H p ys) ∧ Q (.int ys.length) H) := by
  intro pins s σ H xs us Q I r h
  obtain ⟨p, ys, rfl, hq, q⟩ := h
  obtain ⟨u, rfl, rx⟩ := vals1 r
  cases rx
  have hn := line63
  rcases hq with hq | hq
  · obtain ⟨its, r', pl, hz⟩ := I.list hq
    have hlen := r'.length
    exact Calls.call_len_list pl.isList (by simp only [List.size_toArray] <;> omega) ⟨.int ys.length, H, I.tok _, ⟨s.toks + 1, by rw [List.size_toArray, hlen]⟩, q⟩
  · obtain ⟨its, r', pl, hz⟩ := I.tuple hq
    have hlen := r'.length
    exact len_tuple pl (by simp only [List.size_toArray] <;> omega) ⟨.int ys.length, H, I.tok _, ⟨s.toks + 1, by rw [List.size_toArray, hlen]⟩, q⟩
theorem call_len_str : CallR X (.builtin "len") (fun xs H Q => ∃ z, xs = [.str z] ∧ z.length ≤ sizeLine ∧ Q (.int z.length) H) := by
  intro pins s σ H xs us Q I r h
  obtain ⟨z, rfl, hz, q⟩ := h
  obtain ⟨u, rfl, t, rfl⟩ := vals1 r
  have hn := line63
  exact len_str (by omega) ⟨.int z.length, H, I.tok _, ⟨_, rfl⟩, q⟩
theorem CallR.or {f : Value} {r r' : List V → Hp → VK → Prop} (h : CallR X f r) (h' : CallR X f r') : CallR X f (fun xs H Q => r xs H Q ∨ r' xs H Q) := by
  intro pins s σ H xs us Q I rs q
  rcases q with q | q
  · exact h pins s σ H xs us Q I rs q
  · exact h' pins s σ H xs us Q I rs q
theorem call_list_of : CallR X (.type "list") (fun xs H Q => ∃ p ys, xs = [.ref p] ∧ (SqL X.K H p ys ∨ SqT X.K H p ys) ∧ ∀ l, H l = none → Q (.ref l) (upd H l (.lst ys))) := by
  intro pins s σ H xs us Q I r h
  obtain ⟨p, ys, rfl, hq, q⟩ := h
  obtain ⟨u, rfl, rx⟩ := vals1 r
  cases rx
  have fin : ∀ (its : List Value), Vals ys its → ys.length ≤ sizeLine → ∀ (h' : Heap) (c' : Nat), (∀ b o', s.heap.get? b = some o' → h'.get? b = some o') →
      h'.get? s.heap.objs.size = some { cls := .type "list", dict := none, data := .seq its.toArray c', slots := #[] } → EP X pins σ Q (.ref s.heap.objs.size) { s with heap := h' } := fun its r' hz h' c' kp e =>
    ⟨.ref s.heap.objs.size, _, I.laid (t' := s.toks) kp (Nat.le_refl _) (show ObjOk X.prog X.w _ h' _ (.lst ys) from ⟨hz, its, c', r', e⟩), rfl, q _ (I.hok.fresh (Nat.le_refl _))⟩
  rcases hq with hq | hq
  · obtain ⟨its, r', pl, hz⟩ := I.list hq
    have hlen := r'.length
    obtain ⟨o, ho, hc, n, hd⟩ := pl.isList
    exact call_list_seq p (.inl rfl) ho hc hd (fun h' c' kp e => fin its r' hz h' c' kp e) (by simp only [List.size_toArray] <;> omega)
  · obtain ⟨its, r', pl, hz⟩ := I.tuple hq
    have hlen := r'.length
    obtain ⟨o, ho, hc, n, hd⟩ := pl
    exact call_list_seq p (.inr rfl) ho hc hd (fun h' c' kp e => fin its r' hz h' c' kp e) (by simp only [List.size_toArray] <;> omega)
theorem call_tuple_of : CallR X (.type "tuple") (fun xs H Q => ∃ p ys, xs = [.ref p] ∧ ((SqL X.K H p ys ∧ ∀ l, H l = none → Q (.ref l) (upd H l (.tup ys))) ∨ (SqT X.K H p ys ∧ Q (.ref p) H))) := by
  intro pins s σ H xs us Q I r h
  obtain ⟨p, ys, rfl, h⟩ := h
  obtain ⟨u, rfl, rx⟩ := vals1 r
  cases rx
  rcases h with ⟨hq, q⟩ | ⟨hq, q⟩
  · obtain ⟨its, r', pl, hz⟩ := I.list hq
    have hlen := r'.length
    refine call_tuple_list pl.isList (fun h' kp => ?_) (by simp only [List.size_toArray] <;> omega)
    have I1 : Inv X pins σ H { s with heap := h' } := I.kept (t' := s.toks) kp
    have I2 : Inv X pins σ (upd H h'.objs.size (.tup ys)) { s with heap := h'.push { cls := .type "tuple", data := .seq its.toArray } } :=
      I1.laid (t' := s.toks) (fun b o e => Heap.get?_push_of_some _ e) (Nat.le_refl _) (show ObjOk X.prog X.w _ _ _ (.tup ys) from ⟨hz, its, r', IsTupN.new _ _⟩)
    exact ⟨.ref h'.objs.size, _, I2, rfl, q _ (I1.hok.fresh (Nat.le_refl _))⟩
  · obtain ⟨its, r', pl, hz⟩ := I.tuple hq
    exact call_tuple_same pl ⟨.ref p, H, I, rfl, q⟩
def tyV (K : PySem.W.Frag) (T : String) (x : V) (H : Hp) : Prop := match x with
  | .str _ => T = "str"
  | .int _ => T = "int"
  | .ref p => (T = "list" ∧ ∃ xs, SqL K H p xs) ∨ (T = "tuple" ∧ ∃ o, K.lookup p = some o ∧ o.cls = .type "tuple" ∧ o.dict = none) ∨
      (T = "dict" ∧ ((∃ kvs, H p = some (.dK kvs)) ∨ ∃ kvs, H p = some (.dT kvs))) ∨ (T = "set" ∧ ∃ S n, H p = some (.set S n))
  | _ => False
theorem tyV_is {pins : List (Addr × Obj)} {σ : St} {H : Hp} {s : Shared} {T : String} {x : V} {v : Value} (I : Inv X pins σ H s) (r : RelV x v) (ty : tyV X.K T x H) :
    s.TypeIs v T ∧ ∀ a, v = .ref a → ∃ ob, s.heap.get? a = some ob ∧ ob.dict = none := by
  cases x with
  | str z =>
    obtain ⟨t, rfl⟩ := r
    cases (show T = "str" from ty)
    exact ⟨typeIs_str s z t, fun _ e => nomatch e⟩
  | int i =>
    obtain ⟨t, rfl⟩ := r
    cases (show T = "int" from ty)
    exact ⟨typeIs_int s i t, fun _ e => nomatch e⟩
  | ref p =>
    cases r
    rcases ty with ⟨rfl, xs, hq⟩ | ⟨rfl, o, hk, hc, hd⟩ | ⟨rfl, hk⟩ | ⟨rfl, S, n, hk⟩
    · obtain ⟨its, _, pl, _⟩ := I.list hq
      refine ⟨pl.isList.typeIs, fun a e => ?_⟩
      cases e
      obtain ⟨o, n, e, c, hd, _⟩ := pl
      exact ⟨o, e, hd⟩
    · refine ⟨⟨o, I.kIn p o hk, hc⟩, fun a e => ?_⟩
      cases e
      exact ⟨o, I.kIn _ o hk, hd⟩
    · have z : ∃ o, s.heap.get? p = some o ∧ o.ExactDict := by
        rcases hk with ⟨kvs, hk⟩ | ⟨kvs, hk⟩
        · obtain ⟨_, _, _, _, o, _, _, e, ex, _⟩ := I.hok p _ hk
          exact ⟨o, e, ex⟩
        · obtain ⟨_, _, _, _, o, _, _, e, ex, _⟩ := I.hok p _ hk
          exact ⟨o, e, ex⟩
      obtain ⟨o, e, ex⟩ := z
      refine ⟨⟨o, e, ex.1⟩, fun a e2 => ?_⟩
      cases e2
      exact ⟨o, e, ex.2.1⟩
    · obtain ⟨o, _, _, _, e, ex, _⟩ := I.hok p _ hk
      refine ⟨⟨o, e, ex.1⟩, fun a e2 => ?_⟩
      cases e2
      exact ⟨o, e, ex.2.1⟩
  | _ => exact False.elim ty
def tBM (K : PySem.W.Frag) (T : String) (r : V → List V → Hp → VK → Prop) (to : TE) (t : TA) : TE := fun σ H Q => to σ H fun x H1 => tyV K T x H1 ∧ t σ H1 fun xs H2 => r x xs H2 Q
variable {o e : Expr} {es : List Expr} {to : TE} {t : TA} {name : Str} {apos cpos : Pos} {T id : String} {r : V → List V → Hp → VK → Prop}
theorem pe_bm (pa : PlainAttrs T) (slot : Slot T name id) (hty : typeOf (.builtin id) = pure (.type "method_descriptor")) (hm : MtR X id r) (ho : PE X o to) (ha : PA X (e :: es) t)
    (hbase : attributeBase o name X.env (eval o X.env) = eval o X.env := by rfl)
    (hfew : ((backTo cpos (starEach (e :: es) X.env)).all (fun x => !x.1) && (backToKw cpos (keywordEach [] X.env)).all (fun x => x.1.isSome)
      && decide ((e :: es).length + ([] : List Keyword).length + (if ([] : List Keyword).isEmpty then 0 else 1) < 30)) = true := by rfl)
    (hline : (apos.endLine == cpos.line) = true := by rfl) (hs : starEach (e :: es) X.env = (false, eval e X.env) :: starEach es X.env := by rfl) (hplain : (backTo cpos (starEach es X.env)).any (·.1) = false := by rfl) :
    PE X (.Call (.Attribute o name apos) (e :: es) [] cpos) (tBM X.K T r to t) := by
  intro pins s σ H Q I h
  refine wpAny_Call_method_late hbase hfew hline rfl (thn (ho pins s σ H _ I h) fun v s1 ⟨x, H1, I1, r1, ty, q1⟩ => ?_)
  obtain ⟨h1, h2⟩ := tyV_is I1 r1 ty
  refine ⟨T, id, pa, slot, hty, h1, h2, ?_⟩
  have hA := ha cpos pins s1 σ H1 _ I1 q1
  rw [hs] at hA ⊢
  refine Calls.callWith_builtin (by show (false || (backTo cpos (starEach es X.env)).any (·.1)) = false; rw [hplain] <;> rfl) (Calls.evalArgs_plain ?_)
  exact thn hA fun us s2 ⟨vs, H2, I2, r2, q2⟩ => hm pins s2 σ H2 x vs v us Q I2 r1 r2 q2
end
end L2
namespace L2
open PySem PySem.Spec PyProof.Rows
def MtM (X : Cx) (id : String) (r : V → List V → Hp → VK → Prop) : Prop :=
  ∀ (pins : List (Addr × Obj)) (s : Shared) (σ : St) (H : Hp) (x : V) (xs : List V) (v : Value) (us : List Value) (Q : VK), Inv X pins σ H s → RelV x v → Vals xs us → r x xs H Q →
    wpAny (model X.prog X.w) X.A (call (.builtin id) (v :: us)) (EP X pins σ Q) X.xe s
theorem Vals.one : ∀ {x : V} {us : List Value}, Vals [x] us → ∃ u, us = [u] ∧ RelV x u
  | _, _, .cons r .nil => ⟨_, rfl, r⟩
theorem Vals.two : ∀ {x y : V} {us : List Value}, Vals [x, y] us → ∃ u v, us = [u, v] ∧ RelV x u ∧ RelV y v
  | _, _, _, .cons r (.cons q .nil) => ⟨_, _, rfl, r, q⟩
theorem Vals.zero : ∀ {us : List Value}, Vals [] us → us = []
  | _, .nil => rfl
theorem Vals.dropLast {xs : List V} {us : List Value} (h : Vals xs us) : Vals xs.dropLast us.dropLast := by
  induction h with
  | nil => exact .nil
  | cons r t ih =>
    cases t with
    | nil => exact .nil
    | cons q t' => exact .cons r ih
theorem Vals.reverse {xs : List V} {us : List Value} (h : Vals xs us) : Vals xs.reverse us.reverse := by
  induction h with
  | nil => exact .nil
  | cons r t ih => rw [List.reverse_cons, List.reverse_cons]; exact Vals.append ih (.cons r .nil)
section
variable {X : Cx} {pins : List (Addr × Obj)} {σ : St} {H : Hp} {s : Shared} {l b : Addr} {xs ys zs : List V}
theorem Inv.lset {its its' : List Value} {n : Nat} {f : Array Value → Array Value} {t' : Nat} (I : Inv X pins σ H s) (hH : H l = some (.lst xs))
    (e : s.heap.get? l = some { cls := .type "list", data := .seq its.toArray n }) (hf : f its.toArray = its'.toArray) (hv : Vals ys its') (hz : ys.length ≤ sizeLine) :
    Inv X pins σ (upd H l (.lst ys)) { s with heap := s.heap.update l (Obj.mapSeq f), toks := t' } := by
  have q := PySem.IsL.update e f
  rw [hf] at q
  refine I.write (x := l) (e := l) (by rw [hH]; exact trivial) (.inl rfl) (fun b' u hb hu => (Heap.get?_update_other s.heap (Obj.mapSeq f) (Ne.symm hb)).trans hu) ⟨_, q⟩ ?_
  exact ⟨hz, its', _, hv, q⟩
theorem Inv.lnew {its : List Value} {t' : Nat} (I : Inv X pins σ H s) (hv : Vals ys its) (hz : ys.length ≤ sizeLine) :
    Inv X pins σ (upd H s.heap.objs.size (.lst ys)) { s with heap := s.heap.push { cls := .type "list", data := .seq its.toArray }, toks := t' } :=
  I.laid (fun _ _ q => Heap.get?_push_of_some _ q) (Nat.le_refl _) ⟨hz, its, 0, hv, Heap.get?_push_size _ rfl⟩
theorem Inv.fresh (I : Inv X pins σ H s) : H s.heap.objs.size = none := I.hok.fresh (Nat.le_refl _)
theorem Inv.lstM (I : Inv X pins σ H s) (hH : H l = some (.lst xs)) : xs.length ≤ sizeLine ∧ ∃ (its : List Value) (n : Nat), Vals xs its ∧ xs.length = its.length ∧ s.heap.get? l = some { cls := .type "list", data := .seq its.toArray n } := by
  obtain ⟨z, its, n, r, e⟩ := I.hok l _ hH
  exact ⟨z, its, n, r, r.length, e⟩
theorem notLongL {n : Nat} (h : n ≤ sizeLine) : Builtin.List.listTooLong n = false := by
  unfold Builtin.List.listTooLong
  exact decide_eq_false (by omega)
end
section
variable {X : Cx}
def rAppend : V → List V → Hp → VK → Prop := fun x vs H Q => ∃ l xs y, x = .ref l ∧ vs = [y] ∧ H l = some (.lst xs) ∧ xs.length < sizeLine ∧ Q .non (upd H l (.lst (xs ++ [y])))
theorem mt_append : MtM X "list.append" rAppend := by
  intro pins s σ H x vs v us Q I rx rv h
  obtain ⟨l, xs, y, rfl, rfl, hH, hz, q⟩ := h
  cases rx
  obtain ⟨u, rfl, ru⟩ := rv.one
  obtain ⟨z, its, n, r, hl, e⟩ := I.lstM hH
  refine call_meets F.slot_list_append ⟨_, e, rfl⟩ F.entry_list_append (F.args_list_append_2 _ _) (PySem.list_append l its.toArray n u (by rw [List.size_toArray]; omega)) ⟨e, ?_⟩
  refine ⟨.non, _, I.lset (its' := its ++ [u]) hH e (by simp) (r.append (.cons ru .nil)) ?_, rfl, q⟩
  rw [List.length_append, List.length_singleton]
  omega
def rExtend : V → List V → Hp → VK → Prop := fun x vs H Q => ∃ l b xs zs, x = .ref l ∧ vs = [.ref b] ∧ H l = some (.lst xs) ∧ H b = some (.lst zs) ∧ xs.length + zs.length ≤ sizeLine ∧ Q .non (upd H l (.lst (xs ++ zs)))
theorem mt_extend : MtM X "list.extend" rExtend := by
  intro pins s σ H x vs v us Q I rx rv h
  obtain ⟨l, b, xs, zs, rfl, rfl, hH, hB, hz, q⟩ := h
  cases rx
  obtain ⟨u, rfl, ru⟩ := rv.one
  cases ru
  obtain ⟨z, its, n, r, hl, e⟩ := I.lstM hH
  obtain ⟨z2, its2, n2, r2, hl2, e2⟩ := I.lstM hB
  have hsz : its.toArray.size + its2.toArray.size ≤ sizeLine := by rw [List.size_toArray, List.size_toArray]; omega
  have hlong : ¬ (!its.toArray.isEmpty && Builtin.List.listTooLong (its.toArray.size + its2.toArray.size)) = true := by
    rw [notLongL hsz, Bool.and_false]
    exact Bool.false_ne_true
  refine call_meets F.slot_list_extend ⟨_, e, rfl⟩ F.entry_list_extend (F.args_list_extend_2 _ _)
    (AutoSeq1.list_extend_list_list_0 l its.toArray n b its2.toArray n2 hlong (by rw [List.size_toArray]; omega) (by omega)) ⟨e, e2, ?_⟩
  refine ⟨.non, _, I.lset (its' := its ++ its2) hH e (by simp) (r.append r2) ?_, rfl, q⟩
  rw [List.length_append]
  omega
def rCat : R2 := fun x y H Q => ∃ l b xs zs, x = .ref l ∧ y = .ref b ∧ H l = some (.lst xs) ∧ H b = some (.lst zs) ∧ xs.length + zs.length ≤ sizeLine ∧ ∀ p, H p = none → Q (.ref p) (upd H p (.lst (xs ++ zs)))
theorem op_cat : OpR X (binaryOp .Add) rCat := by
  intro pins s σ H x y v u Q I rx ry h
  obtain ⟨l, b, xs, zs, rfl, rfl, hH, hB, hz, q⟩ := h
  cases rx
  cases ry
  obtain ⟨z, its, n, r, hl, e⟩ := I.lstM hH
  obtain ⟨z2, its2, n2, r2, hl2, e2⟩ := I.lstM hB
  refine PySem.P.add_list e e2 ?_ (by rw [List.size_toArray, List.size_toArray]; omega)
  have ea : its.toArray ++ its2.toArray = (its ++ its2).toArray := by simp
  rw [ea]
  exact ⟨.ref _, _, I.lnew (t' := s.toks) (r.append r2) (by rw [List.length_append]; omega), rfl, q _ I.fresh⟩
end
section
variable {prog : Program} {w : World} {A : Around} {E : Value → Shared → Prop} {s : Shared}
set_option maxRecDepth 100000 in
end
section
variable {X : Cx}
end
end L2
namespace Att
open PySem PySem.W PySem.Calls PyProof.Rows
theorem ints_of_wellAll {P : Params} {h : Heap} : ∀ (ns : List Int) (vs : List Value), WellAll P h vs (ns.map WData.int) → IntsAre vs ns := by
  intro ns
  induction ns with
  | nil =>
    intro vs w
    rw [List.map_nil] at w
    cases w
    exact .nil
  | cons n ns ih =>
    intro vs w
    rw [List.map_cons] at w
    cases w with
    | cons a b =>
      cases a
      exact .cons _ _ (ih _ b)
theorem script_of {l : OpenLaw} {n : Nat} (hn : l.most = some n) {P : Params} {h : Heap} {args : List WData} {vals : List Value}
    (hpre : l.row.toRowW.claim.pre args = true) (hwl : WellAll P h vals args) :
    ∃ a vs ns, vals = [Value.ref a] ∧ args = [WData.list (ns.map WData.int)] ∧ h.get? a = some { cls := .type "list", data := .seq vs.toArray } ∧ IntsAre vs ns ∧ ns.length ≤ n := by
  have hsh : WShape.hasAll [] args [.list .int] = true := (pre_splitW hpre).1
  have hc : l.pre.holds [] { args := args } = true := (pre_splitW hpre).2
  obtain ⟨d, r, rfl, h1, h2⟩ := hasAllW_cons hsh
  obtain rfl := hasAllW_nil h2
  obtain ⟨xs, rfl, h3⟩ := hasW_list h1
  obtain ⟨ns, rfl⟩ := items_int h3
  have hlen : ns.length ≤ n := by
    unfold OpenLaw.pre at hc
    have h4 : (WTm.not (.lt (.lit (.int (n : Int))) (.len (.arg 0)))).holds [] { args := [.list (ns.map .int)] } = true := by
      have h4 := (holds_andW hc).1
      rw [hn] at h4
      exact h4
    have h5 := condW_of h4 (w_not (w_lt w_lit (w_len_list (w_arg rfl))))
    rw [List.length_map] at h5
    refine Nat.le_of_not_lt fun q => ?_
    have q' : (n : Int) < ((ns.length : Nat) : Int) := by omega
    first
      | (rw [decide_eq_true q'] at h5; exact absurd h5 (by decide))
      | (simp at h5; omega)
  cases hwl with
  | cons w1 w2 =>
    cases w2
    cases w1 with
    | list ho hall => exact ⟨_, _, ns, rfl, rfl, ho, ints_of_wellAll ns _ hall, hlen⟩
theorem post_true (l : OpenLaw) (args : List WData) : l.row.toRowW.claim.post args (.bool true) args = true :=
  postW_of (r := l.row.toRowW) (X := (true == true))
    (show WShape.has [] (.bool true) .bool = true by first | rfl | decide | simp [WShape.has, WShape.arms, WShape.armsAll])
    (show (WTm.eq .res (.lit (.bool true))).value [] { args := args, res := some (.bool true), after := args } = some (.bool (true == true)) from w_eq_bool (w_res rfl) w_lit) rfl
theorem attach_call {l : OpenLaw} {n : Nat} {q : Program} {loose : List Str} {XP : (Str → Option Value) → Heap → Prop} {YP : World → Heap → Prop} {d : DefRec}
    (hn : l.most = some n) (hdf : d.params.defaults = [])
    (call : ∀ (w : World) (s₀ s₁ : Shared) (mg mb : Str → Option Value) (fa : Addr) (o : Obj) (pm cd doc : Value) (a : Addr) (vs : List Value) (ns : List Int),
      Ground q loose [] XP w s₀ mg mb s₁.heap → YP w s₁.heap →
      s₁.heap.get? fa = some o → o.data = .func (docDef d.name d.params d.body d.scope pm cd doc) → s₁.heap.CodeRec cd d.name → mg d.name = some (.ref fa) →
      s₁.heap.get? a = some { cls := .type "list", data := .seq vs.toArray } → IntsAre vs ns → ns.length ≤ n → s₁.gens = #[] →
      codeAny (model l.prog w) callerA (.call (.ref fa) ⟨[.ref a], []⟩) (fun r s' => r = .ok (.ret (.bool true)) ∧ OldK s₁.heap s'.heap ∧ s'.os = s₁.os ∧ AllBare s'.gens) s₁) :
    WalkO q loose XP YP l.row.toRowW d [] (fun f vs => PySem.call f vs) := by
  intro w s₀ s₁ mg mb G Y fa o pm cd doc dV kV ho hd hcd hD hmg hg args vals as hpre hlay hrd hwl hlo
  obtain rfl : dV = .none := Dflts.none hD hdf
  obtain rfl : kV = .none := Dflts.noKw hD
  obtain ⟨a, vs, ns, rfl, rfl, hobj, hints, hlen⟩ := script_of hn hpre hwl
  refine enter_call (codeAny_mono (call w s₀ s₁ mg mb fa o pm cd doc a vs ns G Y ho (fd_plain hd) hcd hmg hobj hints hlen hg) fun r s' hq => ?_)
  obtain ⟨rfl, h2, h3, h4⟩ := hq
  exact ⟨.inl ⟨.bool true, .bool true, [], rfl, fun _ => rfl, .bool true, post_true l _, fun _ => ⟨List.Pairwise.nil, fun _ hm => (nomatch hm)⟩⟩, h2, h3, h4⟩
section
variable {prog : Program} {w : World} {A : Around} {E : Value → Shared → Prop} {s : Shared} {K : Frag}
end
end Att
namespace L2
open PySem PySem.Spec PyProof.Rows
theorem vals_ints : ∀ {vs : List Value} {ns : List Int}, IntsAre vs ns → Vals (ns.map V.int) vs
  | _, _, .nil => .nil
  | _, _, .cons n t h => .cons ⟨t, rfl⟩ (vals_ints h)
def Only (H : Hp) : Prop := ∀ b, H b = none ∨ ∃ o xs, H b = some (.frz o (.lst xs))
theorem law_call {P : Program} {w : World} {K : PySem.W.Frag} {mg mb : Str → Option Value} {CX : CXT} {k : Nat} {fa a : Addr} {fd : FuncData} {x : Str} {sp : Sp} {s₁ : Shared} {vs : List Value} {ns : List Int}
    (KX : K.In s₁.heap) (hns : s₁.heap.Ns mainGlobals mg) (hb : s₁.heap.Ns builtinsNs mb) (hbb : ∀ x : Str, x ≠ "__name__" → mb x = bootBuiltins x) (hlim : s₁.heap.NoLimit) (hg : s₁.gens = #[])
    (ha : s₁.heap.get? a = some { cls := .type "list", data := .seq vs.toArray }) (hi : IntsAre vs ns) (hl : ns.length ≤ sizeLine) (hr : Room k callerA)
    (F : ∀ base : Heap, K.In base → base.Ns mainGlobals mg → FnOk P w K mg base CX k fa fd [x] sp) (hbind : ∀ (s : Shared) (u : Value), BindsTo s fd ⟨[u], []⟩ [(x, u)])
    (hsp : ∀ H : Hp, Only H → SqL K H a (ns.map V.int) → sp [.ref a] H (fun v _ => v = .bl true) fun _ _ _ => False)
    (hCX : ∀ H e s', CX [] H s₁ (fun _ _ _ => False) e s' → False) :
    codeAny (model P w) callerA (.call (.ref fa) ⟨[.ref a], []⟩) (fun r s' => r = .ok (.ret (.bool true)) ∧ OldK s₁.heap s'.heap ∧ s'.os = s₁.os ∧ AllBare s'.gens) s₁ := by
  have rv := vals_ints hi
  have lenV := hi.length
  -- from an abstract heap in which nothing but the script may be tracked
  have core : ∀ H : Hp, Only H → SqL K H a (ns.map V.int) → HOk P w H s₁.heap → (∀ b, H b ≠ none → b = a) → (H a ≠ none → K.lookup a = none) →
      codeAny (model P w) callerA (.call (.ref fa) ⟨[.ref a], []⟩) (fun r s' => r = .ok (.ret (.bool true)) ∧ OldK s₁.heap s'.heap ∧ s'.os = s₁.os ∧ AllBare s'.gens) s₁ := by
    intro H hO hS hok hA hK
    have base_of : ∀ {b : Addr} {o : Obj}, s₁.heap.get? b = some o → H b = none → (hidT s₁.heap H).get? b = some o := fun e n => hidT_get e n
    have noA : ∀ {b : Addr} {o : Obj} {es : Array DictEntry} {ep : Nat}, s₁.heap.get? b = some o → o.data = .dict es ep → H b = none := fun {b o es ep} e d => by
      cases q : H b with
      | none => rfl
      | some u =>
        have e' : b = a := hA b (by rw [q]; simp)
        subst e'
        rw [ha] at e; cases e
        have d' : Data.seq vs.toArray _ = Data.dict es ep := d
        cases d'
    have nsK : ∀ {b : Addr} {m : Str → Option Value}, s₁.heap.Ns b m → (hidT s₁.heap H).Ns b m := fun {b m} ⟨o, es, ep, e, d, r⟩ => ⟨o, es, ep, base_of e (noA e d), d, r⟩
    have hKb : K.In (hidT s₁.heap H) := fun b o e => base_of (KX b o e) (by
      cases q : H b with
      | none => rfl
      | some u =>
        have e' : b = a := hA b (by rw [q]; simp)
        subst e'
        rw [hK (by rw [q]; simp)] at e; cases e)
    have hM : Mod K mg (hidT s₁.heap H) := ⟨hKb, nsK hns, ⟨mb, nsK hb, hbb⟩, let ⟨mc, h1, h2⟩ := hlim; ⟨mc, nsK h1, h2⟩⟩
    have e0 : Env0 P w K mg (hidT s₁.heap H) callerA [] s₁ H := ⟨rfl, hM, fun b o e => of_hidT e, Nat.le_of_eq (hidT_size _ _), trivial, fun b hb => absurd (show b ∈ ([] : List Addr) from hb) (by simp), hok, .of_eq hg⟩
    refine codeAny_mono ((F _ hKb (nsK hns)).run callerA [] s₁ H ⟨[.ref a], []⟩ [.ref a] [.ref a] _ _ hr e0 (hbind s₁ (.ref a)) (.cons rfl .nil) (hsp H hO hS)) fun r s' h => ?_
    cases r with
    | error e => exact (hCX H e s' h).elim
    | ok fl =>
      cases fl with
      | next => exact False.elim h
      | brk => exact False.elim h
      | cont => exact False.elim h
      | ret u =>
        obtain ⟨v, H', os, bare, un, hok', r', q⟩ := h
        have q' : v = .bl true := q
        subst q'
        obtain rfl : u = Value.bool true := r'
        refine ⟨rfl, OldK.of_keep fun b o e => ?_, os, bare⟩
        cases q : H b with
        | none => exact un.keep b o e q (by intro z; exact absurd (show b ∈ ([] : List Addr) from z) (by simp)) (by simp)
        | some u =>
          rcases hO b with z | ⟨ob, xs, z⟩
          · rw [q] at z; cases z
          · have z2 := un.frzs b ob _ z
            obtain ⟨e1, _⟩ := hok b _ z
            obtain ⟨e2, _⟩ := hok' b _ z2
            rw [e] at e1; cases e1
            exact e2
  cases hk : K.lookup a with
  | some o =>
    -- the script is one of the module's own objects
    have e := KX a o hk
    rw [ha] at e
    cases e
    refine core (fun _ => none) (fun _ => .inl rfl) (.inr ⟨_, vs.toArray, _, hk, rfl, rfl, rfl, by rw [List.size_toArray, lenV]; exact hl, by simpa using rv⟩) (fun b u z => by have z' : (none : Option HO) = some u := z; cases z') (fun b z => absurd rfl z) fun z => absurd rfl z
  | none =>
    refine core (fun b => if b = a then some (.frz { cls := .type "list", data := .seq vs.toArray } (.lst (ns.map V.int))) else none) (fun b => ?_) (.inl (.inr ⟨{ cls := .type "list", data := .seq vs.toArray }, if_pos rfl⟩)) (fun b u z => ?_) (fun b z => ?_) fun _ => hk
    · by_cases hb : b = a
      · exact .inr ⟨_, _, if_pos hb⟩
      · exact .inl (if_neg hb)
    · by_cases hb : b = a
      · have z' := (if_pos hb).symm.trans z
        cases z'
        subst hb
        exact ⟨ha, by rw [List.length_map]; exact hl, vs, _, rv, ha⟩
      · have z' := (if_neg hb).symm.trans z
        cases z'
    · by_cases hb : b = a
      · exact hb
      · exact absurd (if_neg hb) z
end L2
namespace L2
open PySem PySem.Spec PyProof.Rows
theorem walk_of {l : PySem.W.OpenLaw} {n k : Nat} {q : Program} {loose : List Str} {XP : (Str → Option Value) → Heap → Prop} {YP : World → Heap → Prop} {d : DefRec} {K : Params → PySem.W.Frag} {CX : World → CXT} {sp : World → Sp} {x : Str}
    (hn : l.most = some n) (hn2 : n ≤ sizeLine) (hdf : d.params.defaults = []) (hr : Room k callerA)
    (hY : ∀ (w : World) (h : Heap), YP w h → (K w.params).In h)
    (F : ∀ (w : World) (mg : Str → Option Value) (fa : Addr) (h : Heap), (K w.params).In h → h.Ns mainGlobals mg → mg d.name = some (.ref fa) →
      ∃ fd : FuncData, (∀ (s : Shared) (u : Value), BindsTo s fd ⟨[u], []⟩ [(x, u)]) ∧
        ∀ base : Heap, (K w.params).In base → base.Ns mainGlobals mg → FnOk l.prog w (K w.params) mg base (CX w) k fa fd [x] (sp w))
    (hsp : ∀ (w : World) (H : Hp) (a : Addr) (ns : List Int), ns.length ≤ n → Only H → SqL (K w.params) H a (ns.map V.int) → sp w [.ref a] H (fun v _ => v = .bl true) fun _ _ _ => False)
    (hCX : ∀ (w : World) (H : Hp) (s : Shared) (e : Value) (s' : Shared), CX w [] H s (fun _ _ _ => False) e s' → False) :
    PySem.W.WalkO q loose XP YP l.row.toRowW d [] (fun f vs => PySem.call f vs) := by
  refine Att.attach_call hn hdf fun w s₀ s₁ mg mb fa o pm cd doc a vs ns G Y ho hd hcd hmg hobj hints hlen hg => ?_
  have KX := hY w _ Y
  obtain ⟨fd, hb, hF⟩ := F w mg fa _ KX G.T.g hmg
  exact law_call KX G.T.g G.T.b G.T.builtins G.T.nolimit hg hobj hints (Nat.le_trans hlen hn2) hr hF hb (fun H hO hS => hsp w H a ns hlen hO hS) fun H e s' => hCX w H s₁ e s'
end L2
namespace L2
open PySem PySem.Spec PyProof.Rows
def defArgs (s : Stmt) : Arguments := match s with
  | .FunctionDef _ a _ _ _ _ _ _ _ _ => a
  | _ => { posonlyargs := [], args := [], vararg := none, kwonlyargs := [], kw_defaults := [], kwarg := none, defaults := [] }
def defBody (s : Stmt) : List Stmt := match s with
  | .FunctionDef _ _ b _ _ _ _ _ _ _ => b
  | _ => []
def defScope (s : Stmt) : Scope := match s with
  | .FunctionDef _ _ _ _ _ _ sc _ _ _ => sc
  | _ => { kind := .function, names := [], isGenerator := false, isCoroutine := false }
abbrev CX0 : CXT := fun _ _ _ _ _ _ => False
abbrev E0 : XK := fun _ _ _ => False
theorem pass0 {X : Cx} : Passes CX0 X E0 := fun _ _ _ _ _ _ _ h => h.elim
structure Fun (K : PySem.W.Frag) (x qual : Str) (st : Stmt) (f : Addr) (fd : FuncData) : Prop where
  ex : ∃ (oc : Value) (od : Option Addr) (kV doc pm : Value) (an : Option Addr) (cdv ct : Value) (osl : Array (Option Value)),
    fd = PySem.W.fnOf x qual (defArgs st) (defBody st) (defScope st) .none kV doc pm an cdv ct ∧ K.lookup f = some ⟨oc, od, .func fd, osl⟩ ∧ PySem.W.codeIn K cdv qual = true
  kp : PySem.W.keepIn K (.ref f) = true
section
variable {P : Program} {w : World} {K : PySem.W.Frag} {mg : Str → Option Value} {base : Heap}
theorem Fun.ok {x qual : Str} {st : Stmt} {f : Addr} {fd : FuncData} {N ps : List Str} {k : Nat} {sp : Sp} (F : Fun K x qual st f fd) (S : FnScope N ps (defScope st)) (len : ∀ vs H Q E, sp vs H Q E → vs.length = ps.length)
    (hbody : ∀ (cdv : Value) (A : Around) (outer : List Env) (s : Shared) (H : Hp) (vs : List V) (Q : VK) (E : XK), Room k (A.deeper (envOfC qual (defScope st) s.heap.objs.size f cdv)) → sp vs H Q E →
      ∃ t, PSs (cxOf CX0 P w K mg base N qual (defScope st) f cdv A outer s H E).nox (defBody st) t ∧ t { nx := fun _ H' => Q .non H', rt := Q } (start N vs) H) : FnOk P w K mg base CX0 (k + 1) f fd ps sp := by
  obtain ⟨oc, od, kV, doc, pm, an, cdv, ct, osl, rfl, lk, hcd⟩ := F.ex
  refine fn_of lk hcd S len fun A outer s H vs Q E hr hsp => ?_
  obtain ⟨t, h, q⟩ := hbody cdv A outer s H vs Q E hr hsp
  exact ⟨t, h.nox, q⟩
theorem Fun.binds {x qual : Str} {st : Stmt} {f : Addr} {fd : FuncData} {ps : List Str} (F : Fun K x qual st f fd)
    (h : ∀ (kV doc pm : Value) (an : Option Addr) (cdv ct : Value) (us : List Value), us.length = ps.length → bindArgs (PySem.W.fnOf x qual (defArgs st) (defBody st) (defScope st) .none kV doc pm an cdv ct) ⟨us, []⟩ = pure (ps.zip us)) : Binds K fd ps [] := by
  obtain ⟨oc, od, kV, doc, pm, an, cdv, ct, osl, rfl, lk, hcd⟩ := F.ex
  exact .all (h kV doc pm an cdv ct)
theorem fun_mk {x qual : Str} {st : Stmt} {f : Addr} {oc : Value} {od an : Option Addr} {osl : Array (Option Value)} {kV doc pm cdv ct : Value} (l : K.lookup f = some ⟨oc, od, .func (PySem.W.fnOf x qual (defArgs st) (defBody st) (defScope st) .none kV doc pm an cdv ct), osl⟩)
    (c : PySem.W.codeIn K cdv qual = true) (k : PySem.W.keepIn K (.ref f) = true) : Fun K x qual st f (PySem.W.fnOf x qual (defArgs st) (defBody st) (defScope st) .none kV doc pm an cdv ct) := ⟨⟨oc, od, kV, doc, pm, an, cdv, ct, osl, rfl, l, c⟩, k⟩
end
section
variable {X : Cx}
theorem pv (i : Nat) {x : Str} {pos : Pos} (hN : X.N[i]? = some x := by rfl) (hv : Vis X.env.scope x := by first | exact Or.inl rfl | exact Or.inr (Or.inl rfl) | exact Or.inr (Or.inr rfl)) (hd : (x == ("__debug__" : Str)) = false := by decide)
    (hcd : (x == ("__classdict__" : Str)) = false := by decide) : PE X (.Name x pos) (tVar i) := pe_var hN hv hd hcd
end
theorem iteF {A B : Prop} (h : B) : if false = true then A else B := by
  rw [if_neg Bool.false_ne_true]
  exact h
theorem iteT {A B : Prop} (h : A) : if true = true then A else B := by
  rw [if_pos rfl]
  exact h
theorem ite2 {c A B : Prop} [Decidable c] (h1 : c → A) (h2 : ¬ c → B) : if c then A else B := by
  by_cases h : c
  · rw [if_pos h]
    exact h1 h
  · rw [if_neg h]
    exact h2 h
def Same (H H' : Hp) : Prop := ∀ b o, H b = some o → H' b = some o
theorem Same.refl (H : Hp) : Same H H := fun _ _ h => h
theorem Same.trans {H H1 H2 : Hp} (a : Same H H1) (b : Same H1 H2) : Same H H2 := fun c o h => b c o (a c o h)
theorem Same.free {H H' : Hp} (e : Same H H') {l : Addr} (h : H' l = Option.none) : H l = Option.none := by
  cases q : H l with
  | none => rfl
  | some o =>
    rw [e l o q] at h
    cases h
theorem Same.seq {K : PySem.W.Frag} {H H' : Hp} {a : Addr} {xs : List V} (e : Same H H') (h : SqL K H a xs) : SqL K H' a xs := by
  rcases h with (h | ⟨o, h⟩) | h
  · exact .inl (.inl (e _ _ h))
  · exact .inl (.inr ⟨o, e _ _ h⟩)
  · exact .inr h
end L2
namespace L2
open PySem PySem.Spec PyProof.Rows
section
variable {κ : Type} [DecidableEq κ]
def valV (kvs : List (κ × V)) (k : κ) : Option V := (kvs.find? fun kv => decide (kv.1 = k)).map (·.2)
def putK (kvs : List (κ × V)) (k : κ) (v : V) : List (κ × V) :=
  if (kvs.any fun kv => decide (kv.1 = k)) = true then kvs.map (fun kv => if kv.1 = k then (kv.1, v) else kv) else kvs ++ [(k, v)]
def dropK (kvs : List (κ × V)) (k : κ) : List (κ × V) := kvs.filter fun kv => decide (kv.1 ≠ k)
theorem valV_pos {p : κ × V} {r : List (κ × V)} {k : κ} (e : p.1 = k) : valV (p :: r) k = some p.2 := by simp [valV, List.find?_cons, e]
theorem valV_neg {p : κ × V} {r : List (κ × V)} {k : κ} (e : ¬ p.1 = k) : valV (p :: r) k = valV r k := by simp [valV, List.find?_cons, e]
theorem valV_any (k : κ) : ∀ kvs : List (κ × V), (kvs.any fun kv => decide (kv.1 = k)) = (valV kvs k).isSome
  | [] => rfl
  | p :: r => by
    rw [List.any_cons]
    by_cases e : p.1 = k
    · simp only [valV_pos e, decide_eq_true e, Bool.true_or, Option.isSome_some]
    · rw [valV_neg e, decide_eq_false e, Bool.false_or]; exact valV_any k r
theorem valV_map (k j : κ) (y : V) : ∀ kvs : List (κ × V), valV (kvs.map fun kv => if kv.1 = k then (kv.1, y) else kv) j = (valV kvs j).map fun x => if j = k then y else x
  | [] => rfl
  | p :: r => by
    have ih := valV_map k j y r
    rw [List.map_cons]
    by_cases h : p.1 = k
    · rw [if_pos h]
      by_cases e : p.1 = j
      · rw [valV_pos (p := (p.1, y)) e, valV_pos e, Option.map_some, if_pos (e.symm.trans h)]
      · rw [valV_neg (p := (p.1, y)) e, valV_neg e, ih]
    · rw [if_neg h]
      by_cases e : p.1 = j
      · rw [valV_pos (p := p) e, valV_pos e, Option.map_some, if_neg (fun z => h (e.trans z))]
      · rw [valV_neg (p := p) e, valV_neg e, ih]
theorem valV_snoc (k j : κ) (y : V) : ∀ kvs : List (κ × V), valV kvs k = none → valV (kvs ++ [(k, y)]) j = if j = k then some y else valV kvs j
  | [], _ => by
    by_cases e : k = j
    · rw [if_pos e.symm]; exact valV_pos (p := (k, y)) e
    · rw [if_neg (fun z => e z.symm)]; exact valV_neg (p := (k, y)) e
  | p :: r, hn => by
    rw [List.cons_append]
    have hk : ¬ p.1 = k := fun z => by rw [valV_pos z] at hn; cases hn
    rw [valV_neg hk] at hn
    have ih := valV_snoc k j y r hn
    by_cases e : p.1 = j
    · rw [valV_pos e, valV_pos e, if_neg (fun z => hk (e.trans z))]
    · rw [valV_neg e, valV_neg e, ih]
theorem valV_put (kvs : List (κ × V)) (k j : κ) (y : V) : valV (putK kvs k y) j = if j = k then some y else valV kvs j := by
  unfold putK
  by_cases a : (kvs.any fun kv => decide (kv.1 = k)) = true
  · rw [if_pos a, valV_map]
    rw [valV_any] at a
    by_cases e : j = k
    · obtain ⟨x, hx⟩ := Option.isSome_iff_exists.mp a
      rw [if_pos e, e, hx, Option.map_some, if_pos rfl]
    · rw [if_neg e]
      cases valV kvs j with
      | none => rfl
      | some x => rw [Option.map_some, if_neg e]
  · rw [if_neg a]
    refine valV_snoc k j y kvs ?_
    rw [valV_any] at a
    cases q : valV kvs k with
    | none => rfl
    | some x => rw [q] at a; exact (a rfl).elim
theorem length_putK (kvs : List (κ × V)) (k : κ) (v : V) : (putK kvs k v).length ≤ kvs.length + 1 := by
  unfold putK
  split
  · rw [List.length_map]; omega
  · rw [List.length_append, List.length_cons, List.length_nil]; omega
theorem RelO.isSome_eq {o : Option V} {u : Option Value} (r : RelO o u) : o.isSome = u.isSome := by
  cases o with
  | none => cases u with
    | none => rfl
    | some _ => exact (show False from r).elim
  | some _ => cases u with
    | none => exact (show False from r).elim
    | some _ => rfl
theorem RelO.getD {o : Option V} {u : Option Value} {d : V} {d' : Value} (r : RelO o u) (rd : RelV d d') : RelV (o.getD d) (u.getD d') := by
  cases o with
  | none => cases u with
    | none => exact rd
    | some _ => exact (show False from r).elim
  | some _ => cases u with
    | none => exact (show False from r).elim
    | some _ => exact r
theorem KV.val {kvs : List (κ × V)} {vs : List (κ × Value)} (r : KV kvs vs) (k : κ) : RelO (valV kvs k) (valueAt vs k) := by
  unfold KV at r
  induction r with
  | nil => exact True.intro
  | @cons p q ps qs h t ih =>
    obtain ⟨h1, h2⟩ := h
    by_cases e : p.1 = k
    · have e' : q.1 = k := h1.symm.trans e
      have b : valueAt (q :: qs) k = some q.2 := by simp [valueAt, List.find?_cons, e']
      rw [valV_pos e, b]; exact h2
    · have e' : ¬ q.1 = k := fun z => e (h1.trans z)
      have b : valueAt (q :: qs) k = valueAt qs k := by simp [valueAt, List.find?_cons, e']
      rw [valV_neg e, b]; exact ih
theorem KV.any {kvs : List (κ × V)} {vs : List (κ × Value)} (r : KV kvs vs) (k : κ) : (kvs.any fun kv => decide (kv.1 = k)) = vs.any fun kv => decide (kv.1 = k) := by
  unfold KV at r
  induction r with
  | nil => rfl
  | cons h t ih => rw [List.any_cons, List.any_cons, ih, h.1]
theorem KV.repl {kvs : List (κ × V)} {vs : List (κ × Value)} (r : KV kvs vs) (k : κ) {y : V} {u : Value} (ry : RelV y u) :
    KV (kvs.map fun kv => if kv.1 = k then (kv.1, y) else kv) (vs.map fun kv => if kv.1 = k then (kv.1, u) else kv) := by
  unfold KV at r ⊢
  induction r with
  | nil => exact .nil
  | @cons p q ps qs h t ih =>
    rw [List.map_cons, List.map_cons]
    refine .cons ?_ ih
    obtain ⟨h1, h2⟩ := h
    by_cases e : p.1 = k
    · rw [if_pos e, if_pos (h1.symm.trans e)]; exact ⟨h1, ry⟩
    · rw [if_neg e, if_neg (fun z => e (h1.trans z))]; exact ⟨h1, h2⟩
theorem KV.put {kvs : List (κ × V)} {vs : List (κ × Value)} (r : KV kvs vs) (k : κ) {y : V} {u : Value} (ry : RelV y u) : KV (putK kvs k y) (stored vs k u) := by
  unfold putK stored
  rw [r.any k]
  by_cases e : (vs.any fun kv => decide (kv.1 = k)) = true
  · rw [if_pos e, if_pos e]; exact r.repl k ry
  · rw [if_neg e, if_neg e]; exact Paired.snoc r ⟨rfl, ry⟩
theorem KV.drop {kvs : List (κ × V)} {vs : List (κ × Value)} (r : KV kvs vs) (k : κ) : KV (dropK kvs k) (without vs k) := by
  unfold KV at r ⊢
  unfold dropK without
  induction r with
  | nil => exact .nil
  | @cons p q ps qs h t ih =>
    obtain ⟨h1, h2⟩ := h
    rw [List.filter_cons, List.filter_cons]
    by_cases e : p.1 = k
    · have a : ¬ decide (p.1 ≠ k) = true := by simp [e]
      have b : ¬ decide (q.1 ≠ k) = true := by simp [h1.symm.trans e]
      rw [if_neg a, if_neg b]; exact ih
    · have e' : ¬ q.1 = k := fun z => e (h1.trans z)
      have a : decide (p.1 ≠ k) = true := by simp [e]
      have b : decide (q.1 ≠ k) = true := by simp [e']
      rw [if_pos a, if_pos b]; exact .cons ⟨h1, h2⟩ ih
theorem KV.keys {kvs : List (κ × V)} {vs : List (κ × Value)} (r : KV kvs vs) : kvs.map (·.1) = vs.map (·.1) := by
  unfold KV at r
  induction r with
  | nil => rfl
  | cons h t ih => rw [List.map_cons, List.map_cons, ih, h.1]
theorem KV.length {kvs : List (κ × V)} {vs : List (κ × Value)} (r : KV kvs vs) : kvs.length = vs.length := Paired.length r
end
theorem kV_is {P : Program} {w : World} {k : Key} {u : Value} (r : RelV (kV k) u) : (mixKind P w).is k u = true := by
  cases k with
  | inl i => obtain ⟨t, e⟩ := (show ∃ t, u = Value.int i t from r); subst e; exact mixKind_int P w i t
  | inr x => obtain ⟨t, e⟩ := (show ∃ t, u = Value.str x t from r); subst e; exact mixKind_str P w x t
theorem items_are {P : Program} {w : World} : ∀ {ks : List Key} {us : List Value}, Vals (ks.map kV) us → ItemsAre (mixKind P w) ks us
  | [], _, r => by rw [List.map_nil] at r; cases r; exact .nil
  | k :: ks, _, r => by
    rw [List.map_cons] at r
    cases r with
    | cons h t => exact .cons (kV_is h) (items_are t)
abbrev KT (H : Hp) : List (List Key × V) → List (List Key × Addr × Value) → Prop := Paired fun p q => p.1 = q.1 ∧ H q.2.1 = some (.tup (p.1.map kV)) ∧ RelV p.2 q.2.2
theorem KT.val {H : Hp} {kvs : List (List Key × V)} {xs : List (List Key × Addr × Value)} (r : KT H kvs xs) (k : List Key) : RelO (valV kvs k) ((atKey xs k).map (·.2)) := by
  induction r with
  | nil => exact True.intro
  | @cons p q ps qs h t ih =>
    obtain ⟨h1, _, h2⟩ := h
    by_cases e : p.1 = k
    · have e' : q.1 = k := h1.symm.trans e
      have b : atKey (q :: qs) k = some q.2 := by simp [atKey, List.find?_cons, e']
      rw [valV_pos e, b]; exact h2
    · have e' : ¬ q.1 = k := fun z => e (h1.trans z)
      have b : atKey (q :: qs) k = atKey qs k := by simp [atKey, List.find?_cons, e']
      rw [valV_neg e, b]; exact ih
theorem KT.repl {H : Hp} {kvs : List (List Key × V)} {xs : List (List Key × Addr × Value)} (r : KT H kvs xs) (k : List Key) {y : V} {u : Value} (ry : RelV y u) :
    KT H (kvs.map fun kv => if kv.1 = k then (kv.1, y) else kv) (xs.map (putAt k u)) := by
  induction r with
  | nil => exact .nil
  | @cons p q ps qs h t ih =>
    rw [List.map_cons, List.map_cons]
    refine .cons ?_ ih
    obtain ⟨h1, h2, h3⟩ := h
    unfold putAt
    by_cases e : p.1 = k
    · rw [if_pos e, if_pos (h1.symm.trans e)]; exact ⟨h1, h2, ry⟩
    · rw [if_neg e, if_neg (fun z => e (h1.trans z))]; exact ⟨h1, h2, h3⟩
theorem KT.put {H : Hp} {kvs : List (List Key × V)} {xs : List (List Key × Addr × Value)} (r : KT H kvs xs) (k : List Key) {b : Addr} {y : V} {u : Value} (hb : H b = some (.tup (k.map kV))) (ry : RelV y u) :
    KT H (putK kvs k y) (storedH xs k b u) := by
  have e : (kvs.any fun kv => decide (kv.1 = k)) = (atKey xs k).isSome := by
    rw [valV_any, (r.val k).isSome_eq, Option.isSome_map]
  unfold putK storedH
  rw [e]
  by_cases q : (atKey xs k).isSome = true
  · rw [if_pos q, if_pos q]; exact r.repl k ry
  · rw [if_neg q, if_neg q]; exact Paired.snoc r ⟨rfl, hb, ry⟩
theorem KT.keeps {H H' : Hp} {kvs : List (List Key × V)} {xs : List (List Key × Addr × Value)} (r : KT H kvs xs) (ht : ∀ b ys, H b = some (.tup ys) → H' b = some (.tup ys)) : KT H' kvs xs :=
  Paired.mapP r fun _ _ z => ⟨z.1, ht _ _ z.2.1, z.2.2⟩
section
variable {P : Program} {w : World} {H : Hp} {h : Heap} {a : Addr}
theorem key_of {ks : List Key} (ok : HOk P w H h) (e : H a = some (.tup (ks.map kV))) : (tupleKind (mixKind P w)).is h ks a := by
  obtain ⟨_, its, r, ⟨o, h1, h2, n, h3⟩, _⟩ := (show ObjOk P w H h a (.tup (ks.map kV)) from ok a _ e)
  exact ⟨o, its.toArray, n, h1, h2, h3, by simpa using items_are r⟩
end
def DGet (H : Hp) (a : Addr) (y : V) (r : Option V) : Prop :=
  (∃ kvs k, Rd H a (.dK kvs) ∧ y = kV k ∧ r = valV kvs k) ∨ ∃ kvs k b, Rd H a (.dT kvs) ∧ y = .ref b ∧ H b = some (.tup (k.map kV)) ∧ r = valV kvs k
def DPut (H : Hp) (a : Addr) (y v : V) (H' : Hp) : Prop :=
  (∃ kvs k, H a = some (.dK kvs) ∧ y = kV k ∧ kvs.length < sizeLine ∧ H' = upd H a (.dK (putK kvs k v))) ∨
  ∃ kvs k b, H a = some (.dT kvs) ∧ y = .ref b ∧ H b = some (.tup (k.map kV)) ∧ kvs.length < sizeLine ∧ H' = upd H a (.dT (putK kvs k v))
theorem DGet.k {H : Hp} {a : Addr} {kvs : List (Key × V)} {k : Key} (e : H a = some (.dK kvs)) : DGet H a (kV k) (valV kvs k) := .inl ⟨kvs, k, .inl e, rfl, rfl⟩
theorem DGet.t {H : Hp} {a b : Addr} {kvs : List (List Key × V)} {k : List Key} (e : H a = some (.dT kvs)) (eb : H b = some (.tup (k.map kV))) : DGet H a (.ref b) (valV kvs k) := .inr ⟨kvs, k, b, .inl e, rfl, eb, rfl⟩
theorem DPut.k {H : Hp} {a : Addr} {kvs : List (Key × V)} {k : Key} {v : V} (e : H a = some (.dK kvs)) (hl : kvs.length < sizeLine) : DPut H a (kV k) v (upd H a (.dK (putK kvs k v))) := .inl ⟨kvs, k, e, rfl, hl, rfl⟩
theorem DPut.t {H : Hp} {a b : Addr} {kvs : List (List Key × V)} {k : List Key} {v : V} (e : H a = some (.dT kvs)) (eb : H b = some (.tup (k.map kV))) (hl : kvs.length < sizeLine) :
    DPut H a (.ref b) v (upd H a (.dT (putK kvs k v))) := .inr ⟨kvs, k, b, e, rfl, eb, hl, rfl⟩
section
variable {X : Cx} {pins : List (Addr × Obj)} {σ : St} {H : Hp} {s : Shared} {a : Addr} {y v : V} {u r : Value} {o : Option V} {A : Around} {E : Value → Shared → Prop}
theorem Inv.big (I : Inv X pins σ H s) : sysModules < s.heap.objs.size := by
  have h : mainGlobals < s.heap.objs.size := (I.mod.glob.keeps I.bk).lt
  exact Nat.lt_trans (by decide) h
end
section
variable {X : Cx} {pins : List (Addr × Obj)} {σ : St} {H : Hp} {s : Shared} {a : Addr} {kvs : List (Key × V)} {k : Key} {u : Value} {A : Around} {E : Value → Shared → Prop}
end
section
variable {X : Cx} {o i e value : Expr} {pos pos' tpos : Pos} {td ty tv : TE}
end
section
variable {X : Cx} {pos : Pos}
end
section
variable {X : Cx} {pins : List (Addr × Obj)} {σ : St} {H : Hp} {s : Shared} {a : Addr} {y d : V} {u r : Value} {o : Option V} {A : Around} {E : Value → Shared → Prop}
end
section
variable {X : Cx} {o e f : Expr} {apos cpos : Pos} {td ty tx : TE}
end
section
variable {X : Cx} {pins : List (Addr × Obj)} {σ : St} {H : Hp} {s : Shared} {a : Addr} {kvs : List (Key × V)} {A : Around} {E : Value → Shared → Prop}
end
section
variable {X : Cx} {pins : List (Addr × Obj)} {σ : St} {H : Hp} {s : Shared} {a : Addr} {y : V} {u : Value} {A : Around} {E : Value → Shared → Prop}
end
end L2
set_option maxHeartbeats 4000000
namespace L2
open PySem
def signs (z : Str) : List Str := z.cps.toList.map fun c => ⟨#[c]⟩
theorem signs_length (z : Str) : (signs z).length = z.length := by simp [signs, Str.length]
end L2
namespace L2
open PySem PySem.Spec PyProof.Rows
def cxComp (X : Cx) (scope : Scope) (x : Str) (C : Addr) (s : Shared) (H : Hp) (fp : List Addr) : Cx :=
  { X with
    N := [x]
    s₀ := s
    H₀ := H
    env := { scope := scope, locals := C, globals := X.env.globals, cells := [], qual := X.env.qual, func := none, code := X.env.code, frame := X.env.frame, builtins := X.env.builtins }
    outer := X.stack
    stack := X.stack
    ex := fp
    fn := fun _ => true
    pn := []
    xe := fun _ _ => False }
def tComp (wi : TI) (te : TE) : TE := fun σ H Q => wi σ H fun J H1 => ∀ D, H1 D = none → ∃ W : Nat → Nat → List V → Hp → Prop,
  (∃ m, W 0 m [] (upd H1 D (.lst []))) ∧ ∀ i m ys H2, W i m ys H2 → H2 D = some (.lst ys) ∧
    ((J.stop i H2 ∧ Q (.ref D) H2) ∨ (J.go i H2 ∧ ∀ x H3, J.yld i H2 x H3 → te [some x] H3 fun y H4 => H4 D = some (.lst ys) ∧ ys.length < sizeLine ∧ ∃ m', m' < m ∧ W (i + 1) m' (ys ++ [y]) (upd H4 D (.lst (ys ++ [y])))))
section
variable {X : Cx}
theorem pe_comp {elt iter : Expr} {x : Str} {px pos : Pos} {scope : Scope} {wi : TI} {te : TE} (hc : X.calm = true)
    (hfree : ∀ nk ∈ scope.names, nk.2 ≠ .free) (hcell : ∀ nk ∈ scope.names, nk.2 ≠ .cell) (hkind : scope.kind = .function)
    (hnames : ∀ nk ∈ scope.names, nk.2 = .local → scope.names.lookup nk.1 = some .local) (hx : scope.names.lookup x = some .local)
    (hi : PI X (.Name x px) iter wi) (he : ∀ C s H fp, PE (cxComp X scope x C s H fp) elt te)
    (hs : ∀ v, foldedSetIterable iter X.env v = pure v := by intro _; rfl) : PE X (.ListComp elt [⟨.Name x px, iter, [], 0⟩] scope pos) (tComp wi te) := by
  intro pins s σ H Q I h
  refine wpAny_ListComp hfree hkind hnames (thn (hi pins s σ H _ I h) fun v s1 h1 => thn h1 fun itv s2 h2 => ?_) hs
  obtain ⟨it, fp, tn, J, H2, e, I2, T, st2, f2, hR⟩ := h2
  subst e
  have hD0 : H2 s2.heap.objs.size = none := I2.fresh
  obtain ⟨W, ⟨m0, w0⟩, turnW⟩ := hR _ hD0
  have I3 : Inv X pins σ (upd H2 s2.heap.objs.size (.lst [])) { s2 with heap := s2.heap.push { cls := .type "list", data := .seq ([] : List Value).toArray } } := I2.lnew (t' := s2.toks) .nil (Nat.zero_le _)
  refine wpAny_newObj_type (wpAny_newFunctionEnv hcell (fun nk hnk => by simp at hnk) (fun h₁ hns₁ hsb₁ => ?_) hkind)
  dsimp only at hns₁ hsb₁ ⊢
  generalize hs3 : ({ s2 with heap := s2.heap.push { cls := .type "list", data := .seq ([] : List Value).toArray } } : Shared) = s3 at I3
  have eh3 : s3.heap = s2.heap.push { cls := .type "list", data := .seq ([] : List Value).toArray } := by rw [← hs3]
  have hC : s3.heap.objs.size = s2.heap.objs.size + 1 := by rw [eh3, Heap.size_push]
  have old : ∀ b o, s3.heap.get? b = some o → h₁.get? b = some o := fun b o e => by
    have hb : b ≠ s3.heap.objs.size := Nat.ne_of_lt (Heap.lt_size e)
    rw [eh3] at e hb
    exact hsb₁.extBut b o hb (Heap.get?_push_of_some _ e)
  have fpl : ∀ b ∈ fp, b < s2.heap.objs.size := fun b hb => let ⟨o, e, _⟩ := T.obj _ _ st2 b hb; Heap.lt_size e
  have fps : ∀ b ∈ fp, b ∉ frs X.stack := fun b hb z => (List.mem_cons.mp (I2.stkSub b z)).elim (f2 b hb).2.1 (f2 b hb).2.2.1
  let X' : Cx := cxComp X scope x s3.heap.objs.size s3 (upd H2 s2.heap.objs.size (.lst [])) fp
  have noc : ∀ (y : Str) (c : Addr), ¬ (([] : List (Str × Addr)).lookup y = some c) := fun y c e => by cases e
  have okX : X'.Ok := by
    refine ⟨I2.ok.mod, hkind, I2.ok.glob, I2.ok.blt, Nat.le_refl _, fun y z c e => absurd e (noc y c), fun y hy => ?_, fun y c _ e => absurd e (noc y c), I2.ok.hd, I2.ok.frames, .inl rfl, fun b hb => ⟨?_, fun y c e => absurd e (noc y c)⟩,
      I3.bs, Nat.le_trans I3.ok.bsz I3.sz, fun b o e hb => ?_, fps, I3.stack, I3.stkFree⟩
    · have hy' : scope.names.lookup y = some .cell ∨ scope.names.lookup y = some .free := hy
      rcases hy' with q | q
      · exact absurd rfl (hcell _ (PySem.mem_of_lookup q))
      · exact absurd rfl (hfree _ (PySem.mem_of_lookup q))
    · exact Nat.ne_of_lt (Nat.lt_of_lt_of_le (fpl b hb) (by show s2.heap.objs.size ≤ s3.heap.objs.size; rw [hC]; exact Nat.le_succ _))
    · rcases (f2 b hb).2.2.2.1 with z | z
      · exact I2.ok.noex b o e z
      · exact absurd (Nat.lt_of_lt_of_le (Heap.lt_size (I2.ok.bs b o e).1) z) (Nat.lt_irrefl _)
  have stat : ∀ {H' : Hp}, (∀ b ∈ fp, H' b = none) → ∀ b ∈ fp, FpOk X' [] H' b := fun hn b hb => by
    refine ⟨hn b hb, ?_, fps b hb, .inl hb, fun y c e => absurd e (noc y c), fun p hp => absurd (show p ∈ ([] : List (Addr × Obj)) from hp) (by simp)⟩
    exact Nat.ne_of_lt (Nat.lt_of_lt_of_le (fpl b hb) (by show s2.heap.objs.size ≤ s3.heap.objs.size; rw [hC]; exact Nat.le_succ _))
  have I4 : ∀ tk : Nat, Inv X' [] [none] (upd H2 s2.heap.objs.size (.lst [])) { s3 with heap := h₁, toks := tk } := fun tk => by
    refine ⟨okX, rfl, I3.bare, Un.kept old, ⟨_, by rw [← eh3] at hns₁; exact hns₁, fun i y v _ e2 _ => ?_⟩, fun y c e => absurd e (noc y c), I3.hok.fresh (Nat.le_refl _), fun y c e => absurd e (noc y c), fun p hp => absurd (show p ∈ ([] : List (Addr × Obj)) from hp) (by simp), I3.hok.kept old, rfl⟩
    cases i with
    | zero => simp at e2
    | succ i => simp at e2
  have fr0 : ∀ b ∈ fp, (upd H2 s2.heap.objs.size (.lst []) : Hp) b = none := fun b hb => by rw [upd_ne (Nat.ne_of_lt (fpl b hb))]; exact (f2 b hb).1
  have st4 : tn 0 h₁ := T.keep 0 _ _ st2 fun b hb o e => old b o (by rw [eh3]; exact Heap.get?_push_of_some _ e)
  have fin : ∀ {v0 : Option V} {H' : Hp} {s5 : Shared} {h' : Heap}, Inv X' [] [v0] H' s5 → Heap.SameBut s3.heap.objs.size s5.heap h' → Q (.ref s2.heap.objs.size) H' → EP X pins σ Q (.ref s2.heap.objs.size) { s5 with heap := h' } := by
    intro v0 H' s5 h' I5 sb q
    obtain ⟨hh, g, d, t, os'⟩ := s5
    have eo : os' = s3.os := I5.os
    subst eo
    have keepC : ∀ b o, b ≠ s3.heap.objs.size → hh.get? b = some o → h'.get? b = some o := fun b o hb e => sb.extBut b o hb e
    have ne3 : ∀ b o, s3.heap.get? b = some o → b ≠ s3.heap.objs.size := fun b o e => Nat.ne_of_lt (Heap.lt_size e)
    have u : Un (frs X.stack) fp (upd H2 s2.heap.objs.size (.lst [])) H' s3.heap hh := I5.base
    have un : Un (frs X.stack) fp (upd H2 s2.heap.objs.size (.lst [])) H' s3.heap h' :=
      ⟨fun b o e n hb hx => keepC b o (ne3 b o e) (u.keep b o e n hb hx), fun b o e n hb hx => let ⟨sl, q⟩ := u.slot b o e n hb hx; ⟨sl, keepC b _ (ne3 b o e) q⟩, u.free, fun b o e hx => let ⟨o', q⟩ := u.there b o e hx; ⟨o', keepC b o' (ne3 b o e) q⟩, u.tups, u.frzs, u.tbls⟩
    have hfree' : H' s3.heap.objs.size = none := I5.free
    have hok' : HOk X.prog X.w H' h' := fun b u e => by
      refine (I5.hok b u e).stay (fun c v hc q => keepC c v ?_ q) (fun _ q => q) fun _ _ q => q
      rcases hc with z | z
      · rw [z]; intro z2; rw [z2, hfree'] at e; cases e
      · intro z2; rw [z2, hfree'] at z; cases z
    have J := I3.call (h' := h') (g' := g) (d' := d) (t' := t) (ch := fp) un hok' I5.bare (fun b hb => let ⟨_, h1, _, h2, h3, h4⟩ := f2 b hb; ⟨h2, h1, h3, h4⟩)
    exact ⟨.ref s2.heap.objs.size, H', J, rfl, q⟩
  have loop : ∀ s4 : Shared, s4.heap = h₁ → (∃ tk, s4 = { s3 with heap := h₁, toks := tk }) →
      codeAny (model X.prog X.w) X.A (.compLoop (.ListComp elt [⟨.Name x px, iter, [], 0⟩] scope pos) 0 (.ref it) (.ref s2.heap.objs.size) X'.env)
        (fun r s' => ∃ m, s'.heap.Ns s3.heap.objs.size m ∧ ∀ h', Heap.SameBut s3.heap.objs.size s'.heap h' →
          match r with | .ok _ => EP X pins σ Q (.ref s2.heap.objs.size) { s' with heap := h' } | .error x => wpAny (model X.prog X.w) X.A (passOn "comprehension.variables-let-go" x X'.env) (EP X pins σ Q) X.xe { s' with heap := h' }) s4 := by
    rintro s4 e4 ⟨tk, rfl⟩
    refine codeAny_compLoop_list (fun n s' => ∃ i ys v0 H', Inv X' [] [v0] H' s' ∧ tn i s'.heap ∧ (∀ b ∈ fp, H' b = none) ∧ W i n ys H') ?_ m0 ⟨0, [], none, _, I4 tk, st4, fr0, w0⟩
    rintro n s5 ⟨i, ys, v0, H5, I5, st5, fr5, w5⟩
    obtain ⟨hD5, ⟨js, q⟩ | ⟨jg, step⟩⟩ := turnW i n ys H5 w5
    · refine wpAny_mono (T.done X' rfl rfl rfl hc i [] s5 _ H5 (fun _ _ => False) I5 (stat fr5) st5 js) (fun r s6 hr => ?_) fun _ _ z => z.elim
      obtain ⟨rfl, I6⟩ := hr
      obtain ⟨m, hn, _⟩ := I6.loc
      exact ⟨m, hn, fun h' sb => fin I6 sb q⟩
    · refine wpAny_mono (T.item X' rfl rfl rfl hc i [] s5 _ H5 (fun _ _ => False) I5 (stat fr5) st5 jg) (fun r s6 hr => ?_) fun _ _ z => z.elim
      obtain ⟨u, rfl, h6⟩ := hr
      show wpAny _ _ (letOwnedTupleGo (.Name x px) (.ref it) u >>= fun _ => assign (.Name x px) X'.env u) _ _ s6
      refine wpAny_bind (wpAny_mono h6 (fun _ s7 h7 => ?_) fun _ _ z => z.elim)
      obtain ⟨xv, H7, I7, r7, y7, st7, fr7⟩ := h7
      have I7' := I7.pinned (stat fr7) (T.obj _ _ st7)
      have nd : X'.N.Nodup := by show ([x] : List Str).Nodup; simp
      refine wpAny_mono (pg_name (X := X') (pos := px) (i := 0) (x := x) nd rfl (.inl hx) (.inl rfl) _ s7 [v0] H7 xv u (fun σ' H' => σ' = [some xv] ∧ H' = H7) I7' r7 ⟨rfl, rfl⟩) (fun _ s8 h8 => ?_) fun _ _ z => z.elim
      obtain ⟨σ8, H8, I8, rfl, rfl⟩ := h8
      refine wpAny_mono (he s3.heap.objs.size s3 (upd H2 s2.heap.objs.size (.lst [])) fp _ s8 [some xv] H8 _ I8 (step xv H8 y7)) (fun y s9 h9 => ?_) fun _ _ z => z.elim
      obtain ⟨yv, H9, I9, r9, hD9, hl9, m', lt, w9⟩ := h9
      refine wpAny_mono (mt_append (X := X') _ s9 [some xv] H9 (.ref s2.heap.objs.size) [yv] (.ref s2.heap.objs.size) [y] (fun _ H' => H' = upd H9 s2.heap.objs.size (.lst (ys ++ [yv]))) I9 rfl (.cons r9 .nil) ⟨_, ys, yv, rfl, rfl, hD9, hl9, rfl⟩) (fun _ s10 h10 => ?_) fun _ _ z => z.elim
      obtain ⟨_, H10, I10, _, rfl⟩ := h10
      refine ⟨m', lt, i + 1, ys ++ [yv], some xv, _, I10.unpinned, T.keep _ _ _ st7 fun b hb o e => (I10.pin (b, o) (List.mem_append_right _ (List.mem_append_right _ (mem_pinsAt hb e)))).1, fun b hb => ?_, w9⟩
      obtain ⟨o, e, d⟩ := T.obj _ _ st7 b hb
      exact (I10.pin (b, o) (List.mem_append_right _ (List.mem_append_right _ (mem_pinsAt hb e)))).2.1
  have L := loop { s3 with heap := h₁, toks := s2.toks + ([] : List (Str × Value)).length } rfl ⟨_, rfl⟩
  subst hs3
  exact codeAny_compStart_list L (T.self _ 0 _ _ _ st4 L)
end
def Its (z : Str) : It := ⟨fun i _ => i < z.length, fun i H x H' => H' = H ∧ ∃ c, z.cps[i]? = some c ∧ x = .str ⟨#[c]⟩, fun i _ => i = z.length⟩
theorem turn_str {P : Program} {w : World} {K : PySem.W.Frag} {tg : Expr} (it : Addr) (z : Str) (t : Tok) (ty : String)
    (W : ∀ A : Around, A.handled = none → Walks P w A it [it] [it] z.cps.size (SignAt z) (fun i h => h.IsStrIter it ty z t i))
    (hn : ["enumerate", "zip", "dict_itemiterator", "dict_reverseitemiterator", "odict_iterator", "itertools.zip_longest", "itertools.pairwise"].contains ty = false)
    (hself : ∀ (A : Around) (i : Nat) (s : Shared) (Q : Value → Shared → Prop) (E : Value → Shared → Prop), s.heap.IsStrIter it ty z t i → Q (.ref it) s → wpAny (model P w) A (pyIter (.ref it)) Q E s) :
    Turn P w K tg (Its z) [it] it (fun i h => h.IsStrIter it ty z t i) where
  mem := by simp
  obj := fun i h st b hb => by
    have e : b = it := by simpa using hb
    subst e
    obtain ⟨o, e, c, d⟩ := st
    exact ⟨o, e, fun v z => by rw [d] at z; cases z⟩
  keep := fun i h h' st k => by
    obtain ⟨o, e, r⟩ := st
    exact ⟨o, k it (by simp) o e, r⟩
  item := by
    intro X hP hw hK hc i pins s σ H E I hf st hg
    subst hP hw hK
    obtain ⟨f0, f1, f2, f3, f4, f5⟩ := hf it (by simp)
    refine (W X.A (I.ok.hd hc)).item i s _ _ hg st fun v h' tk hv st' kk => ?_
    obtain ⟨c, u, hcx, rfl⟩ := hv
    have I1 : Inv X pins σ H { s with heap := h', toks := tk } := I.turned (fun b o hb e => kk b o (by simpa using hb) e) f0 f1 f3 f4 f5
    obtain ⟨o, e, cl, d⟩ := id st'
    exact ⟨_, rfl, go_of (s := { s with heap := h', toks := tk }) e cl d hn ⟨.str ⟨#[c]⟩, H, I1, ⟨u, rfl⟩, ⟨rfl, c, hcx, rfl⟩, st', fun b hb => (hf b hb).1⟩⟩
  done := by
    intro X hP hw hK hc i pins s σ H E I hf st hg
    subst hP hw hK
    obtain ⟨f0, f1, f2, f3, f4, f5⟩ := hf it (by simp)
    have hi : i = z.length := hg
    subst hi
    exact (W X.A (I.ok.hd hc)).done s _ _ st fun h' tk kk => ⟨rfl, I.turned (fun b o hb e => kk b o (by simpa using hb) e) f0 f1 f3 f4 f5⟩
  self := fun A i s Q E st h => hself A i s Q E st h
section
variable {X : Cx} {tg : Expr}
def iStr (tl : TE) : TI := fun σ H R => tl σ H fun x H1 => ∃ z, x = .str z ∧ R (Its z) H1
theorem pi_str {l : Expr} {tl : TE} (hl : PE X l tl) : PI X tg l (iStr tl) := by
  intro pins s σ H R I h
  refine thn (hl pins s σ H _ I h) fun v s1 ⟨x, H1, I1, r1, q1⟩ => ?_
  obtain ⟨z, e, q⟩ := q1
  subst e
  obtain ⟨t, rfl⟩ := r1
  have fp0 : ∀ b ∈ [s1.heap.objs.size], FpOk X pins H1 b := fun b hb => by
    have e : b = s1.heap.objs.size := by simpa using hb
    subst e
    exact I1.fpOk (Nat.le_refl _) (I1.hok.fresh (Nat.le_refl _))
  cases ha : z.cps.all (· < 128)
  · refine wpAny_pyIter_wide ha ?_
    exact ⟨s1.heap.objs.size, [s1.heap.objs.size], _, _, H1, rfl, I1.kept (t' := s1.toks) fun b o e => Heap.get?_push_of_some _ e, turn_str _ z t "str_iterator" (fun A hA => Walks.strWide hA _ z t) (by decide) (fun A i s Q E st h => wpAny_pyIter_striter_wide st h), ⟨_, Heap.get?_push_size _ rfl, rfl, rfl⟩, fp0, q⟩
  · refine wpAny_pyIter_ascii ha ?_
    exact ⟨s1.heap.objs.size, [s1.heap.objs.size], _, _, H1, rfl, I1.kept (t' := s1.toks) fun b o e => Heap.get?_push_of_some _ e, turn_str _ z t "str_ascii_iterator" (fun A hA => Walks.strAscii hA _ z t) (by decide) (fun A i s Q E st h => wpAny_pyIter_striter_ascii st h), ⟨_, Heap.get?_push_size _ rfl, rfl, rfl⟩, fp0, q⟩
end
theorem Same.new {H : Hp} {p : Addr} (h : H p = none) (o : HO) : Same H (upd H p o) := fun b u q => by rw [upd_ne (ne_of_none q h)]; exact q
theorem Same.put {H H' : Hp} {p : Addr} {o o' : HO} (e : Same (upd H p o) H') (h : H p = none) : Same H (upd H' p o') := fun b u q => by
  have hb : b ≠ p := ne_of_none q h
  rw [upd_ne hb]
  exact e b u (by rw [upd_ne hb]; exact q)
theorem comp_list {K : PySem.W.Frag} {a : Addr} {xs : List V} {te : TE} {H1 : Hp} {QD : Hp → Prop} {f : V → V} (D : Addr) (hD : H1 D = none) (hq : SqL K H1 a xs) (hz : xs.length < sizeLine)
    (he : ∀ x H R, x ∈ xs → (∀ H', Same H H' → R (f x) H') → te [some x] H R)
    (hd : ∀ H', Same H1 H' → H' D = some (.lst (xs.map f)) → QD H') :
    ∃ W : Nat → Nat → List V → Hp → Prop, (∃ m, W 0 m [] (upd H1 D (.lst []))) ∧ ∀ i m ys H2, W i m ys H2 → H2 D = some (.lst ys) ∧
      (((Itl K a).stop i H2 ∧ QD H2) ∨ ((Itl K a).go i H2 ∧ ∀ x H3, (Itl K a).yld i H2 x H3 → te [some x] H3 fun y H4 => H4 D = some (.lst ys) ∧ ys.length < sizeLine ∧ ∃ m', m' < m ∧ W (i + 1) m' (ys ++ [y]) (upd H4 D (.lst (ys ++ [y]))))) := by
  refine ⟨fun i m ys H2 => m = xs.length - i ∧ i ≤ xs.length ∧ ys = (xs.take i).map f ∧ H2 D = some (.lst ys) ∧ Same H1 H2, ⟨xs.length, by simp, Nat.zero_le _, by simp, upd_same, Same.new hD _⟩, ?_⟩
  rintro i m ys H2 ⟨rfl, hi, rfl, hD2, sm⟩
  refine ⟨hD2, ?_⟩
  have q2 := sm.seq hq
  by_cases hlt : i < xs.length
  · refine .inr ⟨⟨xs, xs[i], q2, by simp [hlt]⟩, fun x H3 y => ?_⟩
    obtain ⟨rfl, y⟩ := y
    have hx := y xs q2
    refine he x H3 _ (List.mem_of_getElem? hx) fun H' sm' => ?_
    have hl : ((xs.take i).map f).length = i := by rw [List.length_map, List.length_take]; omega
    refine ⟨sm' _ _ hD2, by rw [hl]; omega, xs.length - (i + 1), by omega, rfl, hlt, ?_, upd_same, ?_⟩
    · rw [← List.map_singleton, ← List.map_append]
      congr 1
      rw [List.take_succ, hx]
      rfl
    · intro b o e
      have hb : b ≠ D := ne_of_none e hD
      rw [upd_ne hb]
      exact sm' _ _ (sm _ _ e)
  · have e : i = xs.length := by omega
    subst e
    rw [List.take_length] at hD2
    exact .inl ⟨⟨xs, q2, Nat.le_refl _⟩, hd H2 sm hD2⟩
theorem comp_str {z : Str} {te : TE} {H1 : Hp} {QD : Hp → Prop} {f : Str → V} (D : Addr) (hD : H1 D = none) (hz : z.length < sizeLine)
    (he : ∀ x H R, x ∈ signs z → (∀ H', Same H H' → R (f x) H') → te [some (.str x)] H R)
    (hd : ∀ H', Same H1 H' → H' D = some (.lst ((signs z).map f)) → QD H') :
    ∃ W : Nat → Nat → List V → Hp → Prop, (∃ m, W 0 m [] (upd H1 D (.lst []))) ∧ ∀ i m ys H2, W i m ys H2 → H2 D = some (.lst ys) ∧
      (((Its z).stop i H2 ∧ QD H2) ∨ ((Its z).go i H2 ∧ ∀ x H3, (Its z).yld i H2 x H3 → te [some x] H3 fun y H4 => H4 D = some (.lst ys) ∧ ys.length < sizeLine ∧ ∃ m', m' < m ∧ W (i + 1) m' (ys ++ [y]) (upd H4 D (.lst (ys ++ [y]))))) := by
  have hL := signs_length z
  refine ⟨fun i m ys H2 => m = z.length - i ∧ i ≤ z.length ∧ ys = ((signs z).take i).map f ∧ H2 D = some (.lst ys) ∧ Same H1 H2, ⟨z.length, by simp, Nat.zero_le _, by simp, upd_same, Same.new hD _⟩, ?_⟩
  rintro i m ys H2 ⟨rfl, hi, rfl, hD2, sm⟩
  refine ⟨hD2, ?_⟩
  by_cases hlt : i < z.length
  · refine .inr ⟨hlt, fun x H3 y => ?_⟩
    obtain ⟨rfl, c, hc, rfl⟩ := y
    have hx : (signs z)[i]? = some ⟨#[c]⟩ := by
      unfold signs
      rw [List.getElem?_map]
      have : z.cps.toList[i]? = some c := by rw [Array.getElem?_toList]; exact hc
      rw [this]; rfl
    refine he ⟨#[c]⟩ H3 _ (List.mem_of_getElem? hx) fun H' sm' => ?_
    have hl : (((signs z).take i).map f).length = i := by rw [List.length_map, List.length_take]; omega
    refine ⟨sm' _ _ hD2, by rw [hl]; omega, z.length - (i + 1), by omega, rfl, hlt, ?_, upd_same, ?_⟩
    · rw [← List.map_singleton, ← List.map_append]
      congr 1
      rw [List.take_succ, hx]
      rfl
    · intro b o e
      have hb : b ≠ D := ne_of_none e hD
      rw [upd_ne hb]
      exact sm' _ _ (sm _ _ e)
  · have e : i = z.length := by omega
    subst e
    rw [← hL, List.take_length] at hD2
    exact .inl ⟨rfl, hd H2 sm hD2⟩
theorem vals_strs : ∀ l : List (Str × Tok), Vals (l.map fun p => V.str p.1) (strValues l)
  | [] => .nil
  | p :: r => .cons ⟨p.2, rfl⟩ (vals_strs r)
theorem vals_strs' {l : List (Str × Tok)} {ts : List Str} (h : l.map (·.1) = ts) : Vals (ts.map V.str) (strValues l) := by
  subst h
  rw [List.map_map]
  exact vals_strs l
section
variable {X : Cx}
theorem Inv.strs {pins : List (Addr × Obj)} {σ : St} {H : Hp} {s : Shared} (I : Inv X pins σ H s) {l : List (Str × Tok)} {ts : List Str} (h : l.map (·.1) = ts) (hz : ts.length ≤ sizeLine) (k : Nat) :
    Inv X pins σ (upd H s.heap.objs.size (.lst (ts.map V.str))) { s with heap := s.heap.push { cls := .type "list", data := .seq (strValues l).toArray }, toks := k } :=
  I.lnew (vals_strs' h) (by rw [List.length_map]; exact hz)
theorem split_len (z y : Str) : (Txt.split z y).length ≤ z.length + 2 := by
  have e1 := StrLaws.occ_length_le z y 0 z.length (z.length + 1)
  unfold Txt.split
  split
  · simp
  · split
    · simp
    · rw [length_partsBetween]; omega
def rSplit1 : V → List V → Hp → VK → Prop := fun x vs H Q => ∃ z y, x = .str z ∧ vs = [.str y] ∧ (y.length == 0) = false ∧ z.length ≤ 1000 ∧ ∀ D, H D = none → Q (.ref D) (upd H D (.lst ((Txt.split z y).map V.str)))
theorem mt_split1 : MtM X "str.split" rSplit1 := by
  intro pins s σ H x vs v us Q I rx rv h
  obtain ⟨z, y, rfl, rfl, hy, hz, q⟩ := h
  obtain ⟨t, rfl⟩ := rx
  obtain ⟨u, rfl, ru⟩ := rv.one
  obtain ⟨t', rfl⟩ := ru
  have big : (1002 : Nat) ≤ sizeLine := by rw [sizeLine_eq]; decide
  have hl : (Txt.split z y).length ≤ sizeLine := by have := split_len z y; omega
  have fin : ∀ (l : List (Str × Tok)) (k : Nat), l.map (·.1) = Txt.split z y → EP X pins σ Q (.ref s.heap.objs.size) { s with heap := s.heap.push { cls := .type "list", data := .seq (strValues l).toArray }, toks := k } := fun l k e =>
    ⟨.ref s.heap.objs.size, _, I.strs e hl k, rfl, q _ I.fresh⟩
  have hn : (Builtin.Str.partsBetween z (Builtin.Str.occurrences z y 0 z.length (z.length + 1)) y.length).length ≤ sizeLine := by
    have e1 := StrLaws.occ_length_le z y 0 z.length (z.length + 1)
    rw [length_partsBetween]; omega
  cases h1 : (decide (z.length < y.length) || decide (Builtin.Str.strKind z < Builtin.Str.strKind y))
  · cases hf : (Builtin.Str.occurrences z y 0 z.length (z.length + 1)).isEmpty
    · refine call_meets F.slot_str_split (typeIs_str _ _ _) F.entry_str_split (F.args_str_split_2 _ _) (meets_str_split_sep z y t t' h1 hy hf (by omega) hn) ?_
      show wants (EP X pins σ Q) X.xe _ { s with toks := _, heap := s.heap.push { cls := .type "list", data := .seq (strsFrom s.toks (Builtin.Str.partsBetween z (Builtin.Str.occurrences z y 0 z.length (z.length + 1)) y.length)).toArray } }
      rw [strsFrom_eq]
      exact fin (numbered s.toks _) _ ((numbered_texts _ _).trans ((if_neg (ne_true_of_eq_false h1)).trans (if_neg (ne_true_of_eq_false hf))).symm)
    · exact call_meets F.slot_str_split (typeIs_str _ _ _) F.entry_str_split (F.args_str_split_2 _ _) (meets_str_split_not_found z y t t' h1 hy hf) (fin [(z, t)] s.toks ((if_neg (ne_true_of_eq_false h1)).trans (if_pos hf)).symm)
  · exact call_meets F.slot_str_split (typeIs_str _ _ _) F.entry_str_split (F.args_str_split_2 _ _) (meets_str_split_cannot_occur z y t t' h1) (fin [(z, t)] s.toks (if_pos h1).symm)
def rSlS : V → Option Int → Option Int → Hp → VK → Prop := fun x lo hi H Q => ∃ z, x = .str z ∧ z.length ≤ sizeLine ∧ Q (.str (Txt.slice z lo hi)) H
theorem sl_str : SlR X rSlS := by
  intro pins s σ H x v vl vu lo hi sl Q I rx hs pl pu h
  obtain ⟨z, rfl, hz, q⟩ := h
  obtain ⟨t, rfl⟩ := rx
  refine ⟨"str", _, F.slot_str_getitem.lookup, typeIs_str _ _ _, ?_⟩
  have fin : ∀ (t' : Tok) (k : Nat), EP X pins σ Q (.str (Txt.slice z lo hi) t') { s with toks := k } := fun t' k => ⟨.str _, H, I.tok _, ⟨_, rfl⟩, q⟩
  cases pl with
  | none => cases pu with
    | none => exact wpAny_getItem_str_slice (l := none) (u := none) (st := none) hs rfl (post_val_or_str ⟨Nat.le_trans (Txt.slice_le z _ _) hz, fin⟩)
    | int j tj => exact wpAny_getItem_str_slice (l := none) (u := some (j, tj)) (st := none) hs rfl (post_val_or_str ⟨Nat.le_trans (Txt.slice_le z _ _) hz, fin⟩)
  | int i ti => cases pu with
    | none => exact wpAny_getItem_str_slice (l := some (i, ti)) (u := none) (st := none) hs rfl (post_val_or_str ⟨Nat.le_trans (Txt.slice_le z _ _) hz, fin⟩)
    | int j tj => exact wpAny_getItem_str_slice (l := some (i, ti)) (u := some (j, tj)) (st := none) hs rfl (post_val_or_str ⟨Nat.le_trans (Txt.slice_le z _ _) hz, fin⟩)
theorem vals_bools : ∀ {bs : List Bool} {us : List Value}, Vals (bs.map V.bl) us → ∀ (i : Nat) (v : Value), us[i]? = some v → ∃ b, bs[i]? = some b ∧ v = .bool b
  | [], _, .nil, i, v, e => by simp at e
  | b :: bs, _, .cons r _, 0, v, e => by
    have r' : _ = Value.bool b := r
    simp at e; subst e; exact ⟨b, rfl, r'⟩
  | b :: bs, _, .cons _ t, i + 1, v, e => by
    obtain ⟨c, h1, h2⟩ := vals_bools t i v (by simpa using e)
    exact ⟨c, by simpa using h1, h2⟩
theorem range_all' (bs : List Bool) : ((List.range bs.length).all fun i => (bs[i]?).getD true) = bs.all id := by
  induction bs with
  | nil => rfl
  | cons b bs ih =>
    rw [List.length_cons, List.range_succ_eq_map, List.all_cons, List.all_map, List.all_cons, ← ih]
    rfl
theorem call_all (hc : X.calm = true) : CallR X (.builtin "all") (fun xs H Q => ∃ (p : Addr) (bs : List Bool), xs = [.ref p] ∧ SqL X.K H p (bs.map V.bl) ∧ Q (.bl (bs.all id)) H) := by
  intro pins s σ H xs us Q I r h
  obtain ⟨p, bs, rfl, hq, q⟩ := h
  obtain ⟨u, rfl, ru⟩ := vals1 r
  cases ru
  obtain ⟨its, rv, pl, hz⟩ := I.list hq
  have isl := pl.isList
  have below : p < s.heap.objs.size := by obtain ⟨_, e, _⟩ := isl; exact Heap.lt_size e
  have hlen := rv.length
  rw [List.length_map] at hlen
  have W := Walks.list (prog := X.prog) (w := X.w) (A := X.A.in1) (I.ok.hd hc) s.heap.objs.size p (Nat.ne_of_lt below) its.toArray
  have truths : TruthOf X.prog X.w X.A.in1 (fun i v => its.toArray[i]? = some v) (fun i => (bs[i]?).getD true) := fun i v s1 R E1 at_i hR => by
    obtain ⟨b, eb, ev⟩ := vals_bools rv i v (by simpa using at_i)
    subst ev
    have hR2 : R ((bs[i]?).getD true) s1 := hR
    rw [eb] at hR2
    exact wpAny_truthy_bool hR2
  have worth : ((List.range its.toArray.size).all fun i => (bs[i]?).getD true) = bs.all id := by
    rw [List.size_toArray, ← hlen]; exact range_all' bs
  have begun : (s.heap.push { cls := .type "list_iterator", data := .fields #[.ref p, .int 0 0] }).IsListIter s.heap.objs.size p 0 := ⟨_, Heap.get?_push_size _ rfl, rfl, rfl⟩
  refine call_all_walk (wpAny_pyIter_list isl ⟨s.heap.objs.size, _, _, _, _, _, _, rfl, W, ⟨begun, isl.push _⟩, truths, fun h1 tk same => ?_⟩)
  rw [worth]
  refine ⟨.bl _, H, I.kept (h' := h1) (t' := tk) (fun b o e => same b o (fun hm => ?_) (Heap.get?_push_of_some _ e)), rfl, q⟩
  have eb := List.mem_singleton.mp hm
  subst eb
  exact Nat.lt_irrefl _ (Heap.lt_size e)
theorem call_isinst : CallR X (.builtin "isinstance") (fun xs H Q => ∃ x t T b, xs = [x, .ty T] ∧ TyOf X.K H x t ∧ PySem.W.kitOne X.K t (.type T) = some b ∧ Q (.bl b) H) := by
  intro pins s σ H xs us Q I r h
  obtain ⟨x, t, T, b, rfl, ty, hk, q⟩ := h
  obtain ⟨u, w', rfl, r1, r2⟩ := vals2 r
  cases r2
  exact isinst_ok I r1 ty hk fun tk => ⟨.bl b, H, I.tok _, rfl, q⟩
theorem Same.tup {K : PySem.W.Frag} {H H' : Hp} {a : Addr} {xs : List V} (e : Same H H') (h : SqT K H a xs) : SqT K H' a xs := by
  rcases h with (h | ⟨o, h⟩) | h
  · exact .inl (.inl (e _ _ h))
  · exact .inl (.inr ⟨o, e _ _ h⟩)
  · exact .inr h
end
end L2
namespace L2
open PySem PySem.Spec PyProof.Rows
theorem runs_toks {M : Model} {Γ : PySem.Ctx} {p : Pos} {t : Sem Fin} {fs : List Frame} {s s' : Shared} {e : End} (h : Runs M Γ p t fs s e s') : s.toks ≤ s'.toks := by
  induction h with
  | done => exact Nat.le_refl _
  | raise => exact Nat.le_refl _
  | yield => exact Nat.le_refl _
  | fresh _ ih => exact Nat.le_trans (Nat.le_succ _) ih
  | call _ _ a b => exact Nat.le_trans a b
  | resumeFresh _ _ _ _ a b => exact Nat.le_trans a b
  | resumeSuspended _ _ _ _ a b => exact Nat.le_trans a b
  | segRet _ _ a b => exact Nat.le_trans a b
  | segGen _ _ a b => exact Nat.le_trans a b
  | segSuspGen _ _ _ _ a b => exact Nat.le_trans a b
  | again _ _ ih => exact ih
  | rule _ ih => exact ih
  | «at» _ ih => exact ih
  | load _ _ ih => exact ih
  | update _ _ ih => exact ih
  | loadIfAlive _ ih => exact ih
  | point _ ih => exact ih
  | alloc _ ih => exact ih
  | ask _ ih => exact ih
  | choose _ _ ih => exact ih
  | os _ ih => exact ih
  | handled _ ih => exact ih
  | genState _ _ ih => exact ih
  | stack _ ih => exact ih
  | thread _ ih => exact ih
  | newGen _ ih => exact ih
  | callSusp _ ih => exact ih
  | resumeJustStarted _ _ _ ih => exact ih
  | resumeThrowFresh _ _ ih => exact ih
  | resumeRunning _ _ ih => exact ih
  | resumeFinished _ _ ih => exact ih
  | segSuspOut _ _ ih => exact ih
theorem wakes_toks {M : Model} {Γ : PySem.Ctx} {p : Pos} {g : Nat} {r : Resume} {s s' : Shared} {res : GenResult} (h : Wakes M Γ p g r s res s') : s.toks ≤ s'.toks := by
  unfold Wakes at h
  split at h
  · exact h.elim
  · split at h
    · obtain ⟨e1, s1, hr, _, _, rfl⟩ := h
      have := runs_toks hr
      exact this
    · obtain ⟨_, rfl⟩ := h; exact Nat.le_refl _
    · obtain ⟨_, rfl⟩ := h; exact Nat.le_refl _
  · obtain ⟨e1, s1, hr, _, _, rfl⟩ := h
    have := runs_toks hr
    exact this
  · obtain ⟨_, rfl⟩ := h; exact Nat.le_refl _
  · obtain ⟨_, rfl⟩ := h; exact Nat.le_refl _
theorem wp_toks {α : Type} {M : Model} {Γ : PySem.Ctx} (n : Nat) (t : Sem α) {Q : α → Pos → Shared → Prop} {E : Value → Pos → Shared → Prop} {p : Pos} {s : Shared} (hn : n ≤ s.toks) (h : Sem.wp M Γ t Q E p s) :
    Sem.wp M Γ t (fun a p' s' => Q a p' s' ∧ n ≤ s'.toks) E p s := by
  induction t generalizing p s with
  | pure a => exact ⟨h, hn⟩
  | raise v => exact h
  | unsupported => exact h
  | finish => exact h
  | yield => exact h
  | fork => exact h
  | await => exact h
  | register => exact h
  | rule _ k ih => exact ih _ hn h
  | «at» _ k ih => exact ih _ hn h
  | alloc _ k ih => exact ih _ hn h
  | loadIfAlive _ k ih => exact ih _ hn h
  | point _ k ih => exact ih _ hn h
  | fresh k ih => exact ih _ (Nat.le_succ_of_le hn) h
  | ask k ih => exact ih _ hn h
  | os _ _ k ih => exact ih _ hn h
  | handled _ k ih => exact ih _ hn h
  | newGen _ k ih => exact ih _ hn h
  | stack k ih => exact ih _ hn h
  | thread k ih => exact ih _ hn h
  | load a _ k ih => obtain ⟨o, ho, h⟩ := h; exact ⟨o, ho, ih _ hn h⟩
  | genState a k ih => obtain ⟨o, ho, h⟩ := h; exact ⟨o, ho, ih _ hn h⟩
  | update a _ f k ih => obtain ⟨ha, h⟩ := h; exact ⟨ha, ih _ hn h⟩
  | choose _ _ k ih => obtain ⟨ha, h⟩ := h; exact ⟨ha, ih _ hn h⟩
  | call c hh g l k ih => obtain ⟨r, s', hr, h⟩ := h; exact ⟨r, s', hr, ih r (Nat.le_trans hn (runs_toks hr)) h⟩
  | resume g r l k ih => obtain ⟨res, s', hw, h⟩ := h; exact ⟨res, s', hw, ih _ (Nat.le_trans hn (wakes_toks hw)) h⟩
theorem tk {α : Type} {M : Model} {A : Around} {t : Sem α} {Q : α → Shared → Prop} {E : Value → Shared → Prop} {s : Shared} (h : wpAny M A t Q E s) : wpAny M A t (fun a s' => Q a s' ∧ s.toks ≤ s'.toks) E s :=
  fun Γ p hΓ => wp_toks s.toks t (Nat.le_refl _) (h Γ p hΓ)
end L2
namespace L2
open PySem PySem.Spec PyProof.Rows
def PSk (X : Cx) (st : Stmt) (t : TS) : Prop :=
  ∀ (pins : List (Addr × Obj)) (s : Shared) (σ : St) (H : Hp) (D : Ends), 0 < s.toks → Inv X pins σ H s → t D σ H → wpAny (model X.prog X.w) X.A (exec st X.env) (SP X pins D) X.xe s
def PSsk (X : Cx) (st : List Stmt) (t : TS) : Prop :=
  ∀ (pins : List (Addr × Obj)) (s : Shared) (σ : St) (H : Hp) (D : Ends), 0 < s.toks → Inv X pins σ H s → t D σ H → wpAny (model X.prog X.w) X.A (execs st X.env) (SP X pins D) X.xe s
section
variable {X : Cx} {st : Stmt} {rest : List Stmt} {t u : TS} {e : Expr} {te : TE} {pos : Pos} {tg : Expr}
theorem PS.k (h : PS X st t) : PSk X st t := fun pins s σ H D _ I hw => h pins s σ H D I hw
theorem PSs.k (h : PSs X rest t) : PSsk X rest t := fun pins s σ H D _ I hw => h pins s σ H D I hw
end
end L2
namespace L2
open PySem PySem.Spec PyProof.Rows
section
variable {prog : Program} {w : World} {A : Around} {R : Result → Shared → Prop} {s : Shared}
theorem comp_turns {elt target iter : Expr} {ifs : List Expr} {scope : Scope} {pos : Pos} {it acc : Value} {env : Env} (I : Nat → Shared → Prop)
    (turn : ∀ n s, I n s → wpAny (model prog w) A (pyNext it) (fun r s1 => match r with
      | none => R (.ok .next) s1
      | some v => wpAny (model prog w) A (letOwnedTupleGo target it v) (fun _ s1' => wpAny (model prog w) A (assign target env v) (fun _ s2 =>
          wpAny (model prog w) A (forIn ifs true fun c r => if r = true then do let ok ← isTrue c env (eval c env); pure (ForInStep.yield ok) else pure (ForInStep.yield r)) (fun ok s3 =>
            if ok = true then wpAny (model prog w) A (eval elt env) (fun x s4 => wpAny (model prog w) A (call (.builtin "list.append") [acc, x]) (fun _ s5 => ∃ m, m < n ∧ I m s5) (fun _ _ => False) s4) (fun _ _ => False) s3
            else ∃ m, m < n ∧ I m s3) (fun _ _ => False) s2) (fun _ _ => False) s1') (fun _ _ => False) s1) (fun _ _ => False) s)
    (n : Nat) (h : I n s) : codeAny (model prog w) A (.compLoop (.ListComp elt [⟨target, iter, ifs, 0⟩] scope pos) 0 it acc env) R s := by
  refine codeAny_loop rfl I (fun n s hI => ?_) n h
  show wpAny _ A ((compTurn (.ListComp elt [⟨target, iter, ifs, 0⟩] scope pos) 0 it acc env).onRaise (fun x => do noteFrame x env; theTreesLotGoes x)) _ _ s
  refine wpAny_noted ?_
  rw [compTurn_list]
  refine wpAny_bind (wpAny_standAt (wpAny_bind (wpAny_mono (turn n s hI) (fun r s1 h1 => ?_) fun _ _ z => z.elim)))
  cases r with
  | none => exact wpAny_pure h1
  | some v =>
    refine wpAny_bind (wpAny_mono h1 (fun _ s1' h1' => wpAny_bind (wpAny_mono h1' (fun _ s2 h2 => wpAny_bind (wpAny_mono h2 (fun ok s3 h3 => ?_) fun _ _ z => z.elim)) fun _ _ z => z.elim)) fun _ _ z => z.elim)
    cases ok with
    | false => exact wpAny_pure ⟨rfl, h3⟩
    | true => exact wpAny_bind (wpAny_bind (wpAny_mono h3 (fun x s4 h4 => wpAny_bind (wpAny_mono h4 (fun _ s5 h5 => wpAny_pure (wpAny_pure ⟨rfl, h5⟩)) fun _ _ z => z.elim)) fun _ _ z => z.elim))
end
theorem clos_of {env : Env} : ∀ (names : List (Str × NameKind)) (acc : List (Str × Addr)), (∀ nk ∈ names, nk.2 = .free → ∃ c, env.cells.lookup nk.1 = some c) → (∀ y c, acc.lookup y = some c → env.cells.lookup y = some c) →
    ∃ cl, (forIn names acc (fun (x : Str × NameKind) (r : List (Str × Addr)) => (if x.2 == .free then do let a ← cellOf env x.1; pure (ForInStep.yield ((x.1, a) :: r)) else pure (ForInStep.yield r) : Sem (ForInStep (List (Str × Addr)))))) = (pure cl : Sem _) ∧
      (∀ y c, cl.lookup y = some c → env.cells.lookup y = some c) ∧ (∀ y c, acc.lookup y = some c → ∃ c, cl.lookup y = some c) ∧ ∀ y, names.lookup y = some .free → ∃ c, cl.lookup y = some c
  | [], acc, _, ha => ⟨acc, rfl, ha, fun y c e => ⟨c, e⟩, fun y e => by simp at e⟩
  | (n, k) :: names, acc, hf, ha => by
    cases hk : k == NameKind.free with
    | false =>
      obtain ⟨cl, e, h1, h2, h3⟩ := clos_of names acc (fun nk h => hf nk (List.mem_cons_of_mem _ h)) ha
      refine ⟨cl, ?_, h1, h2, fun y hy => ?_⟩
      · rw [List.forIn_cons]
        simp only [hk, Bool.false_eq_true, if_false]
        exact e
      · rw [List.lookup_cons] at hy
        cases hyn : y == n with
        | true => rw [hyn] at hy; cases hy; cases hk
        | false => rw [hyn] at hy; exact h3 y hy
    | true =>
      have ek : k = .free := eq_of_beq hk
      obtain ⟨c, hc⟩ := hf (n, k) (List.mem_cons_self ..) ek
      have ha' : ∀ y c', ((n, c) :: acc).lookup y = some c' → env.cells.lookup y = some c' := fun y c' e => by
        rw [List.lookup_cons] at e
        cases hyn : y == n with
        | true => rw [hyn] at e; cases e; rw [eq_of_beq hyn]; exact hc
        | false => rw [hyn] at e; exact ha y c' e
      obtain ⟨cl, e, h1, h2, h3⟩ := clos_of names ((n, c) :: acc) (fun nk h => hf nk (List.mem_cons_of_mem _ h)) ha'
      have in_acc : ∀ y c', acc.lookup y = some c' → ∃ c'', ((n, c) :: acc).lookup y = some c'' := fun y c' e => by
        rw [List.lookup_cons]
        cases hyn : y == n with
        | true => exact ⟨c, rfl⟩
        | false => exact ⟨c', e⟩
      refine ⟨cl, ?_, h1, fun y c' e' => let ⟨c'', e''⟩ := in_acc y c' e'; h2 y c'' e'', fun y hy => ?_⟩
      · have e0 : cellOf env n = pure c := by unfold cellOf; rw [hc]
        rw [List.forIn_cons]
        simp only [hk, if_true, e0]
        exact e
      · rw [List.lookup_cons] at hy
        cases hyn : y == n with
        | true => exact h2 y c (by rw [List.lookup_cons, hyn])
        | false => rw [hyn] at hy; exact h3 y hy
theorem closure_of {scope : Scope} {env : Env} (hf : ∀ nk ∈ scope.names, nk.2 = .free → ∃ c, env.cells.lookup nk.1 = some c) :
    ∃ cl, closureFor scope env = pure cl ∧ (∀ y c, cl.lookup y = some c → env.cells.lookup y = some c) ∧ ∀ y, scope.names.lookup y = some .free → ∃ c, cl.lookup y = some c := by
  obtain ⟨cl, e, h1, _, h3⟩ := clos_of (env := env) scope.names [] hf (fun y c e => by simp at e)
  refine ⟨cl, ?_, h1, h3⟩
  unfold closureFor
  simp only [bind_pure]
  exact e
theorem relab_free {env : Env} : ∀ {names : List (Str × NameKind)} {y : Str}, names.lookup y = some .free →
    (names.map fun (n, k) => if (k == NameKind.free && env.scope.kind == .function && env.kindOf n == some .cell) then (n, NameKind.cell) else (n, k)).lookup y = some .cell ∨
    (names.map fun (n, k) => if (k == NameKind.free && env.scope.kind == .function && env.kindOf n == some .cell) then (n, NameKind.cell) else (n, k)).lookup y = some .free
  | [], _, h => by simp at h
  | (n, k) :: r, y, h => by
    have ih := @relab_free env r y
    show List.lookup y ((if (k == NameKind.free && env.scope.kind == .function && env.kindOf n == some .cell) = true then (n, NameKind.cell) else (n, k)) :: _) = _ ∨ List.lookup y ((if (k == NameKind.free && env.scope.kind == .function && env.kindOf n == some .cell) = true then (n, NameKind.cell) else (n, k)) :: _) = _
    cases hx : y == n with
    | true =>
      simp only [List.lookup_cons, hx] at h
      cases h
      by_cases hc : (NameKind.free == NameKind.free && env.scope.kind == .function && env.kindOf n == some .cell) = true
      · rw [if_pos hc]; simp only [List.lookup_cons, hx]; exact .inl trivial
      · rw [if_neg hc]; simp only [List.lookup_cons, hx]; exact .inr trivial
    | false =>
      simp only [List.lookup_cons, hx] at h
      by_cases hc : (k == NameKind.free && env.scope.kind == .function && env.kindOf n == some .cell) = true
      · rw [if_pos hc]; simp only [List.lookup_cons, hx]; exact ih h
      · rw [if_neg hc]; simp only [List.lookup_cons, hx]; exact ih h
theorem relab_inv {env : Env} : ∀ {names : List (Str × NameKind)} {y : Str}, (∀ nk ∈ names, nk.2 ≠ .cell) →
    ((names.map fun (n, k) => if (k == NameKind.free && env.scope.kind == .function && env.kindOf n == some .cell) then (n, NameKind.cell) else (n, k)).lookup y = some .cell ∨
    (names.map fun (n, k) => if (k == NameKind.free && env.scope.kind == .function && env.kindOf n == some .cell) then (n, NameKind.cell) else (n, k)).lookup y = some .free) → names.lookup y = some .free
  | [], _, _, h => by simp at h
  | (n, k) :: r, y, hn, h => by
    have ih := @relab_inv env r y (fun nk h => hn nk (List.mem_cons_of_mem _ h))
    have h' : List.lookup y ((if (k == NameKind.free && env.scope.kind == .function && env.kindOf n == some .cell) = true then (n, NameKind.cell) else (n, k)) :: r.map fun (n, k) => if (k == NameKind.free && env.scope.kind == .function && env.kindOf n == some .cell) then (n, NameKind.cell) else (n, k)) = some .cell ∨ List.lookup y ((if (k == NameKind.free && env.scope.kind == .function && env.kindOf n == some .cell) = true then (n, NameKind.cell) else (n, k)) :: r.map fun (n, k) => if (k == NameKind.free && env.scope.kind == .function && env.kindOf n == some .cell) then (n, NameKind.cell) else (n, k)) = some .free := h
    cases hx : y == n with
    | true =>
      simp only [List.lookup_cons, hx]
      by_cases hc : (k == NameKind.free && env.scope.kind == .function && env.kindOf n == some .cell) = true
      · have : (k == NameKind.free) = true := by
          cases hk : k == NameKind.free with
          | true => rfl
          | false => rw [hk] at hc; simp at hc
        rw [eq_of_beq this]
      · rw [if_neg hc] at h'
        simp only [List.lookup_cons, hx] at h'
        rcases h' with h' | h'
        · cases h'; exact absurd rfl (hn (n, .cell) (List.mem_cons_self ..))
        · exact h'
    | false =>
      simp only [List.lookup_cons, hx]
      by_cases hc : (k == NameKind.free && env.scope.kind == .function && env.kindOf n == some .cell) = true
      · rw [if_pos hc] at h'; simp only [List.lookup_cons, hx] at h'; exact ih h'
      · rw [if_neg hc] at h'; simp only [List.lookup_cons, hx] at h'; exact ih h'
def cxCF (X : Cx) (scope : Scope) (cl : List (Str × Addr)) (Ns : List Str) (C : Addr) (s : Shared) (H : Hp) (fp : List Addr) : Cx :=
  { X with
    N := Ns
    s₀ := s
    H₀ := H
    env := compEnvC scope cl C X.env
    outer := X.stack
    stack := X.stack
    ex := fp
    fn := fun _ => false
    pn := []
    xe := fun _ _ => False }
def frOf (σ : St) (js : List Nat) : St := js.map fun j => (σ[j]?).join
def tCompF (wi : TI) (g : TG) (n : Nat) (js : List Nat) (tt : TT) (te : TE) : TE := fun σ H Q => wi σ H fun J H1 => ∀ D, H1 D = none → ∃ W : Nat → Nat → List V → Hp → Prop,
  (∃ m, W 0 m [] (upd H1 D (.lst []))) ∧ ∀ i m ys H2, W i m ys H2 → H2 D = some (.lst ys) ∧
    ((J.stop i H2 ∧ Q (.ref D) H2) ∨ (J.go i H2 ∧ ∀ x H3, J.yld i H2 x H3 → ∀ pre : St, pre.length = n → g x (pre ++ frOf σ js) H3 fun σ4 H4 => (∃ pre' : St, pre'.length = n ∧ σ4 = pre' ++ frOf σ js) ∧
      tt σ4 H4 fun b H5 => if b = true then te σ4 H5 (fun y H6 => H6 D = some (.lst ys) ∧ ys.length < sizeLine ∧ ∃ m', m' < m ∧ W (i + 1) m' (ys ++ [y]) (upd H6 D (.lst (ys ++ [y])))) else ∃ m', m' < m ∧ W (i + 1) m' ys H5))
def PTs (X : Cx) (ifs : List Expr) (t : TT) : Prop :=
  ∀ (pins : List (Addr × Obj)) (s : Shared) (σ : St) (H : Hp) (Q : Bool → Hp → Prop), Inv X pins σ H s → t σ H Q →
    wpAny (model X.prog X.w) X.A (forIn ifs true fun c r => if r = true then do let ok ← isTrue c X.env (eval c X.env); pure (ForInStep.yield ok) else pure (ForInStep.yield r)) (TP X pins σ Q) X.xe s
def tTrue : TT := fun _ H Q => Q true H
theorem pts_nil {X : Cx} : PTs X [] tTrue := fun _ _ _ H _ I h => wpAny_tests_nil ⟨H, I, h⟩
def FreeOk (X : Cx) (scope : Scope) : List Str → List Nat → Prop
  | [], [] => True
  | y :: ys, j :: js => X.N[j]? = some y ∧ (X.env.kindOf y = some .cell ∨ X.env.kindOf y = some .free) ∧ scope.names.lookup y = some .free ∧ FreeOk X scope ys js
  | _, _ => False
theorem FreeOk.at {X : Cx} {scope : Scope} : ∀ {ys : List Str} {js : List Nat}, FreeOk X scope ys js → ys.length = js.length ∧ ∀ (k : Nat) (y : Str), ys[k]? = some y → ∃ j, js[k]? = some j ∧ X.N[j]? = some y ∧ (X.env.kindOf y = some .cell ∨ X.env.kindOf y = some .free) ∧ scope.names.lookup y = some .free
  | [], [], _ => ⟨rfl, fun k y e => by simp at e⟩
  | [], _ :: _, h => h.elim
  | _ :: _, [], h => h.elim
  | y :: ys, j :: js, h => by
    obtain ⟨h1, h2, h3, h4⟩ := h
    obtain ⟨l, ih⟩ := FreeOk.at h4
    refine ⟨by simp [l], fun k y' e => ?_⟩
    cases k with
    | zero => simp at e; subst e; exact ⟨j, rfl, h1, h2, h3⟩
    | succ k => simpa using ih k y' (by simpa using e)
section
variable {X : Cx}
theorem pe_compF {elt iter target : Expr} {ifs : List Expr} {xs ys : List Str} {js : List Nat} {pos : Pos} {scope : Scope} {wi : TI} {g : TG} {tt : TT} {te : TE} (hc : X.calm = true)
    (hfree : ∀ nk ∈ scope.names, nk.2 = .free → nk.1 ∈ ys) (hcell : ∀ nk ∈ scope.names, nk.2 ≠ .cell) (hkind : scope.kind = .function)
    (hnames : ∀ nk ∈ scope.names, nk.2 = .local → scope.names.lookup nk.1 = some .local) (hfo : FreeOk X scope ys js)
    (hi : PI X target iter wi) (hg : ∀ cl C s H fp, PG (cxCF X scope cl (xs ++ ys) C s H fp) target g) (ht : ∀ cl C s H fp, PTs (cxCF X scope cl (xs ++ ys) C s H fp) ifs tt)
    (he : ∀ cl C s H fp, PE (cxCF X scope cl (xs ++ ys) C s H fp) elt te)
    (hs : ∀ v, foldedSetIterable iter X.env v = pure v := by intro _; rfl) : PE X (.ListComp elt [⟨target, iter, ifs, 0⟩] scope pos) (tCompF wi g xs.length js tt te) := by
  intro pins s σ H Q I h
  obtain ⟨ylen, yat⟩ := hfo.at
  have hkd : ∀ nk ∈ scope.names, nk.2 = .free → X.env.kindOf nk.1 = some .cell ∨ X.env.kindOf nk.1 = some .free := fun nk hnk hf => by
    obtain ⟨k, hk, e⟩ := List.mem_iff_getElem.mp (hfree nk hnk hf)
    obtain ⟨_, _, _, hk2, _⟩ := yat k nk.1 (by rw [List.getElem?_eq_getElem hk, e])
    exact hk2
  obtain ⟨cl, hclos, hsub, hhas⟩ := closure_of (scope := scope) (env := X.env) fun nk hnk hf => I.ok.has _ (hkd nk hnk hf)
  rw [eval_ListComp]
  refine wpAny_comprehension_free (use := none) rfl hs hclos hkind hnames (thn (hi pins s σ H _ I h) fun v s1 h1 => thn h1 fun itv s2 h2 => ?_)
  obtain ⟨it, fp, tn, J, H2, e, I2, T, st2, f2, hR⟩ := h2
  subst e
  have hD0 : H2 s2.heap.objs.size = none := I2.fresh
  obtain ⟨W, ⟨m0, w0⟩, turnW⟩ := hR _ hD0
  have I3 : Inv X pins σ (upd H2 s2.heap.objs.size (.lst [])) { s2 with heap := s2.heap.push { cls := .type "list", data := .seq ([] : List Value).toArray } } := I2.lnew (t' := s2.toks) .nil (Nat.zero_le _)
  refine wpAny_newObj_type (wpAny_newFunctionEnv hcell (fun nk hnk => by simp at hnk) (fun h₁ hns₁ hsb₁ => ?_) hkind)
  dsimp only at hns₁ hsb₁ ⊢
  generalize hs3 : ({ s2 with heap := s2.heap.push { cls := .type "list", data := .seq ([] : List Value).toArray } } : Shared) = s3 at I3
  have eh3 : s3.heap = s2.heap.push { cls := .type "list", data := .seq ([] : List Value).toArray } := by rw [← hs3]
  have hC : s3.heap.objs.size = s2.heap.objs.size + 1 := by rw [eh3, Heap.size_push]
  have old : ∀ b o, s3.heap.get? b = some o → h₁.get? b = some o := fun b o e => by
    have hb : b ≠ s3.heap.objs.size := Nat.ne_of_lt (Heap.lt_size e)
    rw [eh3] at e hb
    exact hsb₁.extBut b o hb (Heap.get?_push_of_some _ e)
  have fpl : ∀ b ∈ fp, b < s2.heap.objs.size := fun b hb => let ⟨o, e, _⟩ := T.obj _ _ st2 b hb; Heap.lt_size e
  have fps : ∀ b ∈ fp, b ∉ frs X.stack := fun b hb z => (List.mem_cons.mp (I2.stkSub b z)).elim (f2 b hb).2.1 (f2 b hb).2.2.1
  have fpc : ∀ b ∈ fp, ∀ y c, cl.lookup y = some c → c ≠ b := fun b hb y c e => (f2 b hb).2.2.2.2.1 y c (hsub y c e)
  have cne : ∀ y c, cl.lookup y = some c → c ≠ s3.heap.objs.size := fun y c e z => by
    obtain ⟨v, q⟩ := I3.cell y c (hsub y c e)
    exact absurd q.lt (by rw [z]; exact Nat.lt_irrefl _)
  let X' : Cx := cxCF X scope cl (xs ++ ys) s3.heap.objs.size s3 (upd H2 s2.heap.objs.size (.lst [])) fp
  have okX : X'.Ok := by
    refine ⟨I2.ok.mod, hkind, I2.ok.glob, I2.ok.blt, Nat.le_refl _, fun y z c e1 e2 => I2.ok.inj y z c (hsub _ _ e1) (hsub _ _ e2), fun y hy => hhas y (relab_inv hcell hy), fun y c z _ => absurd z (by simp [X', cxCF]), I2.ok.hd, I2.ok.frames, .inl rfl, fun b hb => ⟨?_, fun y c e => fpc b hb y c e⟩,
      I3.bs, Nat.le_trans I3.ok.bsz I3.sz, fun b o e hb => ?_, fps, I3.stack, I3.stkFree⟩
    · exact Nat.ne_of_lt (Nat.lt_of_lt_of_le (fpl b hb) (by show s2.heap.objs.size ≤ s3.heap.objs.size; rw [hC]; exact Nat.le_succ _))
    · rcases (f2 b hb).2.2.2.1 with z | z
      · exact I2.ok.noex b o e z
      · exact absurd (Nat.lt_of_lt_of_le (Heap.lt_size (I2.ok.bs b o e).1) z) (Nat.lt_irrefl _)
  have stat : ∀ {H' : Hp}, (∀ b ∈ fp, H' b = none) → ∀ b ∈ fp, FpOk X' [] H' b := fun hn b hb => by
    refine ⟨hn b hb, ?_, fps b hb, .inl hb, fun y c e => fpc b hb y c e, fun p hp => absurd (show p ∈ ([] : List (Addr × Obj)) from hp) (by simp)⟩
    exact Nat.ne_of_lt (Nat.lt_of_lt_of_le (fpl b hb) (by show s2.heap.objs.size ≤ s3.heap.objs.size; rw [hC]; exact Nat.le_succ _))
  have I4 : ∀ tk : Nat, Inv X' [] (List.replicate xs.length none ++ frOf σ js) (upd H2 s2.heap.objs.size (.lst [])) { s3 with heap := h₁, toks := tk } := fun tk => by
    refine ⟨okX, rfl, I3.bare, Un.kept old, ⟨_, by rw [← eh3] at hns₁; exact hns₁, fun i y v e1 e2 _ => ?_⟩, fun y c e => let ⟨v, q⟩ := I3.cell y c (hsub y c e); let ⟨o, q1, q2⟩ := q; ⟨v, o, old c o q1, q2⟩, I3.hok.fresh (Nat.le_refl _), fun y c e => I3.freeC y c (hsub y c e), fun p hp => absurd (show p ∈ ([] : List (Addr × Obj)) from hp) (by simp), I3.hok.kept old, by simp [X', cxCF, frOf, ylen]⟩
    by_cases hlt : i < xs.length
    · rw [List.getElem?_append_left (by simpa using hlt), List.getElem?_replicate, if_pos hlt] at e2
      cases e2
    · have hge : xs.length ≤ i := Nat.le_of_not_lt hlt
      have e1' : (xs ++ ys)[i]? = some y := e1
      rw [List.getElem?_append_right hge] at e1'
      rw [List.getElem?_append_right (by simpa using hge), List.length_replicate] at e2
      obtain ⟨j, hj, hN, hk, hfr⟩ := yat _ y e1'
      have e3 : (σ[j]?).join = some v := by
        unfold frOf at e2
        rw [List.getElem?_map, hj] at e2
        exact Option.some.inj e2
      have e4 : σ[j]? = some (some v) := by
        cases q : σ[j]? with
        | none => rw [q] at e3; cases e3
        | some w => rw [q] at e3; have : w = some v := e3; rw [this]
      obtain ⟨m3, _, hl3⟩ := I3.loc
      obtain ⟨u, ru, lk⟩ := hl3 j y v hN e4 (by rcases hk with z | z; exact .inr (.inl z); exact .inr (.inr z))
      refine ⟨u, ru, .inr ⟨relab_free hfr, ?_⟩⟩
      rcases lk with ⟨z, _⟩ | ⟨_, c, hc1, hc2⟩
      · rcases hk with z2 | z2 <;> rw [z] at z2 <;> cases z2
      · obtain ⟨c', hc'⟩ := hhas y hfr
        have : c' = c := by have := hsub y c' hc'; rw [hc1] at this; exact (Option.some.inj this).symm
        subst this
        obtain ⟨o, q1, q2⟩ := hc2
        exact ⟨c', hc', o, old c' o q1, q2⟩
  have fr0 : ∀ b ∈ fp, (upd H2 s2.heap.objs.size (.lst []) : Hp) b = none := fun b hb => by rw [upd_ne (Nat.ne_of_lt (fpl b hb))]; exact (f2 b hb).1
  have st4 : tn 0 h₁ := T.keep 0 _ _ st2 fun b hb o e => old b o (by rw [eh3]; exact Heap.get?_push_of_some _ e)
  have fin : ∀ {σ5 : St} {H' : Hp} {s5 : Shared} {h' : Heap}, Inv X' [] σ5 H' s5 → Heap.SameBut s3.heap.objs.size s5.heap h' → Q (.ref s2.heap.objs.size) H' → EP X pins σ Q (.ref s2.heap.objs.size) { s5 with heap := h' } := by
    intro σ5 H' s5 h' I5 sb q
    obtain ⟨hh, gg, d, t, os'⟩ := s5
    have eo : os' = s3.os := I5.os
    subst eo
    have keepC : ∀ b o, b ≠ s3.heap.objs.size → hh.get? b = some o → h'.get? b = some o := fun b o hb e => sb.extBut b o hb e
    have ne3 : ∀ b o, s3.heap.get? b = some o → b ≠ s3.heap.objs.size := fun b o e => Nat.ne_of_lt (Heap.lt_size e)
    have u : Un (frs X.stack) fp (upd H2 s2.heap.objs.size (.lst [])) H' s3.heap hh := I5.base
    have un : Un (frs X.stack) fp (upd H2 s2.heap.objs.size (.lst [])) H' s3.heap h' :=
      ⟨fun b o e n hb hx => keepC b o (ne3 b o e) (u.keep b o e n hb hx), fun b o e n hb hx => let ⟨sl, q⟩ := u.slot b o e n hb hx; ⟨sl, keepC b _ (ne3 b o e) q⟩, u.free, fun b o e hx => let ⟨o', q⟩ := u.there b o e hx; ⟨o', keepC b o' (ne3 b o e) q⟩, u.tups, u.frzs, u.tbls⟩
    have hfree' : H' s3.heap.objs.size = none := I5.free
    have hok' : HOk X.prog X.w H' h' := fun b u e => by
      refine (I5.hok b u e).stay (fun c v hc q => keepC c v ?_ q) (fun _ q => q) fun _ _ q => q
      rcases hc with z | z
      · rw [z]; intro z2; rw [z2, hfree'] at e; cases e
      · intro z2; rw [z2, hfree'] at z; cases z
    have J := I3.call (h' := h') (g' := gg) (d' := d) (t' := t) (ch := fp) un hok' I5.bare (fun b hb => let ⟨_, h1, _, h2, h3, h4⟩ := f2 b hb; ⟨h2, h1, h3, h4⟩)
    exact ⟨.ref s2.heap.objs.size, H', J, rfl, q⟩
  have loop : ∀ s4 : Shared, (∃ tk, s4 = { s3 with heap := h₁, toks := tk }) →
      codeAny (model X.prog X.w) X.A (.compLoop (.ListComp elt [⟨target, iter, ifs, 0⟩] scope pos) 0 (.ref it) (.ref s2.heap.objs.size) X'.env)
        (compPost (model X.prog X.w) X.A X.xe none (EP X pins σ Q) (.ref s2.heap.objs.size) s3.heap.objs.size) s4 := by
    rintro s4 ⟨tk, rfl⟩
    refine comp_turns (fun n s' => ∃ i ys' pre H', Inv X' [] (pre ++ frOf σ js) H' s' ∧ pre.length = xs.length ∧ tn i s'.heap ∧ (∀ b ∈ fp, H' b = none) ∧ W i n ys' H') ?_ m0 ⟨0, [], List.replicate xs.length none, _, I4 tk, by simp, st4, fr0, w0⟩
    rintro n s5 ⟨i, ys', pre, H5, I5, hpre, st5, fr5, w5⟩
    obtain ⟨hD5, ⟨js5, q⟩ | ⟨jg, step⟩⟩ := turnW i n ys' H5 w5
    · refine wpAny_mono (T.done X' rfl rfl rfl hc i [] s5 _ H5 (fun _ _ => False) I5 (stat fr5) st5 js5) (fun r s6 hr => ?_) fun _ _ z => z.elim
      obtain ⟨rfl, I6⟩ := hr
      obtain ⟨m, hn, _⟩ := I6.loc
      exact ⟨m, hn, fun h' sb => fin I6 sb q⟩
    · refine wpAny_mono (T.item X' rfl rfl rfl hc i [] s5 _ H5 (fun _ _ => False) I5 (stat fr5) st5 jg) (fun r s6 hr => ?_) fun _ _ z => z.elim
      obtain ⟨u, rfl, h6⟩ := hr
      refine wpAny_mono h6 (fun _ s7 h7 => ?_) fun _ _ z => z.elim
      obtain ⟨xv, H7, I7, r7, y7, st7, fr7⟩ := h7
      have I7' := I7.pinned (stat fr7) (T.obj _ _ st7)
      refine wpAny_mono (hg cl s3.heap.objs.size s3 (upd H2 s2.heap.objs.size (.lst [])) fp _ s7 _ H7 xv u _ I7' r7 (step xv H7 y7 pre hpre)) (fun _ s8 h8 => ?_) fun _ _ z => z.elim
      obtain ⟨σ8, H8, I8, ⟨pre', hpre', e8⟩, q8⟩ := h8
      subst e8
      refine wpAny_mono (ht cl s3.heap.objs.size s3 (upd H2 s2.heap.objs.size (.lst [])) fp _ s8 _ H8 _ I8 q8) (fun ok s9 h9 => ?_) fun _ _ z => z.elim
      obtain ⟨H9, I9, q9⟩ := h9
      have stay : ∀ {H' : Hp} {s' : Shared}, Inv X' ([] ++ pinsAt fp s7.heap) (pre' ++ frOf σ js) H' s' → tn (i + 1) s'.heap ∧ ∀ b ∈ fp, H' b = none := fun {H' s'} I' => by
        refine ⟨T.keep _ _ _ st7 fun b hb o e => (I'.pin (b, o) (List.mem_append_right _ (List.mem_append_right _ (mem_pinsAt hb e)))).1, fun b hb => ?_⟩
        obtain ⟨o, e, d⟩ := T.obj _ _ st7 b hb
        exact (I'.pin (b, o) (List.mem_append_right _ (List.mem_append_right _ (mem_pinsAt hb e)))).2.1
      cases ok with
      | false =>
        obtain ⟨m', lt, w9⟩ := (show ∃ m', m' < n ∧ W (i + 1) m' ys' H9 by simpa using q9)
        obtain ⟨k1, k2⟩ := stay I9
        exact ⟨m', lt, i + 1, ys', pre', H9, I9.unpinned, hpre', k1, k2, w9⟩
      | true =>
        have q9' : te (pre' ++ frOf σ js) H9 (fun y H6 => H6 s2.heap.objs.size = some (.lst ys') ∧ ys'.length < sizeLine ∧ ∃ m', m' < n ∧ W (i + 1) m' (ys' ++ [y]) (upd H6 s2.heap.objs.size (.lst (ys' ++ [y])))) := by simpa using q9
        refine wpAny_mono (he cl s3.heap.objs.size s3 (upd H2 s2.heap.objs.size (.lst [])) fp _ s9 _ H9 _ I9 q9') (fun y s10 h10 => ?_) fun _ _ z => z.elim
        obtain ⟨yv, H10, I10, r10, hD10, hl10, m', lt, w10⟩ := h10
        refine wpAny_mono (mt_append (X := X') _ s10 _ H10 (.ref s2.heap.objs.size) [yv] (.ref s2.heap.objs.size) [y] (fun _ H' => H' = upd H10 s2.heap.objs.size (.lst (ys' ++ [yv]))) I10 rfl (.cons r10 .nil) ⟨_, ys', yv, rfl, rfl, hD10, hl10, rfl⟩) (fun _ s11 h11 => ?_) fun _ _ z => z.elim
        obtain ⟨_, H11, I11, _, rfl⟩ := h11
        obtain ⟨k1, k2⟩ := stay I11
        exact ⟨m', lt, i + 1, ys' ++ [yv], pre', _, I11.unpinned, hpre', k1, k2, w10⟩
  have L := loop { s3 with heap := h₁, toks := s2.toks + ([] : List (Str × Value)).length } ⟨_, rfl⟩
  subst hs3
  exact codeAny_compStart_list L (T.self _ 0 _ _ _ st4 L)
end
structure Tells (J : It) (H1 : Hp) (xs : List V) : Prop where
  go : ∀ H2 i, Same H1 H2 → i < xs.length → J.go i H2
  yld : ∀ H2 i x H3, Same H1 H2 → J.yld i H2 x H3 → H3 = H2 ∧ xs[i]? = some x
  stop : ∀ H2, Same H1 H2 → J.stop xs.length H2
theorem tells_tup {K : PySem.W.Frag} {H1 : Hp} {a : Addr} {xs : List V} (h : SqT K H1 a xs) : Tells (Itt K a) H1 xs :=
  ⟨fun H2 i sm hi => ⟨xs, xs[i], sm.tup h, by simp [hi]⟩, fun H2 i x H3 sm y => by obtain ⟨e, y⟩ := y; exact ⟨e, y xs (sm.tup h)⟩, fun H2 sm => ⟨xs, sm.tup h, Nat.le_refl _⟩⟩
theorem tells_list {K : PySem.W.Frag} {H1 : Hp} {a : Addr} {xs : List V} (h : SqL K H1 a xs) : Tells (Itl K a) H1 xs :=
  ⟨fun H2 i sm hi => ⟨xs, xs[i], sm.seq h, by simp [hi]⟩, fun H2 i x H3 sm y => by obtain ⟨e, y⟩ := y; exact ⟨e, y xs (sm.seq h)⟩, fun H2 sm => ⟨xs, sm.seq h, Nat.le_refl _⟩⟩
theorem compF_all {J : It} {xs : List V} {tt : TT} {te : TE} {fr : St} {H1 : Hp} {QD : Hp → Prop} {f : V → V} {p : V → Bool} (D : Addr) (hD : H1 D = none) (T : Tells J H1 xs) (hz : xs.length < sizeLine)
    (ht : ∀ x H R, x ∈ xs → Same H1 H → (∀ H', Same H H' → R (p x) H') → tt (some x :: fr) H R)
    (he : ∀ x H R, x ∈ xs → p x = true → Same H1 H → (∀ H', Same H H' → R (f x) H') → te (some x :: fr) H R)
    (hd : ∀ H', Same H1 H' → H' D = some (.lst ((xs.filter p).map f)) → QD H') :
    ∃ W : Nat → Nat → List V → Hp → Prop, (∃ m, W 0 m [] (upd H1 D (.lst []))) ∧ ∀ i m ys H2, W i m ys H2 → H2 D = some (.lst ys) ∧
      ((J.stop i H2 ∧ QD H2) ∨ (J.go i H2 ∧ ∀ x H3, J.yld i H2 x H3 → ∀ pre : St, pre.length = 1 → gName 0 x (pre ++ fr) H3 fun σ4 H4 => (∃ pre' : St, pre'.length = 1 ∧ σ4 = pre' ++ fr) ∧
        tt σ4 H4 fun b H5 => if b = true then te σ4 H5 (fun y H6 => H6 D = some (.lst ys) ∧ ys.length < sizeLine ∧ ∃ m', m' < m ∧ W (i + 1) m' (ys ++ [y]) (upd H6 D (.lst (ys ++ [y])))) else ∃ m', m' < m ∧ W (i + 1) m' ys H5)) := by
  refine ⟨fun i m ys H2 => m = xs.length - i ∧ i ≤ xs.length ∧ ys = ((xs.take i).filter p).map f ∧ H2 D = some (.lst ys) ∧ Same H1 H2, ⟨xs.length, by simp, Nat.zero_le _, by simp, upd_same, Same.new hD _⟩, ?_⟩
  rintro i m ys H2 ⟨rfl, hi, rfl, hD2, sm⟩
  refine ⟨hD2, ?_⟩
  by_cases hlt : i < xs.length
  · refine .inr ⟨T.go H2 i sm hlt, fun x H3 y pre hpre => ?_⟩
    obtain ⟨rfl, hx⟩ := T.yld H2 i x H3 sm y
    obtain ⟨v0, rfl⟩ : ∃ v0, pre = [v0] := by
      cases pre with
      | nil => simp at hpre
      | cons v r => cases r with
        | nil => exact ⟨v, rfl⟩
        | cons _ _ => simp at hpre
    have hm := List.mem_of_getElem? hx
    refine ⟨⟨[some x], rfl, rfl⟩, ?_⟩
    refine ht x H3 _ hm sm fun H5 s5 => ?_
    have htk : (xs.take (i + 1)).filter p = (xs.take i).filter p ++ (if p x = true then [x] else []) := by
      rw [List.take_add_one, hx, List.filter_append]
      cases hp : p x <;> simp [hp]
    cases hp : p x with
    | false =>
      simp only [Bool.false_eq_true, if_false]
      rw [hp] at htk
      simp only [Bool.false_eq_true, if_false, List.append_nil] at htk
      exact ⟨xs.length - (i + 1), by omega, rfl, hlt, by rw [htk], s5 _ _ hD2, sm.trans s5⟩
    | true =>
      simp only [if_true]
      rw [hp] at htk
      simp only [if_true] at htk
      refine he x H5 _ hm hp (sm.trans s5) fun H6 s6 => ?_
      have hl : (((xs.take i).filter p).map f).length ≤ i := by
        rw [List.length_map]
        refine Nat.le_trans (List.length_filter_le _ _) ?_
        rw [List.length_take]; omega
      refine ⟨s6 _ _ (s5 _ _ hD2), by omega, xs.length - (i + 1), by omega, rfl, hlt, ?_, upd_same, ?_⟩
      · rw [htk, List.map_append]; rfl
      · intro b o e
        have hb : b ≠ D := ne_of_none e hD
        rw [upd_ne hb]
        exact s6 _ _ (s5 _ _ (sm _ _ e))
  · have e : i = xs.length := by omega
    subst e
    rw [List.take_length] at hD2
    exact .inl ⟨T.stop H2 sm, hd H2 sm hD2⟩
end L2
namespace HT
open PySem PySem.Spec PyProof.Rows PySem.Builtin
section
variable {prog : Program} {w : World} {A : Around} {E : Value → Shared → Prop} {s : Shared}
theorem applied_back {sl : Addr} {t : Tok} {n : Nat} {Q : Int × Int × Nat → Shared → Prop} (hs : s.heap.IsSliceOf sl .none .none (.int (-1) t)) (h : Q ((n : Int) - 1, -1, n) s) :
    wpAny (model prog w) A (Builtin.Slice.sliceApplied (.ref sl) (pure (n : Int))) Q E s := by
  obtain ⟨os, hos, hcs, hds⟩ := id hs
  unfold Builtin.Slice.sliceApplied Builtin.Slice.sliceFields
  refine wpAny_bind (wpAny_bind (wpAny_field hos hds (x := .none) rfl (wpAny_bind (wpAny_field hos hds (x := .none) rfl (wpAny_bind (wpAny_field hos hds (x := .int (-1) t) rfl (wpAny_pure ?_)))))))
  refine wpAny_bind (slicePart_int ?_)
  show wpAny _ _ (if ((-1 : Int) == 0) = true then _ else _) _ _ s
  rw [if_neg (by decide)]
  refine wpAny_bind (slicePart_none (wpAny_bind (slicePart_none (wpAny_bind (wpAny_pure ?_)))))
  show wpAny _ _ (match Builtin.Slice.sliceAdjust none none (-1) (n : Int) with | (lo, hi) => pure (lo, (-1 : Int), Builtin.Slice.slicePlaces lo hi (-1))) _ _ s
  have e1 : Builtin.Slice.sliceAdjust none none (-1) (n : Int) = ((n : Int) - 1, -1) := rfl
  rw [e1]
  have e2 : Builtin.Slice.slicePlaces ((n : Int) - 1) (-1) (-1) = n := by
    unfold Builtin.Slice.slicePlaces
    have h1 : ¬ ((-1 : Int) > 0) := by decide
    have h2 : (-(-1) : Int) = 1 := by decide
    rw [if_neg h1, h2, Int.ediv_one]
    split <;> omega
  show wpAny _ _ (pure ((n : Int) - 1, (-1 : Int), Builtin.Slice.slicePlaces ((n : Int) - 1) (-1) (-1))) _ _ s
  rw [e2]
  exact wpAny_pure h
theorem pick_back (xs : Array Value) : ((List.range xs.size).filterMap fun (m : Nat) => xs[(((xs.size : Int) - 1) + (m : Int) * (-1)).toNat]?).toArray = xs.toList.reverse.toArray := by
  congr 1
  have e : ∀ m ∈ List.range xs.size, xs[(((xs.size : Int) - 1) + (m : Int) * (-1)).toNat]? = xs.toList.reverse[m]? := fun m hm => by
    have hm' := List.mem_range.mp hm
    have e1 : (((xs.size : Int) - 1) + (m : Int) * (-1)).toNat = xs.size - 1 - m := by omega
    rw [e1, List.getElem?_reverse (by simpa using hm')]
    simp
  have key : ∀ (l : List Value), (List.range l.length).filterMap (fun m => l[m]?) = l := fun l => by
    induction l with
    | nil => rfl
    | cons a r ih =>
      rw [List.length_cons, List.range_succ_eq_map, List.filterMap_cons]
      show a :: List.filterMap (fun m => (a :: r)[m]?) (List.map Nat.succ (List.range r.length)) = a :: r
      rw [List.filterMap_map]
      congr 1
  have hl : xs.toList.reverse.length = xs.size := by simp
  have cong : ∀ (l : List Nat) (f g : Nat → Option Value), (∀ m ∈ l, f m = g m) → l.filterMap f = l.filterMap g := fun l f g => by
    induction l with
    | nil => intro _; rfl
    | cons a r ih =>
      intro h
      rw [List.filterMap_cons, List.filterMap_cons, h a (List.mem_cons_self ..), ih fun m hm => h m (List.mem_cons_of_mem _ hm)]
  rw [cong _ _ _ e, ← hl]
  exact key _
theorem getItem_tuple_back {t sl : Addr} {items : Array Value} {k : Tok} {Q : Value → Shared → Prop} (ht : IsTup s.heap t items) (hs : s.heap.IsSliceOf sl .none .none (.int (-1) k))
    (h : Q (.ref s.heap.objs.size) { s with heap := s.heap.push { cls := .type "tuple", data := .seq items.toList.reverse.toArray } })
    (hsz : items.size ≤ sizeLine) : wpAny (model prog w) A (getItem (.ref t) (.ref sl)) Q E s := by
  have hrev : sizeOk (.seq items.toList.reverse.toArray) := by
    show items.toList.reverse.toArray.size ≤ sizeLine
    simpa using hsz
  obtain ⟨os, hos, hcs, hds⟩ := id hs
  have hTs : s.TypeIs (.ref sl) "slice" := ⟨os, hos, hcs⟩
  unfold getItem
  try with_reducible refine wpAny_holding ?_
  first | refine wpAny_bind (wpAny_pure ?_) | skip
  refine wpAny_bind (wpAny_sequenceKey ht.typeIs (by decide) ?_)
  refine wpAny_bind (wpAny_callSpecial?_slot (name := Str.ofString "__getitem__") ht.typeIs PyProof.Rows.slot_tuple_getitem
    (wpAny_call_entry PyProof.Rows.slot_tuple_getitem ht.typeIs entry_tuple_getitem ?_ (args_tuple_getitem _ _)))
  show wpAny _ _ (Builtin.Tuple.tupleItemsOf (.ref t) >>= _) _ _ s
  refine wpAny_bind (tupleItemsOf_ ht ?_)
  refine wpAny_bind (wpAny_typeOf hTs ?_)
  rw [if_pos (by decide)]
  refine wpAny_bind (applied_back hs ?_)
  have hno : ¬ (((((items.size : Int) - 1) == 0) && ((-1 : Int) == 1) && (items.size == items.size)) = true) := by
    have : ((-1 : Int) == 1) = false := by decide
    rw [this]; simp
  show wpAny _ _ (if ((((items.size : Int) - 1) == 0) && ((-1 : Int) == 1) && (items.size == items.size)) = true then _ else _) _ _ s
  rw [if_neg hno, pick_back]
  first
    | exact wpAny_bind (m := Builtin.Tuple.tupleExact _) (wpAny_newObj_type (wpAny_pure ⟨_, rfl, wpAny_pure h⟩) hrev)
    | exact wpAny_bind (m := Builtin.Tuple.tupleExact _) (wpAny_newObj_type (wpAny_bind (wpAny_pure (wpAny_pure ⟨_, rfl, wpAny_pure h⟩))) hrev)
    | exact wpAny_bind (wpAny_bind (m := Builtin.Tuple.tupleExact _) (wpAny_newObj_type (wpAny_pure (wpAny_pure ⟨_, rfl, wpAny_pure h⟩)) hrev))
    | exact wpAny_bind (wpAny_bind (m := Builtin.Tuple.tupleExact _) (wpAny_newObj_type (wpAny_pure ⟨_, rfl, wpAny_pure h⟩) hrev))
end
end HT
namespace L2
open PySem PySem.Spec PyProof.Rows
theorem Vals.rev {xs : List V} {us : List Value} (h : Vals xs us) : Vals xs.reverse us.reverse := by
  induction h with
  | nil => exact .nil
  | cons r t ih =>
    rw [List.reverse_cons, List.reverse_cons]
    exact ih.append (.cons r .nil)
section
variable {X : Cx}
def tRev (K : PySem.W.Frag) (te : TE) : TE := fun σ H Q => te σ H fun x H1 => ∃ a xs, x = .ref a ∧ SqT K H1 a xs ∧ ∀ p, H1 p = none → Q (.ref p) (upd H1 p (.tup xs.reverse))
theorem pe_rev {e : Expr} {te : TE} {j : Nat} {p p' p2 pos : Pos} (he : PE X e te) : PE X (.Subscript e (.Slice none none (some (.UnaryOp .USub (.Constant (.int 1) j p) p')) p2) pos) (tRev X.K te) := by
  intro pins s σ H Q I h
  refine Subscript_ (thn (he pins s σ H _ I h) fun v s1 ⟨x, H1, I1, r1, q1⟩ => ?_)
  obtain ⟨a, xs, rfl, hx, q⟩ := q1
  cases r1
  refine wpAny_Slice ?_
  rw [evalPart_none]
  refine wpAny_pure ?_
  refine wpAny_pure ?_
  have hm : PO X (some (.UnaryOp .USub (.Constant (.int 1) j p) p')) (tPart (tUn (fun x H Q => ∃ i, x = .int i ∧ Q (.int (-i)) H) (tC (.int 1)))) := po_some (pe_un un_neg pe_int)
  refine thn (hm pins s1 σ H1 (fun o H' => o = some (-1) ∧ H' = H1) I1 ?_) fun vs s2 ⟨o, H2, I2, po, eo, eH⟩ => ?_
  · exact ⟨_, rfl, -1, rfl, rfl, rfl⟩
  subst eo eH
  cases po with
  | int i t =>
    have I3 : Inv X pins σ H2 { s2 with heap := s2.heap.push { cls := .type "slice", data := .fields #[.none, .none, .int (-1) t] } } := I2.kept (t' := s2.toks) fun b ob q => Heap.get?_push_of_some _ q
    obtain ⟨its, r, ht, hz⟩ := I3.tuple hx
    have hlen : its.toArray.size = xs.length := by rw [List.size_toArray]; exact r.length.symm
    refine tail_any (ops := [.ref a, .ref s2.heap.objs.size]) (T := "tuple") ht.typeIs PyProof.Rows.slot_tuple_getitem.lookup ?_ (by with_unfolding_all rfl)
    refine HT.getItem_tuple_back ht (Heap.IsSliceOf.new ..) ?_ (by rw [hlen]; exact hz)
    refine ⟨.ref _, _, I3.laid (t' := s2.toks) (o := .tup xs.reverse) (fun b ob q => Heap.get?_push_of_some _ q) (Nat.le_refl _) ?_, rfl, q _ (I3.hok.fresh (Nat.le_refl _))⟩
    exact ⟨by simpa using hz, _, r.rev, IsTupN.new _ _⟩
def tOrS (ta tb : TE) : TE := fun σ H Q => ta σ H fun x H1 => ∃ z, x = .str z ∧ z.length ≤ sizeLine ∧ if ((z.length : Int) != 0) = true then Q (.str z) H1 else tb σ H1 Q
theorem pe_orS {a b : Expr} {ta tb : TE} {pos : Pos} (ha : PE X a ta) (hb : PE X (.BoolOp .Or [b] pos) tb) : PE X (.BoolOp .Or [a, b] pos) (tOrS ta tb) := by
  intro pins s σ H Q I h
  refine BoolOp_or (thn (ha pins s σ H _ I h) fun v s1 ⟨x, H1, I1, r1, q1⟩ => ?_)
  obtain ⟨z, rfl, q1⟩ := q1
  obtain ⟨t, rfl⟩ := r1
  obtain ⟨hz, q1⟩ := q1
  refine PySem.P.truthy_str (by rw [sizeLine_eq] at hz; omega) ?_
  cases hc : ((z.length : Int) != 0) with
  | false => rw [hc] at q1; exact hb pins _ σ H1 Q (I1.tok _) (by simpa using q1)
  | true => rw [hc] at q1; exact ⟨.str z, H1, I1.tok _, ⟨_, rfl⟩, by simpa using q1⟩
def rRstrip : V → List V → Hp → VK → Prop := fun x vs H Q => ∃ z y, x = .str z ∧ vs = [.str y] ∧ z.length ≤ sizeLine ∧ Q (.str (Txt.rstripChars z y)) H
theorem mt_rstrip : MtM X "str.rstrip" rRstrip := by
  intro pins s σ H x vs v us Q I rx rv h
  obtain ⟨z, y, rfl, rfl, hz, q⟩ := h
  obtain ⟨t, rfl⟩ := rx
  obtain ⟨u, rfl, ru⟩ := rv.one
  obtain ⟨t', rfl⟩ := ru
  exact PySem.SC.rstripChars (fun t' k => ⟨.str _, H, I.tok _, ⟨_, rfl⟩, q⟩) hz
end
theorem sIx_nat (n d : Nat) (k : Nat) : HT.sIx n d (some (k : Int)) = min k n := by
  show (if ((k : Int)) < 0 then (((k : Int)) + (n : Int)).toNat else min ((k : Int)).toNat n) = _
  rw [if_neg (by omega)]
  simp
theorem cut_to (xs : List V) (k : Nat) : cutV xs none (some (k : Int)) = xs.take k := by
  unfold cutV
  rw [sIx_nat]
  show (xs.drop 0).take (min k xs.length - 0) = _
  rw [List.drop_zero, Nat.sub_zero]
  by_cases h : k ≤ xs.length
  · rw [Nat.min_eq_left h]
  · rw [Nat.min_eq_right (by omega), List.take_length, List.take_of_length_le (by omega)]
theorem cut_from (xs : List V) (k : Nat) : cutV xs (some (k : Int)) none = xs.drop k := by
  unfold cutV
  rw [sIx_nat]
  show (xs.drop (min k xs.length)).take (xs.length - min k xs.length) = _
  rw [List.take_of_length_le (by rw [List.length_drop]; exact Nat.le_refl _)]
  by_cases h : k ≤ xs.length
  · rw [Nat.min_eq_left h]
  · rw [Nat.min_eq_right (by omega), List.drop_length, List.drop_of_length_le (by omega)]
end L2
namespace L2
open PySem PySem.Spec PyProof.Rows
section
variable {X : Cx}
theorem boot_enumerate : bootBuiltins (Str.ofString "enumerate") = some (Value.type "enumerate") := by decide +kernel
variable {e : Expr} {es : List Expr} {te : TE} {t : TA} {tg : Expr}
end
end L2
namespace L2
open PySem PySem.Spec PyProof.Rows
section
variable {X : Cx}
theorem ps_compF {ix : Nat} {yn : Str} {py spos : Pos} {elt iter target : Expr} {ifs : List Expr} {xs ys : List Str} {js : List Nat} {pos : Pos} {scope : Scope} {wi : TI} {g : TG} {tt : TT} {te : TE} (hc : X.calm = true)
    (hfree : ∀ nk ∈ scope.names, nk.2 = .free → nk.1 ∈ ys) (hcell : ∀ nk ∈ scope.names, nk.2 ≠ .cell) (hkind : scope.kind = .function)
    (hnames : ∀ nk ∈ scope.names, nk.2 = .local → scope.names.lookup nk.1 = some .local) (hfo : FreeOk X scope ys js)
    (hi : PI X target iter wi) (hg : ∀ cl C s H fp, PG (cxCF X scope cl (xs ++ ys) C s H fp) target g) (ht : ∀ cl C s H fp, PTs (cxCF X scope cl (xs ++ ys) C s H fp) ifs tt)
    (he : ∀ cl C s H fp, PE (cxCF X scope cl (xs ++ ys) C s H fp) elt te)
    (hN : X.N.Nodup) (hix : X.N[ix]? = some yn) (hyn : Loc X.env.scope yn)
    (hs : ∀ v, foldedSetIterable iter X.env v = pure v := by intro _; rfl) (hsw : swapsWith (.ListComp elt [⟨target, iter, ifs, 0⟩] scope pos) (some (.Name yn py)) spos.line X.env = pure true := by rfl)
    (hf : X.fn yn = true ∨ X.env.scope.names.lookup yn = some .local := by first | exact .inl rfl | exact .inr rfl | assumption) :
    PS X (.Assign [.Name yn py] (.ListComp elt [⟨target, iter, ifs, 0⟩] scope pos) spos) (tAsg (tCompF wi g xs.length js tt te) (gName ix)) := by
  intro pins s σ H D0 I h
  obtain ⟨Q, hQ⟩ : ∃ Q : VK, Q = fun x H1 => gName ix x σ H1 D0.nx := ⟨_, rfl⟩
  have h : tCompF wi g xs.length js tt te σ H Q := by rw [hQ]; exact h
  obtain ⟨ylen, yat⟩ := hfo.at
  have hkd : ∀ nk ∈ scope.names, nk.2 = .free → X.env.kindOf nk.1 = some .cell ∨ X.env.kindOf nk.1 = some .free := fun nk hnk hf => by
    obtain ⟨k, hk, e⟩ := List.mem_iff_getElem.mp (hfree nk hnk hf)
    obtain ⟨_, _, _, hk2, _⟩ := yat k nk.1 (by rw [List.getElem?_eq_getElem hk, e])
    exact hk2
  obtain ⟨cl, hclos, hsub, hhas⟩ := closure_of (scope := scope) (env := X.env) fun nk hnk hf => I.ok.has _ (hkd nk hnk hf)
  rw [exec_Assign_Name_used _ _ _ _ hsw]
  refine wpAny_bind (wpAny_standAt (wpAny_bind ?_))
  show wpAny _ X.A (do let _ ← comprehension (.ListComp elt [⟨target, iter, ifs, 0⟩] scope pos) scope X.env _ (newList []) false (eval iter X.env) (some (assign (.Name yn py) X.env))) _ _ s
  refine wpAny_bind (wpAny_mono (wpAny_comprehension_free (use := some (assign (.Name yn py) X.env)) (Q := fun _ s' => SP X pins D0 .next s') rfl hs hclos hkind hnames (thn (hi pins s σ H _ I h) fun v s1 h1 => thn h1 fun itv s2 h2 => ?_)) (fun _ s' hq => wpAny_pure (wpAny_pure hq)) fun _ _ e => e)
  obtain ⟨it, fp, tn, J, H2, e, I2, T, st2, f2, hR⟩ := h2
  subst e
  have hD0 : H2 s2.heap.objs.size = none := I2.fresh
  obtain ⟨W, ⟨m0, w0⟩, turnW⟩ := hR _ hD0
  have I3 : Inv X pins σ (upd H2 s2.heap.objs.size (.lst [])) { s2 with heap := s2.heap.push { cls := .type "list", data := .seq ([] : List Value).toArray } } := I2.lnew (t' := s2.toks) .nil (Nat.zero_le _)
  refine wpAny_newObj_type (wpAny_newFunctionEnv hcell (fun nk hnk => by simp at hnk) (fun h₁ hns₁ hsb₁ => ?_) hkind)
  dsimp only at hns₁ hsb₁ ⊢
  generalize hs3 : ({ s2 with heap := s2.heap.push { cls := .type "list", data := .seq ([] : List Value).toArray } } : Shared) = s3 at I3
  have eh3 : s3.heap = s2.heap.push { cls := .type "list", data := .seq ([] : List Value).toArray } := by rw [← hs3]
  have hC : s3.heap.objs.size = s2.heap.objs.size + 1 := by rw [eh3, Heap.size_push]
  have old : ∀ b o, s3.heap.get? b = some o → h₁.get? b = some o := fun b o e => by
    have hb : b ≠ s3.heap.objs.size := Nat.ne_of_lt (Heap.lt_size e)
    rw [eh3] at e hb
    exact hsb₁.extBut b o hb (Heap.get?_push_of_some _ e)
  have fpl : ∀ b ∈ fp, b < s2.heap.objs.size := fun b hb => let ⟨o, e, _⟩ := T.obj _ _ st2 b hb; Heap.lt_size e
  have fps : ∀ b ∈ fp, b ∉ frs X.stack := fun b hb z => (List.mem_cons.mp (I2.stkSub b z)).elim (f2 b hb).2.1 (f2 b hb).2.2.1
  have fpc : ∀ b ∈ fp, ∀ y c, cl.lookup y = some c → c ≠ b := fun b hb y c e => (f2 b hb).2.2.2.2.1 y c (hsub y c e)
  have cne : ∀ y c, cl.lookup y = some c → c ≠ s3.heap.objs.size := fun y c e z => by
    obtain ⟨v, q⟩ := I3.cell y c (hsub y c e)
    exact absurd q.lt (by rw [z]; exact Nat.lt_irrefl _)
  let X' : Cx := cxCF X scope cl (xs ++ ys) s3.heap.objs.size s3 (upd H2 s2.heap.objs.size (.lst [])) fp
  have okX : X'.Ok := by
    refine ⟨I2.ok.mod, hkind, I2.ok.glob, I2.ok.blt, Nat.le_refl _, fun y z c e1 e2 => I2.ok.inj y z c (hsub _ _ e1) (hsub _ _ e2), fun y hy => hhas y (relab_inv hcell hy), fun y c z _ => absurd z (by simp [X', cxCF]), I2.ok.hd, I2.ok.frames, .inl rfl, fun b hb => ⟨?_, fun y c e => fpc b hb y c e⟩,
      I3.bs, Nat.le_trans I3.ok.bsz I3.sz, fun b o e hb => ?_, fps, I3.stack, I3.stkFree⟩
    · exact Nat.ne_of_lt (Nat.lt_of_lt_of_le (fpl b hb) (by show s2.heap.objs.size ≤ s3.heap.objs.size; rw [hC]; exact Nat.le_succ _))
    · rcases (f2 b hb).2.2.2.1 with z | z
      · exact I2.ok.noex b o e z
      · exact absurd (Nat.lt_of_lt_of_le (Heap.lt_size (I2.ok.bs b o e).1) z) (Nat.lt_irrefl _)
  have stat : ∀ {H' : Hp}, (∀ b ∈ fp, H' b = none) → ∀ b ∈ fp, FpOk X' [] H' b := fun hn b hb => by
    refine ⟨hn b hb, ?_, fps b hb, .inl hb, fun y c e => fpc b hb y c e, fun p hp => absurd (show p ∈ ([] : List (Addr × Obj)) from hp) (by simp)⟩
    exact Nat.ne_of_lt (Nat.lt_of_lt_of_le (fpl b hb) (by show s2.heap.objs.size ≤ s3.heap.objs.size; rw [hC]; exact Nat.le_succ _))
  have I4 : ∀ tk : Nat, Inv X' [] (List.replicate xs.length none ++ frOf σ js) (upd H2 s2.heap.objs.size (.lst [])) { s3 with heap := h₁, toks := tk } := fun tk => by
    refine ⟨okX, rfl, I3.bare, Un.kept old, ⟨_, by rw [← eh3] at hns₁; exact hns₁, fun i y v e1 e2 _ => ?_⟩, fun y c e => let ⟨v, q⟩ := I3.cell y c (hsub y c e); let ⟨o, q1, q2⟩ := q; ⟨v, o, old c o q1, q2⟩, I3.hok.fresh (Nat.le_refl _), fun y c e => I3.freeC y c (hsub y c e), fun p hp => absurd (show p ∈ ([] : List (Addr × Obj)) from hp) (by simp), I3.hok.kept old, by simp [X', cxCF, frOf, ylen]⟩
    by_cases hlt : i < xs.length
    · rw [List.getElem?_append_left (by simpa using hlt), List.getElem?_replicate, if_pos hlt] at e2
      cases e2
    · have hge : xs.length ≤ i := Nat.le_of_not_lt hlt
      have e1' : (xs ++ ys)[i]? = some y := e1
      rw [List.getElem?_append_right hge] at e1'
      rw [List.getElem?_append_right (by simpa using hge), List.length_replicate] at e2
      obtain ⟨j, hj, hN, hk, hfr⟩ := yat _ y e1'
      have e3 : (σ[j]?).join = some v := by
        unfold frOf at e2
        rw [List.getElem?_map, hj] at e2
        exact Option.some.inj e2
      have e4 : σ[j]? = some (some v) := by
        cases q : σ[j]? with
        | none => rw [q] at e3; cases e3
        | some w => rw [q] at e3; have : w = some v := e3; rw [this]
      obtain ⟨m3, _, hl3⟩ := I3.loc
      obtain ⟨u, ru, lk⟩ := hl3 j y v hN e4 (by rcases hk with z | z; exact .inr (.inl z); exact .inr (.inr z))
      refine ⟨u, ru, .inr ⟨relab_free hfr, ?_⟩⟩
      rcases lk with ⟨z, _⟩ | ⟨_, c, hc1, hc2⟩
      · rcases hk with z2 | z2 <;> rw [z] at z2 <;> cases z2
      · obtain ⟨c', hc'⟩ := hhas y hfr
        have : c' = c := by have := hsub y c' hc'; rw [hc1] at this; exact (Option.some.inj this).symm
        subst this
        obtain ⟨o, q1, q2⟩ := hc2
        exact ⟨c', hc', o, old c' o q1, q2⟩
  have fr0 : ∀ b ∈ fp, (upd H2 s2.heap.objs.size (.lst []) : Hp) b = none := fun b hb => by rw [upd_ne (Nat.ne_of_lt (fpl b hb))]; exact (f2 b hb).1
  have st4 : tn 0 h₁ := T.keep 0 _ _ st2 fun b hb o e => old b o (by rw [eh3]; exact Heap.get?_push_of_some _ e)
  have fin : ∀ {σ5 : St} {H' : Hp} {s5 : Shared} {h' : Heap}, Inv X' [] σ5 H' s5 → Heap.SameBut s3.heap.objs.size s5.heap h' → Inv X pins σ H' { s5 with heap := h' } := by
    intro σ5 H' s5 h' I5 sb
    obtain ⟨hh, gg, d, t, os'⟩ := s5
    have eo : os' = s3.os := I5.os
    subst eo
    have keepC : ∀ b o, b ≠ s3.heap.objs.size → hh.get? b = some o → h'.get? b = some o := fun b o hb e => sb.extBut b o hb e
    have ne3 : ∀ b o, s3.heap.get? b = some o → b ≠ s3.heap.objs.size := fun b o e => Nat.ne_of_lt (Heap.lt_size e)
    have u : Un (frs X.stack) fp (upd H2 s2.heap.objs.size (.lst [])) H' s3.heap hh := I5.base
    have un : Un (frs X.stack) fp (upd H2 s2.heap.objs.size (.lst [])) H' s3.heap h' :=
      ⟨fun b o e n hb hx => keepC b o (ne3 b o e) (u.keep b o e n hb hx), fun b o e n hb hx => let ⟨sl, q⟩ := u.slot b o e n hb hx; ⟨sl, keepC b _ (ne3 b o e) q⟩, u.free, fun b o e hx => let ⟨o', q⟩ := u.there b o e hx; ⟨o', keepC b o' (ne3 b o e) q⟩, u.tups, u.frzs, u.tbls⟩
    have hfree' : H' s3.heap.objs.size = none := I5.free
    have hok' : HOk X.prog X.w H' h' := fun b u e => by
      refine (I5.hok b u e).stay (fun c v hc q => keepC c v ?_ q) (fun _ q => q) fun _ _ q => q
      rcases hc with z | z
      · rw [z]; intro z2; rw [z2, hfree'] at e; cases e
      · intro z2; rw [z2, hfree'] at z; cases z
    have J := I3.call (h' := h') (g' := gg) (d' := d) (t' := t) (ch := fp) un hok' I5.bare (fun b hb => let ⟨_, h1, _, h2, h3, h4⟩ := f2 b hb; ⟨h2, h1, h3, h4⟩)
    exact J
  have loop : ∀ s4 : Shared, (∃ tk, s4 = { s3 with heap := h₁, toks := tk }) →
      codeAny (model X.prog X.w) X.A (.compLoop (.ListComp elt [⟨target, iter, ifs, 0⟩] scope pos) 0 (.ref it) (.ref s2.heap.objs.size) X'.env)
        (compPost (model X.prog X.w) X.A X.xe (some (assign (.Name yn py) X.env)) (fun _ s' => SP X pins D0 .next s') (.ref s2.heap.objs.size) s3.heap.objs.size) s4 := by
    rintro s4 ⟨tk, rfl⟩
    refine comp_turns (fun n s' => ∃ i ys' pre H', Inv X' [] (pre ++ frOf σ js) H' s' ∧ pre.length = xs.length ∧ tn i s'.heap ∧ (∀ b ∈ fp, H' b = none) ∧ W i n ys' H') ?_ m0 ⟨0, [], List.replicate xs.length none, _, I4 tk, by simp, st4, fr0, w0⟩
    rintro n s5 ⟨i, ys', pre, H5, I5, hpre, st5, fr5, w5⟩
    obtain ⟨hD5, ⟨js5, q⟩ | ⟨jg, step⟩⟩ := turnW i n ys' H5 w5
    · refine wpAny_mono (T.done X' rfl rfl rfl hc i [] s5 _ H5 (fun _ _ => False) I5 (stat fr5) st5 js5) (fun r s6 hr => ?_) fun _ _ z => z.elim
      obtain ⟨rfl, I6⟩ := hr
      obtain ⟨m, hn, _⟩ := I6.loc
      have J6 : Inv X pins σ H5 s6 := fin I6 (Heap.SameBut.refl _ _)
      have fpC : FpOk X pins H5 s3.heap.objs.size := I3.fpOk (Nat.le_refl _) I6.free
      obtain ⟨oC, esC, epC, goC, gdC, restC⟩ := id hn
      have J7 := J6.pinned (fp := [s3.heap.objs.size]) (fun b hb => by rw [List.mem_singleton.mp hb]; exact fpC) (fun b hb => by rw [List.mem_singleton.mp hb]; exact ⟨oC, goC, fun v z => by rw [gdC] at z; cases z⟩)
      show wpAny _ X.A (assign (.Name yn py) X.env (.ref s2.heap.objs.size)) _ _ s6
      refine wpAny_mono (pg_name (X := X) (pos := py) (i := ix) hN hix hyn hf _ s6 σ H5 (.ref s2.heap.objs.size) (.ref s2.heap.objs.size) (fun σ' H'' => σ' = σ.set ix (some (.ref s2.heap.objs.size)) ∧ H'' = H5) J7 rfl ⟨rfl, rfl⟩) (fun _ s7 h7 => ?_) fun _ _ z => z
      obtain ⟨σ7, H7, I7, rfl, rfl⟩ := h7
      have g7 : s7.heap.get? s3.heap.objs.size = some oC := (I7.pin (s3.heap.objs.size, oC) (List.mem_append_right _ (List.mem_append_right _ (mem_pinsAt (List.mem_singleton.mpr rfl) goC)))).1
      refine ⟨m, ⟨oC, esC, epC, g7, gdC, restC⟩, fun h'' sb => ⟨_, _, I7.unpinned.turned (t' := s7.toks) (fun b o hb e => sb.extBut b o hb e) fpC.1 fpC.2.1 fpC.2.2.2.1 fpC.2.2.2.2.1 fpC.2.2.2.2.2, ?_⟩⟩
      rw [hQ] at q
      exact q
    · refine wpAny_mono (T.item X' rfl rfl rfl hc i [] s5 _ H5 (fun _ _ => False) I5 (stat fr5) st5 jg) (fun r s6 hr => ?_) fun _ _ z => z.elim
      obtain ⟨u, rfl, h6⟩ := hr
      refine wpAny_mono h6 (fun _ s7 h7 => ?_) fun _ _ z => z.elim
      obtain ⟨xv, H7, I7, r7, y7, st7, fr7⟩ := h7
      have I7' := I7.pinned (stat fr7) (T.obj _ _ st7)
      refine wpAny_mono (hg cl s3.heap.objs.size s3 (upd H2 s2.heap.objs.size (.lst [])) fp _ s7 _ H7 xv u _ I7' r7 (step xv H7 y7 pre hpre)) (fun _ s8 h8 => ?_) fun _ _ z => z.elim
      obtain ⟨σ8, H8, I8, ⟨pre', hpre', e8⟩, q8⟩ := h8
      subst e8
      refine wpAny_mono (ht cl s3.heap.objs.size s3 (upd H2 s2.heap.objs.size (.lst [])) fp _ s8 _ H8 _ I8 q8) (fun ok s9 h9 => ?_) fun _ _ z => z.elim
      obtain ⟨H9, I9, q9⟩ := h9
      have stay : ∀ {H' : Hp} {s' : Shared}, Inv X' ([] ++ pinsAt fp s7.heap) (pre' ++ frOf σ js) H' s' → tn (i + 1) s'.heap ∧ ∀ b ∈ fp, H' b = none := fun {H' s'} I' => by
        refine ⟨T.keep _ _ _ st7 fun b hb o e => (I'.pin (b, o) (List.mem_append_right _ (List.mem_append_right _ (mem_pinsAt hb e)))).1, fun b hb => ?_⟩
        obtain ⟨o, e, d⟩ := T.obj _ _ st7 b hb
        exact (I'.pin (b, o) (List.mem_append_right _ (List.mem_append_right _ (mem_pinsAt hb e)))).2.1
      cases ok with
      | false =>
        obtain ⟨m', lt, w9⟩ := (show ∃ m', m' < n ∧ W (i + 1) m' ys' H9 by simpa using q9)
        obtain ⟨k1, k2⟩ := stay I9
        exact ⟨m', lt, i + 1, ys', pre', H9, I9.unpinned, hpre', k1, k2, w9⟩
      | true =>
        have q9' : te (pre' ++ frOf σ js) H9 (fun y H6 => H6 s2.heap.objs.size = some (.lst ys') ∧ ys'.length < sizeLine ∧ ∃ m', m' < n ∧ W (i + 1) m' (ys' ++ [y]) (upd H6 s2.heap.objs.size (.lst (ys' ++ [y])))) := by simpa using q9
        refine wpAny_mono (he cl s3.heap.objs.size s3 (upd H2 s2.heap.objs.size (.lst [])) fp _ s9 _ H9 _ I9 q9') (fun y s10 h10 => ?_) fun _ _ z => z.elim
        obtain ⟨yv, H10, I10, r10, hD10, hl10, m', lt, w10⟩ := h10
        refine wpAny_mono (mt_append (X := X') _ s10 _ H10 (.ref s2.heap.objs.size) [yv] (.ref s2.heap.objs.size) [y] (fun _ H' => H' = upd H10 s2.heap.objs.size (.lst (ys' ++ [yv]))) I10 rfl (.cons r10 .nil) ⟨_, ys', yv, rfl, rfl, hD10, hl10, rfl⟩) (fun _ s11 h11 => ?_) fun _ _ z => z.elim
        obtain ⟨_, H11, I11, _, rfl⟩ := h11
        obtain ⟨k1, k2⟩ := stay I11
        exact ⟨m', lt, i + 1, ys' ++ [yv], pre', _, I11.unpinned, hpre', k1, k2, w10⟩
  have L := loop { s3 with heap := h₁, toks := s2.toks + ([] : List (Str × Value)).length } ⟨_, rfl⟩
  subst hs3
  exact codeAny_compStart_list L (T.self _ 0 _ _ _ st4 L)
end
end L2
namespace L2
open PySem PySem.Spec PyProof.Rows
inductive Dat where
  | non
  | int (i : Int)
  | str (x : Str)
  | tup (ds : List Dat)
mutual
def Dat.beq : Dat → Dat → Bool
  | .non, .non => true
  | .int i, .int j => i == j
  | .str x, .str y => x == y
  | .tup ds, .tup es => Dat.beqs ds es
  | _, _ => false
def Dat.beqs : List Dat → List Dat → Bool
  | [], [] => true
  | d :: ds, e :: es => Dat.beq d e && Dat.beqs ds es
  | _, _ => false
end
mutual
def Dat.deep : Dat → Nat
  | .tup ds => Dat.deeps ds + 1
  | _ => 0
def Dat.deeps : List Dat → Nat
  | [] => 0
  | d :: ds => max (Dat.deep d) (Dat.deeps ds)
end
mutual
def IsDat (K : PySem.W.Frag) (H : Hp) : Dat → V → Prop
  | .non, x => x = .non
  | .int i, x => x = .int i
  | .str z, x => x = .str z
  | .tup ds, x => ∃ a xs, x = .ref a ∧ SqT K H a xs ∧ AreDat K H ds xs
def AreDat (K : PySem.W.Frag) (H : Hp) : List Dat → List V → Prop
  | [], xs => xs = []
  | d :: ds, xs => ∃ y ys, xs = y :: ys ∧ IsDat K H d y ∧ AreDat K H ds ys
end
mutual
theorem IsDat.same {K : PySem.W.Frag} {H H' : Hp} (s : Same H H') : ∀ {d : Dat} {x : V}, IsDat K H d x → IsDat K H' d x
  | .non, _, h => h
  | .int _, _, h => h
  | .str _, _, h => h
  | .tup _, _, ⟨a, xs, e, hq, hs⟩ => ⟨a, xs, e, s.tup hq, AreDat.same s hs⟩
theorem AreDat.same {K : PySem.W.Frag} {H H' : Hp} (s : Same H H') : ∀ {ds : List Dat} {xs : List V}, AreDat K H ds xs → AreDat K H' ds xs
  | [], _, h => h
  | _ :: _, _, ⟨y, ys, e, h1, h2⟩ => ⟨y, ys, e, IsDat.same s h1, AreDat.same s h2⟩
end
theorem AreDat.length {K : PySem.W.Frag} {H : Hp} : ∀ {ds : List Dat} {xs : List V}, AreDat K H ds xs → xs.length = ds.length
  | [], _, h => by rw [show _ = [] from h]; rfl
  | _ :: _, _, ⟨y, ys, e, _, h2⟩ => by rw [e, List.length_cons, List.length_cons, AreDat.length h2]
theorem AreDat.get {K : PySem.W.Frag} {H : Hp} : ∀ {ds : List Dat} {xs : List V} {j : Nat} {d : Dat}, AreDat K H ds xs → ds[j]? = some d → ∃ x, xs[j]? = some x ∧ IsDat K H d x
  | [], _, _, _, _, e => by simp at e
  | d :: ds, _, j, d', ⟨y, ys, e, h1, h2⟩, he => by
    subst e
    cases j with
    | zero => simp at he; subst he; exact ⟨y, rfl, h1⟩
    | succ j => simpa using AreDat.get h2 (by simpa using he)
theorem deep_at : ∀ {ds : List Dat} {d : Dat}, d ∈ ds → Dat.deep d ≤ Dat.deeps ds
  | d' :: ds, d, h => by
    show _ ≤ max _ _
    rcases List.mem_cons.mp h with rfl | h
    · exact Nat.le_max_left _ _
    · exact Nat.le_trans (deep_at h) (Nat.le_max_right _ _)
theorem beqs_all : ∀ (ds es : List Dat), Dat.beqs ds es = ((List.range (min ds.length es.length)).all (fun j => Dat.beq (ds.getD j .non) (es.getD j .non)) && ds.length == es.length)
  | [], [] => by simp [Dat.beqs]
  | [], e :: es => by simp [Dat.beqs]
  | d :: ds, [] => by simp [Dat.beqs]
  | d :: ds, e :: es => by
    have ih := beqs_all ds es
    have hm : min (d :: ds).length (e :: es).length = min ds.length es.length + 1 := by simp only [List.length_cons]; omega
    rw [hm, List.range_succ_eq_map, List.all_cons, List.all_map]
    show (Dat.beq d e && Dat.beqs ds es) = _
    rw [ih]
    simp only [List.length_cons, List.getD_cons_zero, Function.comp_def, List.getD_cons_succ, Nat.add_right_cancel_iff, Bool.and_assoc]
    congr 2
    by_cases h : ds.length = es.length <;> simp [h]
mutual
theorem beq_refl : ∀ d : Dat, Dat.beq d d = true
  | .non => rfl
  | .int _ => by simp [Dat.beq]
  | .str _ => by simp [Dat.beq]
  | .tup ds => beqs_refl ds
theorem beqs_refl : ∀ ds : List Dat, Dat.beqs ds ds = true
  | [] => rfl
  | d :: ds => by show (Dat.beq d d && Dat.beqs ds ds) = true; rw [beq_refl d, beqs_refl ds]; rfl
end
end L2
namespace L2
open PySem PySem.Spec PyProof.Rows
section
variable {X : Cx} {pins : List (Addr × Obj)} {σ : St} {H : Hp} {s : Shared}
mutual
theorem dat_det (I : Inv X pins σ H s) : ∀ {d e : Dat} {x : V}, IsDat X.K H d x → IsDat X.K H e x → Dat.beq d e = true
  | .non, .non, _, _, _ => rfl
  | .int i, .int j, _, h1, h2 => by
    have : V.int i = V.int j := (show _ = V.int i from h1).symm.trans h2
    injection this with this
    simp [Dat.beq, this]
  | .str i, .str j, _, h1, h2 => by
    have : V.str i = V.str j := (show _ = V.str i from h1).symm.trans h2
    injection this with this
    simp [Dat.beq, this]
  | .tup ds, .tup es, _, ⟨a, xs, e1, q1, h1⟩, ⟨b, ys, e2, q2, h2⟩ => by
    have e : V.ref a = V.ref b := e1.symm.trans e2
    injection e with e
    subst e
    have := I.tuple_inj q1 q2
    subst this
    exact dats_det I h1 h2
  | .non, .int j, _, h1, h2 => by have : V.non = V.int j := (show _ = V.non from h1).symm.trans h2; cases this
  | .non, .str j, _, h1, h2 => by have : V.non = V.str j := (show _ = V.non from h1).symm.trans h2; cases this
  | .non, .tup es, _, h1, ⟨b, ys, e2, _⟩ => by have : V.non = V.ref b := (show _ = V.non from h1).symm.trans e2; cases this
  | .int i, .non, _, h1, h2 => by have : V.int i = V.non := (show _ = V.int i from h1).symm.trans h2; cases this
  | .int i, .str j, _, h1, h2 => by have : V.int i = V.str j := (show _ = V.int i from h1).symm.trans h2; cases this
  | .int i, .tup es, _, h1, ⟨b, ys, e2, _⟩ => by have : V.int i = V.ref b := (show _ = V.int i from h1).symm.trans e2; cases this
  | .str i, .non, _, h1, h2 => by have : V.str i = V.non := (show _ = V.str i from h1).symm.trans h2; cases this
  | .str i, .int j, _, h1, h2 => by have : V.str i = V.int j := (show _ = V.str i from h1).symm.trans h2; cases this
  | .str i, .tup es, _, h1, ⟨b, ys, e2, _⟩ => by have : V.str i = V.ref b := (show _ = V.str i from h1).symm.trans e2; cases this
  | .tup ds, .non, _, ⟨a, xs, e1, _⟩, h2 => by have : V.ref a = V.non := e1.symm.trans h2; cases this
  | .tup ds, .int j, _, ⟨a, xs, e1, _⟩, h2 => by have : V.ref a = V.int j := e1.symm.trans h2; cases this
  | .tup ds, .str j, _, ⟨a, xs, e1, _⟩, h2 => by have : V.ref a = V.str j := e1.symm.trans h2; cases this
theorem dats_det (I : Inv X pins σ H s) : ∀ {ds es : List Dat} {xs : List V}, AreDat X.K H ds xs → AreDat X.K H es xs → Dat.beqs ds es = true
  | [], [], _, _, _ => rfl
  | [], e :: es, _, h1, ⟨y, ys, e2, _⟩ => by have : ([] : List V) = y :: ys := (show _ = [] from h1).symm.trans e2; cases this
  | d :: ds, [], _, ⟨y, ys, e1, _⟩, h2 => by have : y :: ys = ([] : List V) := e1.symm.trans h2; cases this
  | d :: ds, e :: es, _, ⟨y, ys, e1, a1, b1⟩, ⟨z, zs, e2, a2, b2⟩ => by
    have e' : y :: ys = z :: zs := e1.symm.trans e2
    injection e' with h1 h2
    subst h1 h2
    show (Dat.beq d e && Dat.beqs ds es) = true
    rw [dat_det I a1 a2, dats_det I b1 b2]
    rfl
end
end
end L2
namespace L2
open PySem PySem.Spec PyProof.Rows
section
variable {X : Cx} {pins : List (Addr × Obj)} {σ : St} {H : Hp} {s : Shared}
theorem dat_at {A : Around} {ds : List Dat} {xs : List V} {its : List Value} {j : Nat} (h : AreDat X.K H ds xs) (r : Vals xs its) (hj : j < its.toArray.size) :
    ∃ x, IsDat X.K H (ds.getD j .non) x ∧ RelV x its.toArray[j] ∧ ds.getD j .non ∈ ds := by
  have hl := h.length
  have hr := r.length
  have hj' : j < its.length := by simpa using hj
  have hd : j < ds.length := by omega
  have e : ds[j]? = some (ds.getD j .non) := by rw [List.getD_eq_getElem?_getD, List.getElem?_eq_getElem hd]; rfl
  obtain ⟨x, hx, hi⟩ := h.get e
  obtain ⟨u, hu, ru⟩ := r.get hx
  refine ⟨x, hi, ?_, List.mem_of_getElem? e⟩
  have : its.toArray[j] = u := by
    rw [List.getElem?_eq_getElem hj'] at hu
    have := Option.some.inj hu
    simpa using this
  rw [this]
  exact ru
theorem dat_eqAt (I : Inv X pins σ H s) : ∀ (n : Nat) (A : Around) {d e : Dat} {x y : V} {u v : Value}, Dat.deep d ≤ n → A.units + n < cLine → IsDat X.K H d x → IsDat X.K H e y → RelV x u → RelV y v → SeqAt.EqAt A s u v (Dat.beq d e) := by
  intro n
  induction n with
  | zero =>
    intro A d e x y u v hn hu hd he rx ry
    cases d with
    | tup ds => exact absurd hn (by simp [Dat.deep])
    | non =>
      cases (show x = .non from hd)
      cases e with
      | non => cases (show y = .non from he); exact eqAt_V rx ry rfl rfl
      | int j => cases (show y = .int j from he); exact eqAt_V rx ry rfl rfl
      | str j => cases (show y = .str j from he); exact eqAt_V rx ry rfl rfl
      | tup es =>
        obtain ⟨b, ys, rfl, q2, _⟩ := he
        obtain ⟨its2, r2, p2, _⟩ := I.tuple q2
        cases rx; cases ry
        exact SeqAt.EqAt.none_tuple p2 (by omega)
    | int i =>
      cases (show x = .int i from hd)
      cases e with
      | non => cases (show y = .non from he); exact eqAt_V rx ry rfl rfl
      | int j => cases (show y = .int j from he); exact eqAt_V rx ry rfl rfl
      | str j => cases (show y = .str j from he); exact eqAt_V rx ry rfl rfl
      | tup es =>
        obtain ⟨b, ys, rfl, q2, _⟩ := he
        obtain ⟨its2, r2, p2, _⟩ := I.tuple q2
        obtain ⟨t, rfl⟩ := rx; cases ry
        exact SeqAt.EqAt.int_tuple i t p2 (by omega)
    | str i =>
      cases (show x = .str i from hd)
      cases e with
      | non => cases (show y = .non from he); exact eqAt_V rx ry rfl rfl
      | int j => cases (show y = .int j from he); exact eqAt_V rx ry rfl rfl
      | str j => cases (show y = .str j from he); exact eqAt_V rx ry rfl rfl
      | tup es =>
        obtain ⟨b, ys, rfl, q2, _⟩ := he
        obtain ⟨its2, r2, p2, _⟩ := I.tuple q2
        obtain ⟨t, rfl⟩ := rx; cases ry
        exact SeqAt.EqAt.str_tuple i t p2 (by omega)
  | succ n ih =>
    intro A d e x y u v hn hu hd he rx ry
    cases d with
    | non => exact ih A (Nat.zero_le _) (by omega) hd he rx ry
    | int i => exact ih A (Nat.zero_le _) (by omega) hd he rx ry
    | str i => exact ih A (Nat.zero_le _) (by omega) hd he rx ry
    | tup ds =>
      obtain ⟨a, xs, rfl, q1, h1⟩ := hd
      obtain ⟨its, r1, p1, _⟩ := I.tuple q1
      cases rx
      cases e with
      | non => cases (show y = .non from he); cases ry; exact SeqAt.EqAt.tuple_none p1 (by omega)
      | int j => cases (show y = .int j from he); obtain ⟨t, rfl⟩ := ry; exact SeqAt.EqAt.tuple_int j t p1 (by omega)
      | str j => cases (show y = .str j from he); obtain ⟨t, rfl⟩ := ry; exact SeqAt.EqAt.tuple_str j t p1 (by omega)
      | tup es =>
        obtain ⟨b, ys, rfl, q2, h2⟩ := he
        obtain ⟨its2, r2, p2, _⟩ := I.tuple q2
        cases ry
        by_cases hab : a = b
        · subst hab
          have := I.tuple_inj q1 q2
          subst this
          have e : Dat.beq (.tup ds) (.tup es) = true := dats_det I h1 h2
          rw [e]
          exact SeqAt.EqAt.same _
        · have l1 := h1.length
          have l2 := h2.length
          have s1 : its.toArray.size = ds.length := by rw [List.size_toArray, ← r1.length, l1]
          have s2 : its2.toArray.size = es.length := by rw [List.size_toArray, ← r2.length, l2]
          have key := SeqAt.RcAt.tuples (e := fun j => Dat.beq (ds.getD j .non) (es.getD j .non)) p1 p2 (by omega : A.units < cLine) fun j j1 j2 => by
            obtain ⟨x', d1, rx', m1⟩ := dat_at (A := A) h1 r1 j1
            obtain ⟨y', d2, ry', _⟩ := dat_at (A := A) h2 r2 j2
            have hdp : Dat.deep (ds.getD j .non) ≤ n := by
              have h3 := deep_at m1
              have h4 : Dat.deeps ds + 1 ≤ n + 1 := hn
              omega
            exact ih A.in1 hdp (by show A.units + 1 + n < cLine; omega) d1 d2 rx' ry'
          rw [s1, s2, ← beqs_all] at key
          exact SeqAt.EqAt.of_refs hab key
end
end L2
namespace HL
open PySem PySem.SeqAt
open AutoSeq1 (wpAny_loadPart')
open MeetsSeq MeetsSeq2 MeetsSeq3
def LtAt (A : Around) (s : Shared) (y x : Value) (b : Bool) : Prop :=
  ∀ (prog : Program) (w : World) (E : Value → Shared → Prop) (Q : Value → Shared → Prop), Q (.bool b) s → wpAny (model prog w) A (richCompare .Lt y x) Q E s
def lexB (e g : Nat → Bool) (fin : Bool) : List Nat → Bool
  | [] => fin
  | j :: r => if e j = true then lexB e g fin r else g j
theorem tuple_ltAt (p q : Addr) (xs ys : Array Value) (n n2 : Nat) (dp dq : Option Addr) (sp sq : Array (Option Value)) (e g : Nat → Bool) :
    Meets (Builtin.«tuple.__lt__» ⟨[.ref p, .ref q], []⟩)
      (fun A R s => s.heap.get? p = some { cls := .type "tuple", dict := dp, data := .seq xs n, slots := sp } ∧ s.heap.get? q = some { cls := .type "tuple", dict := dq, data := .seq ys n2, slots := sq } ∧
        (∀ j (h1 : j < xs.size) (h2 : j < ys.size), EqAt A.in1 s xs[j] ys[j] (e j)) ∧ (∀ j (h1 : j < xs.size) (h2 : j < ys.size), e j = false → LtAt A.in1 s xs[j] ys[j] (g j)) ∧
        R (.ok (.ret (.bool (lexB e g (decide (xs.size < ys.size)) (List.range (min xs.size ys.size)))))) s) :=
  .of_wp fun prog w A R s h => by
    obtain ⟨hp, gs, d, tk, os⟩ := s; obtain ⟨g1, g2, he, hg, h⟩ := h
    have sub := AutoSeq1.sub_tuple_tuple
    have hZ : (xs.toList.zip ys.toList).length = min xs.size ys.size := by simp
    wp_walk using wpAny_loadPart' g1, wpAny_loadPart' g2, wpAny_forIn_list _ (fun rest b s' => b.1 = none ∧ s' = ⟨hp, gs, d, tk, os⟩ ∧ ∃ i, rest = (xs.toList.zip ys.toList).drop i ∧
      R (.ok (.ret (.bool (lexB e g (decide (xs.size < ys.size)) ((List.range (min xs.size ys.size)).drop i))))) ⟨hp, gs, d, tk, os⟩) _
    case turn =>
      rintro ⟨y, x⟩ rest b s' ⟨hb', rfl, i, hz, hR⟩
      have hlt : i < (xs.toList.zip ys.toList).length := Nat.lt_of_not_le fun z => by rw [List.drop_of_length_le z] at hz; cases hz
      have hm : i < min xs.size ys.size := hZ ▸ hlt
      have h1 : i < xs.size := by omega
      have h2 : i < ys.size := by omega
      rw [List.drop_eq_getElem_cons hlt] at hz
      injection hz with hyx hrest
      obtain rfl : y = xs[i] := by simpa using congrArg Prod.fst hyx
      obtain rfl : x = ys[i] := by simpa using congrArg Prod.snd hyx
      have hd : (List.range (min xs.size ys.size)).drop i = i :: (List.range (min xs.size ys.size)).drop (i + 1) := by simp [List.drop_eq_getElem_cons, hm]
      rw [hd] at hR
      have step : lexB e g (decide (xs.size < ys.size)) (i :: (List.range (min xs.size ys.size)).drop (i + 1)) = if e i = true then lexB e g (decide (xs.size < ys.size)) ((List.range (min xs.size ys.size)).drop (i + 1)) else g i := rfl
      rw [step] at hR
      refine wpAny_bind (he i h1 h2 prog w _ _ ?_)
      cases hy : e i with
      | true =>
        rw [hy] at hR
        wp_walk
        exact ⟨rfl, rfl, i + 1, hrest, by simpa using hR⟩
      | false =>
        rw [hy] at hR
        have hg' := hg i h1 h2 hy
        simp only [Bool.not_false, if_true]
        exact wpAny_bind (wpAny_rule (wpAny_bind (hg' prog w _ _ (wpAny_bind (wpAny_pure (wpAny_pure (wpAny_pure ⟨_, rfl, by simpa using hR⟩)))))))
    case fin =>
      rintro ⟨b1, b2⟩ s' ⟨hb', rfl, i, hz, hR⟩
      simp only at hb'
      subst hb'
      have hge : min xs.size ys.size ≤ i := Nat.le_of_not_lt fun z => by
        rw [List.drop_eq_getElem_cons (hZ.symm ▸ z)] at hz; cases hz
      rw [List.drop_of_length_le (by simpa using hge)] at hR
      wp_walk
      exact ⟨_, rfl, by simpa [Builtin.Tuple.tupleCompareSizes, lexB] using hR⟩
    case h =>
      exact ⟨rfl, rfl, 0, rfl, by simpa using h⟩
section
variable {A : Around} {s : Shared}
theorem LtAt.tuples {p q : Addr} {xs ys : Array Value} {e g : Nat → Bool} (hp : s.heap.IsTuple p xs) (hq : s.heap.IsTuple q ys) (hu : A.units < cLine)
    (he : ∀ j (h1 : j < xs.size) (h2 : j < ys.size), EqAt A.in1 s xs[j] ys[j] (e j)) (hg : ∀ j (h1 : j < xs.size) (h2 : j < ys.size), e j = false → LtAt A.in1 s xs[j] ys[j] (g j)) :
    LtAt A s (.ref p) (.ref q) (lexB e g (decide (xs.size < ys.size)) (List.range (min xs.size ys.size))) := fun prog w E Q h => by
  obtain ⟨⟨c1, d1, da1, s1⟩, o1, k1, n1, e1⟩ := id hp
  obtain ⟨⟨c2, d2, da2, s2⟩, o2, k2, n2, e2⟩ := id hq
  simp only at k1 e1 k2 e2
  subst k1 e1 k2 e2
  exact richCompare_meets_room (op := .Lt) ⟨_, o1, rfl⟩ ⟨_, o2, rfl⟩ F.slot_tuple_lt F.entry_tuple_lt (F.args_tuple_lt_2 _ _) (tuple_ltAt p q xs ys n1 n2 d1 d2 s1 s2 e g)
    ⟨o1, o2, he, hg, show Value.bool (lexB e g (decide (xs.size < ys.size)) (List.range (min xs.size ys.size))) ≠ Value.notImplemented ∧ Q _ s from ⟨(fun x => nomatch x), h⟩⟩ hu
theorem LtAt.int (a : Int) (t : Tok) (b : Int) (u : Tok) : LtAt A s (.int a t) (.int b u) (decide (a < b)) := fun _ _ _ _ h => PyProof.Rows.lt_int h
theorem LtAt.str (a : Str) (t : Tok) (b : Str) (u : Tok) : LtAt A s (.str a t) (.str b u) (decide (a.cps.toList < b.cps.toList)) := fun _ _ _ _ h => PyProof.Rows.lt_str h
end
end HL
namespace L2
open PySem PySem.Spec PyProof.Rows HL
mutual
def Dat.lt : Dat → Dat → Bool
  | .int i, .int j => decide (i < j)
  | .str x, .str y => decide (x.cps.toList < y.cps.toList)
  | .tup ds, .tup es => Dat.lts ds es
  | _, _ => false
def Dat.lts : List Dat → List Dat → Bool
  | _, [] => false
  | [], _ :: _ => true
  | d :: ds, e :: es => if Dat.beq d e = true then Dat.lts ds es else Dat.lt d e
end
mutual
def Dat.cmp : Dat → Dat → Bool
  | .int _, .int _ => true
  | .str _, .str _ => true
  | .tup ds, .tup es => Dat.cmps ds es
  | _, _ => false
def Dat.cmps : List Dat → List Dat → Bool
  | _, [] => true
  | [], _ :: _ => true
  | d :: ds, e :: es => Dat.cmp d e && Dat.cmps ds es
end
section
variable {X : Cx} {pins : List (Addr × Obj)} {σ : St} {H : Hp} {s : Shared}
end
end L2
namespace HX
open PySem
def Tb (h : Heap) (e T : Addr) (cls fl : Value) : Prop :=
  ∃ oe vs oT ts, T ≠ e ∧ h.get? e = some oe ∧ oe.cls = cls ∧ oe.data = .fields vs ∧ vs[1]? = some (.ref T) ∧ h.get? T = some oT ∧ oT.data = .fields ts ∧ ts[3]? = some fl
structure Mvd (S ch : List Addr) (h h' : Heap) : Prop where
  size : h.objs.size ≤ h'.objs.size
  keep : ∀ b o, b ∉ S → b ∉ ch → h.get? b = some o → h'.get? b = some o
  slot : ∀ b o, b ∉ ch → h.get? b = some o → ∃ sl, h'.get? b = some { o with slots := sl }
theorem Mvd.trans {S ch ch2 : List Addr} {h h1 h2 : Heap} (x : Mvd S ch h h1) (y : Mvd S ch2 h1 h2) (hs : ∀ b ∈ ch2, b ∈ ch ∨ h.get? b = none) : Mvd S ch h h2 where
  size := Nat.le_trans x.size y.size
  keep := fun b o n1 n2 e => y.keep b o n1 (fun z => (hs b z).elim n2 fun k => by rw [k] at e; cases e) (x.keep b o n1 n2 e)
  slot := fun b o n e => by
    obtain ⟨s1, e1⟩ := x.slot b o n e
    obtain ⟨s2, e2⟩ := y.slot b _ (fun z => (hs b z).elim n fun k => by rw [k] at e; cases e) e1
    exact ⟨s2, e2⟩
section
variable {M : Model} {A : Around} {E : Value → Shared → Prop} {s : Shared} {base : Heap} {env : Env} {outer : List Env} {L e T : Addr} {cls fl : Value}
end
end HX
namespace L2
open PySem PySem.Spec PyProof.Rows
def CXE (P : Program) (w : World) : CXT := fun outer H s E ev s' => ∃ e T cls H', ev = .ref e ∧ HX.Tb s'.heap e T cls .none ∧ s.heap.get? e = none ∧ s.heap.get? T = none ∧ H' e = none ∧ H' T = none ∧
  s'.os = s.os ∧ AllBare s'.gens ∧ Un (frs outer) [] H H' s.heap s'.heap ∧ HOk P w H' s'.heap ∧ E cls none H'
theorem ObjOk.ob {P : Program} {w : World} {H : Hp} {h : Heap} {a : Addr} {o : HO} (x : ObjOk P w H h a o) : ∃ q, h.get? a = some q := by
  cases o with
  | lst xs => obtain ⟨_, _, _, _, e⟩ := x; exact ⟨_, e⟩
  | tup xs => obtain ⟨_, _, _, ⟨o, e, _⟩, _⟩ := x; exact ⟨_, e⟩
  | dK kvs => obtain ⟨_, _, _, _, o, _, _, e, _⟩ := x; exact ⟨_, e⟩
  | dT kvs => obtain ⟨_, _, _, _, o, _, _, e, _⟩ := x; exact ⟨_, e⟩
  | set S n => obtain ⟨o, _, _, _, e, _⟩ := x; exact ⟨_, e⟩
  | ins C dx fs => obtain ⟨_, _, _, e, _⟩ := x; exact ⟨_, e⟩
  | own y => obtain ⟨_, e⟩ := x; exact ⟨_, e⟩
  | xd fs => obtain ⟨_, ⟨_, _, _, e, _⟩, _⟩ := x; exact ⟨_, e⟩
  | rng lo hi => obtain ⟨_, _, _, e⟩ := x; exact ⟨_, e⟩
  | frz ob u => obtain ⟨e, _⟩ := x; exact ⟨_, e⟩
  | tbl ps => exact ⟨_, x⟩
  | met f y => exact ⟨_, x⟩
  | ext φ => obtain ⟨_, ⟨_, e⟩, _⟩ := x; exact ⟨_, e⟩
theorem HOk.no {P : Program} {w : World} {H : Hp} {h : Heap} {a : Addr} (x : HOk P w H h) (e : h.get? a = none) : H a = none := by
  cases q : H a with
  | none => rfl
  | some u => obtain ⟨o, z⟩ := (x a u q).ob; rw [e] at z; cases z
section
variable {P : Program} {w : World} {K : PySem.W.Frag} {mg : Str → Option Value} {base : Heap} {N : List Str} {qual : Str} {scope : Scope} {f : Addr} {cd : Value} {A : Around} {outer : List Env} {s0 : Shared} {H0 : Hp} {E E' : XK}
end
section
variable {X : Cx} {pins : List (Addr × Obj)} {σ : St} {H : Hp} {s : Shared}
end
end L2
namespace L2
open PySem PySem.Spec PyProof.Rows
section
variable {X : Cx}
end
end L2
namespace HZ
open PySem PySem.Builtin
section
variable {prog : Program} {w : World} {A : Around} {E : Value → Shared → Prop} {s : Shared}
theorem turn_item {c p : Addr} {k : Nat} {xs : Array Value} {x : Value} {Q : Value → Shared → Prop} (hc : s.heap.IsTupleIter c p k) (hp : s.heap.IsTuple p xs) (hx : xs[k]? = some x)
    (h : ∀ g, g.IsTupleIter c p (k + 1) → Heap.SameBut c s.heap g → Q x { s with heap := g }) : wpAny (model prog w) A (SmallTypes.nextOf (.ref c)) Q E s := by
  obtain ⟨oc, gc, kc, dc⟩ := id hc
  obtain ⟨op, gp, kp, np, dp⟩ := id hp
  unfold SmallTypes.nextOf
  refine wpAny_bind (wpAny_callSpecial?_slot (name := Str.ofString "__next__") hc.typeIs F.slot_tuple_iterator_next (wpAny_call_entry F.slot_tuple_iterator_next hc.typeIs F.entry_tuple_iterator_next ?_ (F.args_tuple_iterator_next_1 _)))
  show wpAny _ _ (field (.ref c) 0 >>= _) _ _ s
  refine wpAny_bind (wpAny_field gc dc (x := .ref p) rfl ?_)
  rw [if_neg (show ¬ ((Value.ref p == Value.none) = true) by simp)]
  refine wpAny_bind (wpAny_field gc dc (x := .int k 0) rfl ?_)
  refine wpAny_bind (wpAny_seqItems gp dp ?_)
  simp only [Int.toNat_natCast, hx]
  have dd := Obj.data_mapFields dc (·.setIfInBounds 1 (rawInt ((k : Int) + 1)))
  refine wpAny_bind (wpAny_setField gc dc (by simp) (wpAny_pure ⟨x, rfl, wpAny_pure (h _ ⟨_, Heap.get?_update_self _ gc (Obj.isFreed_of_fields dd), (Obj.cls_mapFields ..).trans kc, ?_⟩ (Heap.SameBut.update ..))⟩))
  rw [dd]; simp [rawInt]
theorem turn_end {c p : Addr} {k : Nat} {xs : Array Value} {Q : Value → Shared → Prop} (hh : A.handled = none) (hc : s.heap.IsTupleIter c p k) (hp : s.heap.IsTuple p xs) (hx : xs[k]? = none)
    (h : ∀ g e, Heap.ExtBut c s.heap g → (∃ o, g.get? e = some o ∧ o.cls = .type "StopIteration") → E (.ref e) { s with heap := g }) : wpAny (model prog w) A (SmallTypes.nextOf (.ref c)) Q E s := by
  obtain ⟨oc, gc, kc, dc⟩ := id hc
  obtain ⟨op, gp, kp, np, dp⟩ := id hp
  unfold SmallTypes.nextOf
  refine wpAny_bind (wpAny_callSpecial?_slot (name := Str.ofString "__next__") hc.typeIs F.slot_tuple_iterator_next (wpAny_call_entry F.slot_tuple_iterator_next hc.typeIs F.entry_tuple_iterator_next ?_ (F.args_tuple_iterator_next_1 _)))
  show wpAny _ _ (field (.ref c) 0 >>= _) _ _ s
  refine wpAny_bind (wpAny_field gc dc (x := .ref p) rfl ?_)
  rw [if_neg (show ¬ ((Value.ref p == Value.none) = true) by simp)]
  refine wpAny_bind (wpAny_field gc dc (x := .int k 0) rfl ?_)
  refine wpAny_bind (wpAny_seqItems gp dp ?_)
  simp only [Int.toNat_natCast, hx]
  refine wpAny_bind (wpAny_rule (wpAny_bind (wpAny_setField gc dc (by simp) ?_)))
  obtain ⟨g1, hg1⟩ : ∃ g1, g1 = s.heap.update c (Obj.mapFields (·.setIfInBounds 0 Value.none)) := ⟨_, rfl⟩
  rw [← hg1]
  have k1 : Heap.ExtBut c s.heap g1 := by rw [hg1]; exact (Heap.SameBut.update ..).extBut
  unfold SmallTypes.stopIteration
  refine wpAny_bind ?_
  unfold newExc newTuple
  refine wpAny_bind (wpAny_newObj_type ?_ (by size_fits))
  refine wpAny_bind (m := firstArgMember _ _) (wpAny_of_eq (a := Value.none) (by first | rfl | (simp only [firstArgMember]; rfl)) ?_)
  refine wpAny_newObj_type (wpAny_raiseNew_none hh (h _ _ (fun b o nb q => Heap.get?_push_of_some _ (Heap.get?_push_of_some _ (k1 b o nb q))) ⟨_, Heap.get?_push_size _ rfl, rfl⟩)) (by size_fits)
structure ZS (h : Heap) (z a b c d p q : Addr) (f0 u v : Value) (k : Nat) (xs ys : Array Value) : Prop where
  zip : IsZip h z a b f0
  ti : IsPair h a (.ref c) (.ref d)
  own : IsPair h b u v
  i1 : h.IsTupleIter c p k
  i2 : h.IsTupleIter d q k
  t1 : h.IsTuple p xs
  t2 : h.IsTuple q ys
structure ZD (z a b c d p q : Addr) : Prop where
  zb : z ≠ b
  zc : z ≠ c
  zd : z ≠ d
  bc : b ≠ c
  bd : b ≠ d
  cd : c ≠ d
  a4 : a ≠ z ∧ a ≠ b ∧ a ≠ c ∧ a ≠ d
  p4 : p ≠ z ∧ p ≠ b ∧ p ≠ c ∧ p ≠ d
  q4 : q ≠ z ∧ q ≠ b ∧ q ≠ c ∧ q ≠ d
theorem sb {x : Addr} {h h' : Heap} (m : Heap.SameBut x h h') {b : Addr} {o : Obj} (n : b ≠ x) (e : h.get? b = some o) : h'.get? b = some o := m.extBut b o n e
theorem itAt {h h' : Heap} {c p : Addr} {k : Nat} (i : h.IsTupleIter c p k) (f : ∀ o, h.get? c = some o → h'.get? c = some o) : h'.IsTupleIter c p k := let ⟨o, g, r⟩ := i; ⟨o, f o g, r⟩
theorem tpAt {h h' : Heap} {p : Addr} {xs : Array Value} (i : h.IsTuple p xs) (f : ∀ o, h.get? p = some o → h'.get? p = some o) : h'.IsTuple p xs := let ⟨o, g, r⟩ := i; ⟨o, f o g, r⟩
variable {z a b c d p q : Addr} {u v x y : Value} {k : Nat} {xs ys : Array Value}
theorem zip_stop {Q : PySem.Fin → Shared → Prop} (hh : A.handled = none) (D : ZD z a b c d p q) (S : ZS s.heap z a b c d p q .none u v k xs ys) (hx : xs[k]? = none)
    (h : ∀ g e, (∀ e o, e ≠ z → e ≠ c → s.heap.get? e = some o → g.get? e = some o) → (∃ o, g.get? e = some o ∧ o.cls = .type "StopIteration") → E (.ref e) { s with heap := g }) :
    wpAny (model prog w) A (Builtin.«zip.__next__» ⟨[.ref z], []⟩) Q E s := by
  have gz := S.zip
  show wpAny _ _ (field (.ref z) 2 >>= _) _ _ s
  refine wpAny_bind (wpAny_field gz rfl (x := .bool false) rfl (wpAny_bind (wpAny_field gz rfl (x := .ref a) rfl (wpAny_bind (wpAny_seqItems S.ti rfl ?_)))))
  refine wpAny_bind ?_
  unfold SmallTypes.ownedTupleIsFree
  refine wpAny_bind (wpAny_field gz rfl (x := .none) rfl (wpAny_pure ?_))
  simp only [if_true]
  refine wpAny_bind (wpAny_rule (wpAny_bind (wpAny_field gz rfl (x := .ref b) rfl (wpAny_bind (wpAny_setField_rec gz (by simp) fun g1 z1 m1 => wpAny_bind ?_)))))
  replace z1 : IsZip g1 z a b .ellipsis := z1
  simp only [List.zipIdx_cons, List.zipIdx_nil, List.forIn_cons, List.forIn_nil]
  refine wpAny_bind (wpAny_bind (wpAny_onRaise ?_))
  show wpAny _ _ (SmallTypes.nextOf (.ref c) >>= _) _ _ _
  refine wpAny_bind (turn_end hh (itAt S.i1 fun o e => sb m1 D.zc.symm e) (tpAt S.t1 fun o e => sb m1 D.p4.1 e) hx fun g2 e m2 ⟨oe, ge, ce⟩ => ?_)
  have z2 : IsZip g2 z a b .ellipsis := m2 _ _ D.zc z1
  have ez : e ≠ z := fun y => by subst y; rw [z2] at ge; cases ge; simp at ce
  exact wpAny_setField_rec z2 (by simp) fun g3 _ m3 => h g3 e (fun e o n1 n2 y => sb m3 n1 (m2 _ _ n2 (sb m1 n1 y))) ⟨oe, sb m3 ez ge, ce⟩
theorem next_stop {Q : Option Value → Shared → Prop} (hh : A.handled = none) (D : ZD z a b c d p q) (S : ZS s.heap z a b c d p q .none u v k xs ys) (hx : xs[k]? = none)
    (h : ∀ g, (∀ e o, e ≠ z → e ≠ c → s.heap.get? e = some o → g.get? e = some o) → Q none { s with heap := g }) : wpAny (model prog w) A (pyNext (.ref z)) Q E s := by
  have ty : s.TypeIs (.ref z) "zip" := ⟨_, S.zip, rfl⟩
  unfold pyNext
  refine wpAny_bind (wpAny_attempt (wpAny_callSpecial?_slot (name := Str.ofString "__next__") ty F.slot_zip_next (wpAny_call_entry F.slot_zip_next ty F.entry_zip_next
    (zip_stop hh D S hx fun g e hk ⟨o, ho, hc⟩ => wpAny_bind (wpAny_isInstance (T := "StopIteration") (b := true) ⟨o, ho, hc⟩ isSubtype_stop (wpAny_pure (h _ hk)))) (F.args_zip_next_1 _))))
end
abbrev ti (p : Addr) : Obj := { cls := .type "tuple_iterator", data := .fields #[.ref p, .int 0 0] }
abbrev w1 (h : Heap) (p : Addr) : Heap := h.push (ti p)
abbrev w2 (h : Heap) (p q : Addr) : Heap := (w1 h p).push (ti q)
abbrev w3 (h : Heap) (p q : Addr) : Heap := (w2 h p q).push { cls := .type "tuple", data := .seq #[.ref h.objs.size, .ref (w1 h p).objs.size] }
abbrev w4 (h : Heap) (p q : Addr) : Heap := (w3 h p q).push { cls := .type "tuple", data := .seq #[.none, .none] }
abbrev w5 (h : Heap) (p q : Addr) : Heap := (w4 h p q).push { cls := .type "zip", data := .fields #[.none, .bool false, .bool false, .ref (w2 h p q).objs.size, .ref (w3 h p q).objs.size] }
section
variable {prog : Program} {w : World} {A : Around} {E : Value → Shared → Prop} {s : Shared} {p q : Addr} {xs ys : Array Value}
end
end HZ
namespace L2
open PySem PySem.Spec PyProof.Rows
section
variable {X : Cx} {pins : List (Addr × Obj)} {σ : St} {H : Hp} {s : Shared} {h' : Heap}
end
end L2
namespace HM
open PySem
theorem nofill_t : fillsNumberSlot (.type "tuple") "mul" = pure false :=
  fillsNumberSlot_seq (id := "tuple.__mul__") (r := some (.builtin "tuple.__rmul__")) F.slot_tuple_mul.lookup (by decide +kernel) F.slot_tuple_rmul.lookup (by decide +kernel)
theorem rep_t : seqRepeat? (.type "tuple") = pure (some (.builtin "tuple.__mul__")) := by
  have e1 := seqSlot_of (T := "tuple") (name := "__mul__") (id := "tuple.__mul__") F.slot_tuple_mul.lookup (by decide +kernel)
  have e2 := seqSlot_of (T := "tuple") (name := "__rmul__") (id := "tuple.__rmul__") F.slot_tuple_rmul.lookup (by decide +kernel)
  unfold seqRepeat?
  rw [e1, e2]
  rfl
theorem rmul_t (a : Int) (t : Tok) (l : Addr) (items : Array Value) (n : Nat) (d : Option Addr) (sl : Array (Option Value)) :
    Meets (Builtin.«int.__rmul__» ⟨[.int a t, .ref l], []⟩) (fun _ R s => s.heap.get? l = some { cls := .type "tuple", dict := d, data := .seq items n, slots := sl } ∧ R (.ok (.ret Value.notImplemented)) s) :=
  .of_wp fun prog w A R s h => by obtain ⟨hp, g, dr, tk, os⟩ := s; obtain ⟨hl, h⟩ := h; wp_walk; exact ⟨_, rfl, h⟩
theorem mul_meets (l : Addr) (items : Array Value) (n : Nat) (d : Option Addr) (sl : Array (Option Value)) (x : Int) (u : Tok) (c0 : ¬ (decide (x < -(2 ^ 63)) || decide (x ≥ 2 ^ 63)) = true) (c1 : ¬ (items.isEmpty || x == 1) = true)
    (c2 : ¬ (decide (x ≤ 0) || items.isEmpty) = true) (c3 : ¬ (items.size : Int) * x > (2 ^ 63 - 1) / 8) (c4 : ¬ Builtin.Tuple.tupleTooMany ((items.size : Int) * x) = true)
    (hz : ((List.replicate x.toNat items).foldl (· ++ ·) #[]).size ≤ sizeLine) :
    Meets (Builtin.«tuple.__mul__» ⟨[.ref l, .int x u], []⟩) (fun _ R s => s.heap.get? l = some { cls := .type "tuple", dict := d, data := .seq items n, slots := sl } ∧
      R (.ok (.ret (.ref s.heap.objs.size))) { s with heap := s.heap.push { cls := .type "tuple", data := .seq ((List.replicate x.toNat items).foldl (· ++ ·) #[]) } }) :=
  .of_wp fun prog w A R s h => by
    obtain ⟨hp, g, dr, tk, os⟩ := s; obtain ⟨hl, h⟩ := h
    wp_walk
    rw [if_neg c0]
    dsimp only
    refine wpAny_bind (wpAny_tupleItemsOf hl rfl ?_)
    rw [if_neg c1, if_neg c2, if_neg c3, if_neg c4]
    refine wpAny_bind (m := Builtin.Tuple.tupleExact _) (wpAny_newObj_type ?_ hz)
    exact wpAny_pure ⟨_, rfl, h⟩
theorem fold_rep (its : List Value) : ∀ (k : Nat) (acc : List Value), List.foldl (fun x1 x2 => x1 ++ x2) acc.toArray (List.replicate k its.toArray) = (acc ++ (List.replicate k its).flatten).toArray
  | 0, acc => by simp
  | k + 1, acc => by
    rw [List.replicate_succ, List.replicate_succ, List.foldl_cons, List.flatten_cons]
    have e : acc.toArray ++ its.toArray = (acc ++ its).toArray := by simp
    rw [e, fold_rep its k (acc ++ its), List.append_assoc]
section
variable {prog : Program} {w : World} {A : Around} {E : Value → Shared → Prop} {s : Shared}
theorem mul_t {l : Addr} {o : Obj} {its : List Value} {k : Nat} {x : Int} {u : Tok} {Q : Value → Shared → Prop} (ho : s.heap.get? l = some o) (hc : o.cls = .type "tuple") (hd : o.data = .seq its.toArray k)
    (h1 : 2 ≤ x) (h2 : x ≤ 1000) (hne : its ≠ []) (hsz : its.length ≤ 1000)
    (h : Q (.ref s.heap.objs.size) { s with heap := s.heap.push { cls := .type "tuple", data := .seq (List.replicate x.toNat its).flatten.toArray } }) :
    wpAny (model prog w) A (binaryOp .Mult (.ref l) (.int x u)) Q E s := by
  obtain ⟨oc, od, dt, sl⟩ := o
  cases hc; cases hd
  have ty : s.TypeIs (.ref l) "tuple" := ⟨_, ho, rfl⟩
  have hl : 0 < its.length := List.length_pos_iff.mpr hne
  have hem : its.toArray.isEmpty = false := by cases its with | nil => exact absurd rfl hne | cons a r => simp
  have hz0 : its.toArray.size = its.length := List.size_toArray ..
  have hp : (its.length : Int) * x ≤ 1000 * 1000 := Int.mul_le_mul (by omega) h2 (by omega) (by omega)
  have hfold := fold_rep its x.toNat []
  rw [List.nil_append] at hfold
  have hlen : (List.replicate x.toNat its).flatten.length = x.toNat * its.length := by simp
  have hxn : x.toNat * its.length ≤ 1000 * 1000 := Nat.mul_le_mul (by omega) hsz
  refine wpAny_binaryOp_repeat_ref (T := "tuple") (U := "int") (by decide) ty (fun s' => typeIs_int s' x u) nofill_t F.fills_int_mul F.slot_int_rmul rep_t F.slot_int_index.lookup
    (call_meets F.slot_int_rmul (typeIs_int s x u) F.entry_int_rmul (F.args_int_rmul_2 _ _) (rmul_t x u l its.toArray k od sl) ⟨ho, rfl, ty, ?_⟩)
  refine call_meets F.slot_tuple_mul ty F.entry_tuple_mul (F.args_tuple_mul_2 _ _) (mul_meets l its.toArray k od sl x u ?_ ?_ ?_ ?_ ?_ ?_) ⟨ho, ?_⟩
  · have a1 : ¬ x < -(2 ^ 63) := by omega
    have a2 : ¬ x ≥ 2 ^ 63 := by omega
    rw [decide_eq_false a1, decide_eq_false a2]
    exact Bool.false_ne_true
  · rw [hem]
    have : ¬ x = 1 := by omega
    simpa using this
  · rw [hem]
    have : ¬ x ≤ 0 := by omega
    simpa using this
  · rw [hz0]; omega
  · rw [hz0]
    unfold Builtin.Tuple.tupleTooMany
    rw [sizeLine_eq]
    simp only [decide_eq_true_eq, Int.not_lt, gt_iff_lt]
    omega
  · show (List.foldl (fun x1 x2 => x1 ++ x2) (#[] : Array Value) (List.replicate x.toNat its.toArray)).size ≤ _
    have e0 : (#[] : Array Value) = ([] : List Value).toArray := rfl
    rw [e0, hfold, List.size_toArray, hlen, sizeLine_eq]
    omega
  · have e : List.foldl (· ++ ·) (#[] : Array Value) (List.replicate x.toNat its.toArray) = (List.replicate x.toNat its).flatten.toArray := hfold
    rw [e]
    exact h
end
end HM
namespace L2
open PySem PySem.Spec PyProof.Rows
section
variable {X : Cx}
theorem call_isTup : CallR X (.builtin "isinstance") (fun xs H Q => ∃ a ys T b, xs = [.ref a, .ty T] ∧ SqT X.K H a ys ∧ PySem.W.kitOne X.K (.type "tuple") (.type T) = some b ∧ Q (.bl b) H) := by
  intro pins s σ H xs us Q I r h
  obtain ⟨a, ys, T, b, rfl, hq, hk, q⟩ := h
  obtain ⟨u, w', rfl, r1, r2⟩ := vals2 r
  cases r1
  cases r2
  obtain ⟨its, r, p, _⟩ := I.tuple hq
  obtain ⟨o, h1, h2, _⟩ := p
  exact PySem.W.kia_one PySem.W.kitx_tuple I.kIn ⟨o, h1, h2⟩ hk (fun z => nomatch z) fun tk => ⟨.bl b, H, I.tok _, rfl, q⟩
def repS (z : Str) (n : Nat) : Str := ⟨(List.replicate n z.cps).foldl (· ++ ·) #[]⟩
theorem op_mulS : OpR X (binaryOp .Mult) (fun x y H Q => ∃ z n, x = .str z ∧ y = .int n ∧ 2 ≤ n ∧ n ≤ 1000 ∧ 0 < z.length ∧ z.length ≤ 1000 ∧ Q (.str (repS z n.toNat)) H) := by
  intro pins s σ H x y v u Q I rx ry h
  obtain ⟨z, n, rfl, rfl, h1, h2, h3, h4, q⟩ := h
  obtain ⟨t, rfl⟩ := rx
  obtain ⟨t', rfl⟩ := ry
  have hp : z.length * n.toNat ≤ 1000 * 1000 := Nat.mul_le_mul h4 (by omega)
  have hlen : (repS z n.toNat).length ≤ sizeLine := by
    have key : ∀ (k : Nat) (acc : Array Nat), (List.foldl (· ++ ·) acc (List.replicate k z.cps)).size = acc.size + k * z.cps.size := fun k => by
      induction k with
      | zero => intro acc; simp
      | succ k ih => intro acc; rw [List.replicate_succ, List.foldl_cons, ih, Array.size_append, Nat.succ_mul]; omega
    show (List.foldl (· ++ ·) #[] (List.replicate n.toNat z.cps)).size ≤ _
    have e := key n.toNat #[]
    rw [e, sizeLine_eq]
    have e2 : z.cps.size = z.length := rfl
    rw [e2, Nat.mul_comm]
    simp only [List.size_toArray, List.length_nil]
    omega
  refine PySem.P.mul_str ?_ ?_ ?_ ?_
  · have a1 : ¬ n < -(2 ^ 63 : Int) := by omega
    have a2 : ¬ n ≥ 2 ^ 63 := by omega
    rw [decide_eq_false a1, decide_eq_false a2]; rfl
  · intro _ _ hc
    have h5 : (2 ^ 63 - 1) / n ≥ (2 ^ 63 - 1) / 1000 := by
      rw [ge_iff_le, Int.le_ediv_iff_mul_le (by omega)]
      have : ((2 : Int) ^ 63 - 1) / 1000 * n ≤ (2 ^ 63 - 1) / 1000 * 1000 := Int.mul_le_mul_of_nonneg_left h2 (by decide)
      omega
    omega
  · intro _ _
    unfold Builtin.Str.tooLong
    rw [sizeLine_eq]
    simp only [decide_eq_false_iff_not]
    omega
  · have a1 : ¬ n < 1 := by omega
    have a2 : (n == 1 || z.length == 0) = false := by
      have b1 : (n == 1) = false := by simp; omega
      have b2 : (z.length == 0) = false := by simp; omega
      rw [b1, b2]; rfl
    rw [if_neg a1, a2]
    exact ⟨hlen, .str _, H, I.tok _, ⟨_, rfl⟩, q⟩
theorem op_mulT : OpR X (binaryOp .Mult) (fun x y H Q => ∃ a xs n, x = .ref a ∧ y = .int n ∧ SqT X.K H a xs ∧ xs ≠ [] ∧ xs.length ≤ 1000 ∧ 2 ≤ n ∧ n ≤ 1000 ∧ ∀ p, H p = none → Q (.ref p) (upd H p (.tup (List.replicate n.toNat xs).flatten))) := by
  intro pins s σ H x y v u Q I rx ry h
  obtain ⟨a, xs, n, rfl, rfl, hq, hne, hl, h1, h2, q⟩ := h
  cases rx
  obtain ⟨t', rfl⟩ := ry
  obtain ⟨its, r, p, _⟩ := I.tuple hq
  obtain ⟨o, ho, hc, k, hd⟩ := p
  have hlen := r.length
  have rr : ∀ k : Nat, Vals (List.replicate k xs).flatten (List.replicate k its).flatten := fun k => by
    induction k with
    | zero => exact .nil
    | succ k ih => rw [List.replicate_succ, List.replicate_succ, List.flatten_cons, List.flatten_cons]; exact r.append ih
  refine HM.mul_t ho hc hd h1 h2 (fun e => hne (by subst e; cases r; rfl)) (by omega) ?_
  refine ⟨.ref s.heap.objs.size, _, I.laid (t' := s.toks) (o := .tup (List.replicate n.toNat xs).flatten) (fun b u e => Heap.get?_push_of_some _ e) (Nat.le_refl _) ?_, rfl, q _ I.fresh⟩
  have hz : (List.replicate n.toNat xs).flatten.length ≤ sizeLine := by
    have e : (List.replicate n.toNat xs).flatten.length = n.toNat * xs.length := by simp
    have hxn : n.toNat * xs.length ≤ 1000 * 1000 := Nat.mul_le_mul (by omega) hl
    rw [e, sizeLine_eq]; omega
  exact ⟨hz, _, rr _, ⟨_, Heap.get?_push_size _ rfl, rfl, _, rfl⟩, _, Heap.get?_push_size _ rfl, rfl⟩
end
section
variable {P : Program} {w : World} {K : PySem.W.Frag} {mg : Str → Option Value} {base : Heap}
end
end L2
namespace L2
open PySem PySem.Spec PyProof.Rows
def rStrip : V → List V → Hp → VK → Prop := fun x vs H Q => ∃ z y, x = .str z ∧ vs = [.str y] ∧ z.length ≤ sizeLine ∧ Q (.str (Txt.stripChars z y)) H
theorem mt_strip {X : Cx} : MtM X "str.strip" rStrip := by
  intro pins s σ H x vs v us Q I rx rv h
  obtain ⟨z, y, rfl, rfl, hz, q⟩ := h
  obtain ⟨t, rfl⟩ := rx
  obtain ⟨u, rfl, ru⟩ := rv.one
  obtain ⟨t', rfl⟩ := ru
  exact PySem.SC.stripChars (fun t' k => ⟨.str _, H, I.tok _, ⟨_, rfl⟩, q⟩) hz
end L2
namespace HS
open PySem PySem.W PyProof.Rows
def ev (lt : Nat → Nat → Bool) {α : Type} : KasT α → α
  | .ret a => a
  | .ask i j k => ev lt (k (lt i j))
structure Ord (lt : Nat → Nat → Bool) : Prop where
  tot : ∀ a b, lt a b = true → lt b a = false
  tr : ∀ a b c, lt b a = false → lt c b = false → lt c a = false
section
variable {lt : Nat → Nat → Bool} (O : Ord lt)
abbrev P (p : Array Nat) (i : Nat) : Nat := p.getD i 0
def S (lt : Nat → Nat → Bool) (p : Array Nat) (k : Nat) : Prop := ∀ i j, i ≤ j → j < k → lt (P p j) (P p i) = false
def D (lt : Nat → Nat → Bool) (p : Array Nat) (k : Nat) : Prop := ∀ i j, i ≤ j → j < k → lt (P p i) (P p j) = false
include O in
theorem rfl_ (a : Nat) : lt a a = false := by
  cases h : lt a a with
  | false => rfl
  | true => rw [O.tot a a h] at h; cases h
include O in
theorem S_step {p : Array Nat} {n : Nat} (h1 : 1 ≤ n) (hs : S lt p n) (h : lt (P p n) (P p (n - 1)) = false) : S lt p (n + 1) := fun i j hij hj => by
  by_cases e : j = n
  · subst e
    by_cases e2 : i = j
    · subst e2; exact rfl_ O _
    · exact O.tr _ _ _ (hs i (j - 1) (by omega) (by omega)) h
  · exact hs i j hij (by omega)
include O in
theorem D_step {p : Array Nat} {n : Nat} (h1 : 1 ≤ n) (hs : D lt p n) (h : lt (P p (n - 1)) (P p n) = false) : D lt p (n + 1) := fun i j hij hj => by
  by_cases e : j = n
  · subst e
    by_cases e2 : i = j
    · subst e2; exact rfl_ O _
    · exact O.tr _ _ _ h (hs i (j - 1) (by omega) (by omega))
  · exact hs i j hij (by omega)
include O in
theorem asc_ok (p : Array Nat) : ∀ (f n : Nat), 1 ≤ n → S lt p n → n ≤ ev lt (kas_asc p f n) ∧ ev lt (kas_asc p f n) ≤ n + f ∧ S lt p (ev lt (kas_asc p f n))
  | 0, n, _, hs => ⟨Nat.le_refl _, Nat.le_refl _, hs⟩
  | f + 1, n, h1, hs => by
    show n ≤ ev lt (if lt (P p n) (P p (n - 1)) = true then .ret n else kas_asc p f (n + 1)) ∧ ev lt (if lt (P p n) (P p (n - 1)) = true then .ret n else kas_asc p f (n + 1)) ≤ n + (f + 1) ∧ S lt p (ev lt (if lt (P p n) (P p (n - 1)) = true then .ret n else kas_asc p f (n + 1)))
    cases h : lt (P p n) (P p (n - 1)) with
    | true => rw [if_pos rfl]; exact ⟨Nat.le_refl _, Nat.le_add_right _ _, hs⟩
    | false =>
      rw [if_neg Bool.false_ne_true]
      have ih := asc_ok p f (n + 1) (by omega) (S_step O h1 hs h)
      exact ⟨by omega, by omega, ih.2.2⟩
end
end HS
namespace HS
open PySem PySem.W PyProof.Rows
structure Ent (n : Nat) (p : Array Nat) : Prop where
  pos : 0 < n
  all : ∀ y ∈ p.toList, y < n
theorem Ent.at {n : Nat} {p : Array Nat} (h : Ent n p) (x : Nat) : P p x < n := by
  by_cases hx : x < p.size
  · have e : P p x = p[x] := by simp [P, Array.getD, hx]
    rw [e]
    exact h.all _ (by simp)
  · have e : P p x = 0 := by simp [P, Array.getD, hx]
    rw [e]
    exact h.pos
theorem Ent.perm {n : Nat} {p q : Array Nat} (h : Ent n p) (hp : q.Perm p) : Ent n q := ⟨h.pos, fun y hy => h.all y ((hp.toList.mem_iff).mp hy)⟩
section
variable {prog : Program} {w : World} {A : Around} {E : Value → Shared → Prop} {s : Shared} {κ : Type}
end
end HS
namespace HD
open PySem
theorem entry_loop : entryFor table "dict.update.loop" = some Builtin.«dict.update.loop» := entryFor_of_tree (by kernel_rfl)
theorem plain_loop : plainId "dict.update.loop" = true := by decide +kernel
theorem no_keysL : typeLookup (.type "list") "keys" = pure none := by rw [typeLookup_type, builtinLookup_eq_fast]; kernel_rfl
section
variable {prog : Program} {w : World} {A : Around} {E : Value → Shared → Prop} {s : Shared}
end
end HD
namespace HD
open PySem
section
variable {prog : Program} {w : World} {A : Around} {E : Value → Shared → Prop} {s : Shared} {K : Type} [DecidableEq K] {knd : KeyKind prog w K}
def PairsAt (knd : KeyKind prog w K) (h : Heap) (its : List Value) (kvs : List (K × Value)) : Prop :=
  its.length = kvs.length ∧ ∀ (j : Nat) (v : Value) (kx : K × Value), its[j]? = some v → kvs[j]? = some kx → ∃ b ob key n, v = Value.ref b ∧ h.get? b = some ob ∧ ob.cls = .type "tuple" ∧ ob.data = .seq #[key, kx.2] n ∧ knd.is kx.1 key = true
structure St (knd : KeyKind prog w K) (h0 : Heap) (its : List Value) (kvs : List (K × Value)) (a d it : Addr) (i : Nat) (h : Heap) : Prop where
  tup : h.IsTuple a its.toArray
  iter : h.IsTupleIter it a i
  dict : h.DictOf knd d (merged [] (kvs.take i))
  keep : ∀ b o, b ≠ d → b ≠ it → h0.get? b = some o → h.get? b = some o
theorem tuple_same {h h' : Heap} {a d : Addr} {xs : Array Value} (ht : h.IsTuple a xs) (hs : Heap.SameBut d h h') (hne : a ≠ d) : h'.IsTuple a xs := by
  obtain ⟨o, ho, r⟩ := ht
  exact ⟨o, (hs.2 a hne).trans ho, r⟩
theorem iter_same {h h' : Heap} {a d it : Addr} {i : Nat} (ht : h.IsTupleIter it a i) (hs : Heap.SameBut d h h') (hne : it ≠ d) : h'.IsTupleIter it a i := by
  obtain ⟨o, ho, r⟩ := ht
  exact ⟨o, (hs.2 it hne).trans ho, r⟩
theorem upd_loop {its : List Value} {kvs : List (K × Value)} {a d it : Addr} {h0 : Heap} {R : Result → Shared → Prop} (hh : A.handled = none) (hP : PairsAt knd h0 its kvs) (hd : a ≠ d) (hit : a ≠ it) (hdi : d ≠ it) (hz : its.length ≤ 1000)
    (hd0 : h0.get? d = none) (hi0 : h0.get? it = none) (hml : ∀ i, (merged [] (kvs.take i)).length ≤ 1000)
    (hR : ∀ h tk, h.DictOf knd d (merged [] kvs) → (∀ b o, b ≠ d → b ≠ it → h0.get? b = some o → h.get? b = some o) → R (.ok (.ret .none)) { s with heap := h, toks := tk }) :
    ∀ (m i : Nat) (h : Heap) (tk : Nat), its.length - i = m → i ≤ its.length → St knd h0 its kvs a d it i h → codeAny (model prog w) A (.builtin "dict.update.loop" ⟨[.ref d, .ref it, rawInt (i : Int), .none], []⟩) R { s with heap := h, toks := tk } := by
  intro m
  induction m with
  | zero =>
    intro i h tk hm hi st
    refine codeAny_builtin entry_loop ?_
    rw [Around.under_plainId plain_loop _]
    show wpAny _ A.in1 (pyNext (.ref it) >>= _) _ _ _
    refine wpAny_bind (wpAny_pyNext_tuple_end hh st.iter st.tup (by simp; omega) fun h' hk' => ?_)
    dsimp only
    refine wpAny_bind (m := Builtin.Dict.addKeywords d []) (wpAny_pure (wpAny_pure (hR h' _ ?_ ?_)))
    · have e : kvs.take i = kvs := List.take_of_length_le (by have := hP.1; omega)
      have := st.dict
      rw [e] at this
      exact this.extBut hk' hdi
    · intro b o n1 n2 e
      exact hk' b o n2 (st.keep b o n1 n2 e)
  | succ m ih =>
    intro i h tk hm hi st
    refine codeAny_builtin entry_loop ?_
    rw [Around.under_plainId plain_loop _]
    have hlt : i < its.length := by omega
    have hlk : i < kvs.length := by have := hP.1; omega
    have hgi : its[i]? = some its[i] := List.getElem?_eq_getElem hlt
    have hgk : kvs[i]? = some kvs[i] := List.getElem?_eq_getElem hlk
    obtain ⟨b, ob, key, n, ev, hb, hbc, hbd, hkey⟩ := hP.2 i _ _ hgi hgk
    have nb1 : b ≠ d := fun z => by rw [z, hd0] at hb; cases hb
    have nb2 : b ≠ it := fun z => by rw [z, hi0] at hb; cases hb
    show wpAny _ A.in1 (pyNext (.ref it) >>= _) _ _ _
    refine wpAny_bind (wpAny_pyNext_tuple_item (x := its[i]) st.iter st.tup (by simp [hlt]) fun h1 hI1 hs1 => ?_)
    rw [ev]
    dsimp only
    have hb1 : h1.get? b = some ob := (hs1.2 b nb2).trans (st.keep b ob nb1 nb2 hb)
    have ty : ∀ tk', Shared.TypeIs ⟨h1, s.gens, s.drawn, tk', s.os⟩ (.ref b) "tuple" := fun _ => ⟨ob, hb1, hbc⟩
    have hD1 : h1.DictOf knd d (merged [] (kvs.take i)) := by
      have := st.dict
      obtain ⟨o, es, ep, ho, r⟩ := this
      exact ⟨o, es, ep, (hs1.2 d hdi).trans ho, r⟩
    refine wpAny_bind (wpAny_holding (wpAny_bind (wpAny_tryCatch ?_)))
    unfold Builtin.Dict.pairItems
    refine wpAny_bind (wpAny_typeOf (ty _) ?_)
    rw [if_pos (by decide)]
    refine wpAny_bind (wpAny_seqItems hb1 hbd (wpAny_pure ?_))
    show wpAny _ _ (holding [key, kvs[i].2] (dictSet d key kvs[i].2)) _ _ _
    refine wpAny_holding (wpAny_dictSet_pairs hkey hD1 (fun h2 hd2 hs2 => ?_) (by have := hml i; rw [sizeLine_eq]; omega))
    refine wpAny_pure ⟨plainId_quiet plain_loop _, ih (i + 1) h2 _ (by omega) (by omega) ⟨?_, ?_, ?_, ?_⟩⟩
    · obtain ⟨o, ho, r⟩ := st.tup
      exact tuple_same ⟨o, (hs1.2 a hit).trans ho, r⟩ hs2 hd
    · exact iter_same hI1 hs2 hdi.symm
    · rw [merged_take_succ [] kvs i kvs[i] hgk]
      exact hd2
    · intro b' o' n1 n2 e
      exact (hs2.2 b' n1).trans ((hs1.2 b' n2).trans (st.keep b' o' n1 n2 e))
end
end HD
namespace HS
open PySem PySem.W PyProof.Rows
def ltS (a b : Str) : Bool := decide (a.cps.toList < b.cps.toList)
theorem ltS_irr (a : Str) : ltS a a = false := by unfold ltS; exact decide_eq_false (List.lt_irrefl _)
theorem ltS_tot (a b : Str) (h : ltS a b = true) : ltS b a = false := by
  unfold ltS at *
  exact decide_eq_false (List.lt_asymm (of_decide_eq_true h))
theorem ltS_tri {a b : Str} (h1 : ltS a b = false) (h2 : ltS b a = false) : a = b := by
  unfold ltS at *
  have e := List.le_antisymm (List.not_lt.mp (of_decide_eq_false h2)) (List.not_lt.mp (of_decide_eq_false h1))
  exact Str.ext' (Array.toList_inj.mp e)
theorem ltS_tr (a b c : Str) (h1 : ltS b a = false) (h2 : ltS c b = false) : ltS c a = false := by
  unfold ltS at *
  exact decide_eq_false (List.not_lt.mpr (List.le_trans (List.not_lt.mp (of_decide_eq_false h1)) (List.not_lt.mp (of_decide_eq_false h2))))
def ltT : List Str → List Str → Bool
  | _, [] => false
  | [], _ :: _ => true
  | a :: as, b :: bs => if a = b then ltT as bs else ltS a b
theorem ltT_tot : ∀ a b : List Str, ltT a b = true → ltT b a = false
  | _, [], h => by simp [ltT] at h
  | [], _ :: _, _ => rfl
  | a :: as, b :: bs, h => by
    unfold ltT at h ⊢
    by_cases e : a = b
    · subst e; rw [if_pos rfl] at h ⊢; exact ltT_tot as bs h
    · rw [if_neg e] at h; rw [if_neg (Ne.symm e)]; exact ltS_tot _ _ h
section
variable {prog : Program} {w : World} {A : Around} {E : Value → Shared → Prop} {s : Shared} {κ : Type}
def TupStr (h : Heap) (v : Value) (ts : List Str) : Prop := ∃ a o vs n, v = Value.ref a ∧ h.get? a = some o ∧ o.cls = .type "tuple" ∧ o.data = .seq vs n ∧ StrsAre vs.toList ts
inductive TupsAre (h : Heap) : List Value → List (List Str) → Prop where
  | nil : TupsAre h [] []
  | cons {v : Value} {ts : List Str} {vs : List Value} {tss : List (List Str)} : TupStr h v ts → ts ≠ [] → TupsAre h vs tss → TupsAre h (v :: vs) (ts :: tss)
theorem TupsAre.keep {h h' : Heap} (k : ∀ b o, h.get? b = some o → h'.get? b = some o) {vs : List Value} {tss : List (List Str)} (x : TupsAre h vs tss) : TupsAre h' vs tss := by
  induction x with
  | nil => exact .nil
  | cons t ne _ ih =>
    obtain ⟨a, o, xs, n, e, ho, r⟩ := t
    exact .cons ⟨a, o, xs, n, e, k a o ho, r⟩ ne ih
theorem TupsAre.len {h : Heap} {vs : List Value} {tss : List (List Str)} (x : TupsAre h vs tss) : vs.length = tss.length := by
  induction x with
  | nil => rfl
  | cons _ _ _ ih => rw [List.length_cons, List.length_cons, ih]
theorem TupsAre.at {h : Heap} {vs : List Value} {tss : List (List Str)} (x : TupsAre h vs tss) : ∀ i, i < vs.length → TupStr h (vs.getD i Value.none) (tss.getD i []) := by
  induction x with
  | nil => intro i hi; simp at hi
  | cons t _ _ ih =>
    intro i hi
    cases i with
    | zero => exact t
    | succ i => exact ih i (by simpa using hi)
end
end HS
namespace L2
open PySem PySem.Spec PyProof.Rows
section
variable {X : Cx}
theorem op_catH : OpR X (binaryOp .Add) (fun x y H Q => ∃ a b xs ys, x = .ref a ∧ y = .ref b ∧ H a = some (.tup xs) ∧ H b = some (.tup ys) ∧ xs.length + ys.length ≤ sizeLine ∧ ∀ p H', Same H H' → H' p = some (.tup (xs ++ ys)) → Q (.ref p) H') := by
  intro pins s σ H x y v u Q I rx ry h
  obtain ⟨a, b, xs, ys, rfl, rfl, ha, hb, hz, q⟩ := h
  by_cases hx : xs = []
  · subst hx
    cases rx
    cases ry
    obtain ⟨its, r1, p1, _⟩ := I.tuple (SqT.of ha)
    obtain ⟨its2, r2, p2, _⟩ := I.tuple (SqT.of hb)
    have e1 : its = [] := r1.nil_iff.mpr rfl
    subst e1
    obtain ⟨m, F⟩ := I.fr
    exact add_tuples F (news := []) (fun p hp => absurd hp (by simp)) p1 p2 (fun _ => ⟨.ref b, H, I, rfl, q b H (Same.refl H) hb⟩) (fun z => absurd rfl z) (fun z => absurd rfl z) (by simp at hz ⊢; rw [← r2.length]; exact hz)
  · refine op_catT pins s σ H (.ref a) (.ref b) v u Q I rx ry ⟨a, b, xs, ys, rfl, rfl, SqT.of ha, SqT.of hb, hx, hz, fun e => ?_, fun _ p hp => q p _ (Same.new hp _) upd_same⟩
    subst e
    exact q a H (Same.refl H) (by rw [List.append_nil]; exact ha)
end
end L2
namespace L2
open PySem PySem.Spec PyProof.Rows
def TS' (H H' : Hp) : Prop := ∀ b xs, H b = some (.tup xs) → H' b = some (.tup xs)
theorem _root_.L2.Same.ts {H H' : Hp} (s : Same H H') : TS' H H' := fun b xs h => s b _ h
theorem TS'.trans {H H1 H2 : Hp} (a : TS' H H1) (b : TS' H1 H2) : TS' H H2 := fun c xs h => b c xs (a c xs h)
theorem TS'.lst {H : Hp} {D : Addr} {ys : List V} {o : HO} (h : H D = some (.lst ys)) : TS' H (upd H D o) := fun b xs hb => by
  have : b ≠ D := fun e => by rw [e, h] at hb; cases hb
  rw [upd_ne this]
  exact hb
section
variable {X : Cx} {a : Expr} {ta : TE}
end
end L2
namespace L2
open PySem PySem.Spec PyProof.Rows
theorem KV.at : ∀ {kvs : List (Key × V)} {vs : List (Key × Value)} {i : Nat}, KV kvs vs → i < kvs.length → ∃ k x v, kvs[i]? = some (k, x) ∧ vs[i]? = some (k, v)
  | _ :: _, _ :: _, 0, .cons h r, _ => ⟨_, _, _, rfl, by rw [List.getElem?_cons_zero, h.1]⟩
  | _ :: _, _ :: _, i + 1, .cons h r, hl => by
    obtain ⟨k, x, v, h1, h2⟩ := KV.at (i := i) r (by simpa using hl)
    exact ⟨k, x, v, by simpa using h1, by simpa using h2⟩
section
variable {X : Cx} {tg : Expr}
end
end L2
namespace RD
open PySem PySem.Spec PyProof.Rows
section
variable {prog : Program} {w : World} {A : Around} {E : Value → Shared → Prop} {s : Shared}
theorem iter {d : Addr} {o : Obj} {es : Array DictEntry} {ep : Nat} {Q : Value → Shared → Prop} (lo : (d == sysModules) = false) (ho : s.heap.get? d = some o) (hx : o.ExactDict) (hdat : o.data = .dict es ep)
    (hQ : Q (.ref s.heap.objs.size) { s with heap := s.heap.push { cls := .type "dict_keyiterator", data := .fields #[.ref d, .int 0 0, .int es.size 0, .int ep 0] } }) : wpAny (model prog w) A (pyIter (.ref d)) Q E s := by
  have tyD : s.TypeIs (.ref d) "dict" := ⟨o, ho, hx.1⟩
  refine wpAny_pyIter_slot tyD F.slot_dict_iter (wpAny_call_entry F.slot_dict_iter tyD F.entry_dict_iter ?_ (F.args_dict_iter_1 _)); unfold Builtin.«dict.__iter__»; refine wpAny_bind ?_
  unfold Builtin.Dict.dictSlotNone; refine wpAny_bind (wpAny_notOrdered_dict tyD ?_); show wpAny _ _ (pure (Value.ref d)) _ _ s; refine wpAny_pure ?_
  show wpAny _ _ (Builtin.Dict.showsAll d >>= _) _ _ s; unfold Builtin.Dict.showsAll; rw [if_neg (by rw [lo]; exact Bool.false_ne_true)]
  refine wpAny_bind (wpAny_pure (wpAny_bind (wpAny_dictEntries ho hdat (wpAny_bind (wpAny_dictEpoch ho hdat ?_)))))
  refine wpAny_bind (wpAny_newObj_type (wpAny_pure ⟨_, rfl, "dict_keyiterator", _, ⟨_, Heap.get?_push_size _ rfl, rfl⟩, F.slot_dict_keyiterator_next.lookup, ?_⟩)); simpa [rawInt] using hQ
theorem item {it d : Addr} {i ep : Nat} {od : Obj} {es : Array DictEntry} {e : DictEntry} {Q : Option Value → Shared → Prop} (hit : s.heap.IsKeyIter it d i es.size ep) (hod : s.heap.get? d = some od) (hdd : od.data = .dict es ep) (hx : es[i]? = some e)
    (hQ : ∀ h', h'.IsKeyIter it d (i + 1) es.size ep → Heap.SameBut it s.heap h' → Q (some e.key) { s with heap := h' }) : wpAny (model prog w) A (pyNext (.ref it)) Q E s := by
  obtain ⟨o, ho, hc, hd⟩ := id hit
  unfold pyNext; refine wpAny_bind (wpAny_attempt (wpAny_callSpecial?_slot (name := Str.ofString "__next__") hit.typeIs F.slot_dict_keyiterator_next (wpAny_call_entry F.slot_dict_keyiterator_next hit.typeIs F.entry_dict_keyiterator_next ?_ (F.args_dict_keyiterator_next_1 _))))
  refine wpAny_bind (wpAny_pure (wpAny_bind (wpAny_bind ?_))); first | refine wpAny_bind (wpAny_typeNameOfWhole_keyiter hit.typeIs (wpAny_pure ?_)) | refine wpAny_bind (wpAny_typeNameOf_keyiter hit.typeIs (wpAny_pure ?_))
  refine wpAny_bind (wpAny_fieldsOf ho hd ?_); have own0 : Builtin.Dict_items.ownsTuple "dict_keyiterator" = false := by decide
  simp only [own0, Bool.false_eq_true, if_false]; show wpAny _ _ (if (Value.ref d == Value.none) = true then _ else _) _ _ s; rw [if_neg (show ¬ ((Value.ref d == Value.none) = true) from Bool.false_ne_true)]
  refine wpAny_bind (wpAny_pure (wpAny_bind (wpAny_dictEntries hod hdd ?_))); rw [if_neg (by simp)]
  refine wpAny_bind (wpAny_pure (wpAny_bind (wpAny_dictEpoch hod hdd ?_))); rw [if_neg (by simp)]; refine wpAny_pure ?_
  have lt : i < es.size := (Array.getElem?_eq_some_iff.mp hx).1
  have ee : es[i] = e := (Array.getElem?_eq_some_iff.mp hx).2
  simp only [show ¬ ((i : Int) < 0) from by omega, if_false, Int.toNat_natCast, hx]
  refine wpAny_bind ?_; first | refine wpAny_bind (wpAny_typeNameOfWhole_keyiter hit.typeIs (wpAny_pure ?_)) | refine wpAny_bind (wpAny_typeNameOf_keyiter hit.typeIs (wpAny_pure ?_))
  refine wpAny_bind (wpAny_isOneOf_keyiter hit.typeIs ?_); show wpAny _ _ (setField (.ref it) 1 (rawInt ((i : Int) + 1)) >>= _) _ _ s; refine wpAny_bind (wpAny_setField ho hd (by simp) ?_)
  have next : (s.heap.update it (Obj.mapFields (·.setIfInBounds 1 (rawInt ((i : Int) + 1))))).IsKeyIter it d (i + 1) es.size ep := ⟨_, Heap.get?_update_self _ ho (Obj.isFreed_of_fields (Obj.data_mapFields hd _)), (Obj.cls_mapFields ..).trans hc, by rw [Obj.data_mapFields hd]; simp [rawInt]⟩
  refine wpAny_bind (wpAny_holding (wpAny_bind (wpAny_isOneOf_keyiter (s := { s with heap := s.heap.update it (Obj.mapFields (·.setIfInBounds 1 (rawInt ((i : Int) + 1)))) }) next.typeIs ?_)))
  show wpAny _ _ (pure e.key) _ _ _; exact wpAny_pure (wpAny_pure ⟨_, rfl, wpAny_pure (hQ _ next (Heap.SameBut.update ..))⟩)
theorem done {it d : Addr} {i ep : Nat} {od : Obj} {es : Array DictEntry} {Q : Option Value → Shared → Prop} (hh : A.handled = none) (hit : s.heap.IsKeyIter it d i es.size ep) (hod : s.heap.get? d = some od) (hdd : od.data = .dict es ep) (hx : es.size ≤ i)
    (hQ : ∀ h', Heap.ExtBut it s.heap h' → Q none { s with heap := h' }) : wpAny (model prog w) A (pyNext (.ref it)) Q E s := by
  obtain ⟨o, ho, hc, hd⟩ := id hit
  unfold pyNext; refine wpAny_bind (wpAny_attempt (wpAny_callSpecial?_slot (name := Str.ofString "__next__") hit.typeIs F.slot_dict_keyiterator_next (wpAny_call_entry F.slot_dict_keyiterator_next hit.typeIs F.entry_dict_keyiterator_next ?_ (F.args_dict_keyiterator_next_1 _))))
  refine wpAny_bind (wpAny_pure (wpAny_bind (wpAny_bind ?_))); first | refine wpAny_bind (wpAny_typeNameOfWhole_keyiter hit.typeIs (wpAny_pure ?_)) | refine wpAny_bind (wpAny_typeNameOf_keyiter hit.typeIs (wpAny_pure ?_))
  refine wpAny_bind (wpAny_fieldsOf ho hd ?_); have own0 : Builtin.Dict_items.ownsTuple "dict_keyiterator" = false := by decide
  simp only [own0, Bool.false_eq_true, if_false]; show wpAny _ _ (if (Value.ref d == Value.none) = true then _ else _) _ _ s; rw [if_neg (show ¬ ((Value.ref d == Value.none) = true) from Bool.false_ne_true)]
  refine wpAny_bind (wpAny_pure (wpAny_bind (wpAny_dictEntries hod hdd ?_))); rw [if_neg (by simp)]
  refine wpAny_bind (wpAny_pure (wpAny_bind (wpAny_dictEpoch hod hdd ?_))); rw [if_neg (by simp)]; refine wpAny_pure ?_
  simp only [show ¬ ((i : Int) < 0) from by omega, if_false, Int.toNat_natCast, Array.getElem?_eq_none hx]
  refine wpAny_bind ?_; first | refine wpAny_bind (wpAny_typeNameOfWhole_keyiter hit.typeIs (wpAny_pure ?_)) | refine wpAny_bind (wpAny_typeNameOf_keyiter hit.typeIs (wpAny_pure ?_))
  show wpAny _ _ (setField (.ref it) 0 .none >>= _) _ _ s; refine wpAny_bind (wpAny_setField ho hd (by simp) ?_)
  show wpAny _ _ (newExc (.type "StopIteration") [] >>= _) _ _ _; refine wpAny_bind ?_; simp only [newExc, newTuple]; refine wpAny_bind (wpAny_newObj_type ?_ (by size_fits))
  refine wpAny_bind (m := firstArgMember _ _) (wpAny_of_eq (a := Value.none) (by first | rfl | (simp only [firstArgMember]; rfl)) (wpAny_newObj_type ?_ (by size_fits))); simp only [raiseNew]
  refine wpAny_bind (wpAny_handled ?_); rw [show A.in1.handled = none from hh]; refine wpAny_bind (wpAny_pure (wpAny_throw ?_))
  refine wpAny_bind (wpAny_isInstance (T := "StopIteration") (b := true) ⟨_, Heap.get?_push_size _ rfl, rfl⟩ isSubtype_stop ?_); exact wpAny_pure (hQ _ (((Heap.SameBut.update ..).extBut.push _).push _))
theorem walks {d : Addr} {od : Obj} {es : Array DictEntry} {ep : Nat} (hh : A.handled = none) (I : Addr) (hne : d ≠ I) (hdd : od.data = .dict es ep) :
    Walks prog w A I [I, d] [I] es.size (fun i v => ∃ e, es[i]? = some e ∧ v = e.key) (fun i h => h.IsKeyIter I d i es.size ep ∧ h.get? d = some od) where
  sub := fun b hb => by simp at hb; simp [hb]
  frame := fun _ _ _ st hk => ⟨st.1.at fun o e => hk I (by simp) o e, hk d (by simp) _ st.2⟩
  item := fun i s Q E hi st hQ => item st.1 st.2 hdd (Array.getElem?_eq_getElem hi) fun h' hit' hs' =>
    hQ _ h' s.toks ⟨_, Array.getElem?_eq_getElem hi, rfl⟩ ⟨hit', hs'.extBut d od hne st.2⟩ fun b o hb e => hs'.extBut b o (fun h => hb (by simp [h])) e
  done := fun s Q E st hQ => done hh st.1 st.2 hdd (Nat.le_refl _) fun h' he' => hQ h' s.toks fun b o hb e => he' b o (fun h => hb (by simp [h])) e
  self := fun _ _ _ _ st hQ => wpAny_pyIter_keyiter st.1 hQ
end
end RD
namespace L2
open PySem PySem.Spec PyProof.Rows
section
variable {X : Cx}
def strK : Key → Str
  | .inr t => t
  | .inl _ => ""
end
end L2
namespace L2
open PySem PySem.Spec PyProof.Rows
section
variable {X : Cx}
end
end L2
namespace HT
open PySem PySem.Spec PyProof.Rows
section
variable {prog : Program} {w : World} {A : Around} {E : Value → Shared → Prop} {s : Shared}
theorem getItem_whole {t sl : Addr} {items : Array Value} {vl vu : Value} {lo hi : Option Int} {Q : Value → Shared → Prop} (ht : IsTup s.heap t items) (hs : s.heap.IsSliceOf sl vl vu .none) (pl : IsPart vl lo) (pu : IsPart vu hi)
    (hw : sIx items.size 0 lo = 0 ∧ sIx items.size items.size hi = items.size) (h : Q (.ref t) s) : wpAny (model prog w) A (getItem (.ref t) (.ref sl)) Q E s := by
  obtain ⟨os, hos, hcs, hds⟩ := id hs
  have tyS : s.TypeIs (.ref sl) "slice" := ⟨os, hos, hcs⟩
  unfold getItem; try with_reducible refine wpAny_holding ?_
  first | refine wpAny_bind (wpAny_pure ?_) | skip
  refine wpAny_bind (wpAny_sequenceKey ht.typeIs (by decide) (wpAny_bind (wpAny_callSpecial?_slot (name := Str.ofString "__getitem__") ht.typeIs PyProof.Rows.slot_tuple_getitem (wpAny_call_entry PyProof.Rows.slot_tuple_getitem ht.typeIs entry_tuple_getitem ?_ (args_tuple_getitem _ _)))))
  show wpAny _ _ (Builtin.Tuple.tupleItemsOf (.ref t) >>= _) _ _ s; refine wpAny_bind (tupleItemsOf_ ht (wpAny_bind (wpAny_typeOf tyS ?_))); rw [if_pos (by decide)]
  refine wpAny_bind (sliceApplied_gen hs pl pu ?_)
  have yes : (((sIx items.size 0 lo : Nat) : Int) == 0 && (1 : Int) == 1 && (sIx items.size items.size hi - sIx items.size 0 lo) == items.size) = true := by rw [hw.1, hw.2]; simp
  show wpAny _ _ (if (((sIx items.size 0 lo : Nat) : Int) == 0 && (1 : Int) == 1 && (sIx items.size items.size hi - sIx items.size 0 lo) == items.size) = true then _ else _) _ _ s
  rw [if_pos yes]
  unfold Builtin.Tuple.tupleIsExact
  refine wpAny_bind (wpAny_bind (wpAny_typeOf ht.typeIs (wpAny_pure ?_)))
  have yes2 : ((Value.type "tuple" == Value.type "tuple") = true) := by decide
  first
    | (rw [if_pos yes2]; exact wpAny_bind (wpAny_rule (wpAny_pure ⟨_, rfl, wpAny_pure h⟩)))
    | (rw [if_pos yes2]; exact wpAny_bind (wpAny_rule (wpAny_bind (wpAny_pure (wpAny_pure ⟨_, rfl, wpAny_pure h⟩)))))
    | (simp only [yes2, if_true]; exact wpAny_rule (wpAny_pure ⟨_, rfl, wpAny_pure h⟩))
end
end HT
namespace L2
open PySem PySem.Spec PyProof.Rows
theorem cut_whole {xs : List V} {lo hi : Option Int} (h : HT.sIx xs.length 0 lo = 0 ∧ HT.sIx xs.length xs.length hi = xs.length) : cutV xs lo hi = xs := by
  unfold cutV
  rw [h.1, h.2]
  simp
theorem at_last {α : Type} (xs : List α) (x : α) : atI (xs ++ [x]) (-1) = some x := by
  have e : ixN (xs ++ [x]).length (-1) = some xs.length := by
    unfold ixN
    rw [List.length_append, List.length_singleton]
    simp
    omega
  unfold atI
  rw [e]
  simp
section
variable {X : Cx}
theorem sl_tupH : SlR X (fun x lo hi H Q => ∃ a xs, x = .ref a ∧ H a = some (.tup xs) ∧ ∀ p H', Same H H' → H' p = some (.tup (cutV xs lo hi)) → Q (.ref p) H') := by
  intro pins s σ H x v vl vu lo hi sl Q I rx hs pl pu h
  obtain ⟨a, xs, rfl, hx, q⟩ := h
  by_cases hw : HT.sIx xs.length 0 lo = 0 ∧ HT.sIx xs.length xs.length hi = xs.length
  · cases rx
    obtain ⟨its, r, ht, hz⟩ := I.tuple (SqT.of hx)
    have hlen : its.toArray.size = xs.length := by rw [List.size_toArray]; exact r.length.symm
    refine ⟨"tuple", _, PyProof.Rows.slot_tuple_getitem.lookup, ht.typeIs, ?_⟩
    refine HT.getItem_whole ht hs pl pu (by rw [hlen]; exact hw) ?_
    exact ⟨.ref a, H, I, rfl, q a H (Same.refl H) (by rw [cut_whole hw]; exact hx)⟩
  · exact sl_tup pins s σ H (.ref a) v vl vu lo hi sl Q I rx hs pl pu ⟨a, xs, rfl, SqT.of hx, hw, fun p np => q p _ (Same.new np _) upd_same⟩
end
end L2
namespace L2
open PySem PySem.Spec PyProof.Rows
section
variable {X : Cx}
end
end L2
namespace HD
open PySem
section
variable {prog : Program} {w : World} {A : Around} {E : Value → Shared → Prop} {s : Shared}
theorem keys_list {a : Addr} {o : Obj} {xs : Array Value} {k : Nat} {Q : Option Value → Shared → Prop} (gx : s.heap.get? a = some o) (hc : o.cls = .type "list") (hdat : o.data = .seq xs k) (hd : o.dict = none) (hA : A.handled = none)
    (h : ∀ h' tk, (∀ b o, s.heap.get? b = some o → h'.get? b = some o) → Q none { s with heap := h', toks := tk }) : wpAny (model prog w) A (getAttr? (.ref a) "keys") Q E s := by
  obtain ⟨c, dct, dat, sl⟩ := o
  simp only at hc hdat hd
  subst hc hdat hd
  obtain ⟨hp, gg, dd, tk, oo⟩ := s
  have tyT : ∀ tz, (⟨hp, gg, dd, tz, oo⟩ : Shared).TypeIs (.ref a) "list" := fun _ => ⟨_, gx, rfl⟩
  have u1 := sub_AttributeError
  have u3 := F.slot_list_getattribute.lookup
  have u4 := F.slot_list_getattribute.bind (.ref a)
  have u5 := am_list_getattr_none
  unfold getAttr? getAttrBy? getAttrBy
  repeat (any_goals (first | assumption | exact tyT _ | ((with_reducible show wpAny _ _ (call (Value.builtin "list.__getattribute__") _ _) _ _ _); refine call_meets F.slot_list_getattribute (tyT _) am_entry_list_getattribute (F.args_list_getattribute_2 _ _) (meets_getattribute_miss_list a xs k sl "keys" _ no_keysL (by decide) (by size_fits)) ⟨gx, hA, fun h' tz e gx' => ?_⟩) | wp_step))
  obtain ⟨t', u', he⟩ := gx'.there
  show wpAny _ _ (getattributeRaised _ _ _ _ _ _ _) _ _ _
  unfold getattributeRaised
  repeat (any_goals (first | assumption | wp_step))
  exact h h' tz gx'.of.keeps
end
end HD
namespace HD
open PySem
section
variable {prog : Program} {w : World} {A : Around} {E : Value → Shared → Prop} {s : Shared} {K : Type} [DecidableEq K] {knd : KeyKind prog w K}
theorem list_same {h h' : Heap} {a d : Addr} {xs : Array Value} (ht : h.IsList a xs) (hs : Heap.SameBut d h h') (hne : a ≠ d) : h'.IsList a xs := by
  obtain ⟨o, ho, r⟩ := ht
  exact ⟨o, (hs.2 a hne).trans ho, r⟩
theorem iter_sameL {h h' : Heap} {a d it : Addr} {i : Nat} (ht : h.IsListIter it a i) (hs : Heap.SameBut d h h') (hne : it ≠ d) : h'.IsListIter it a i := by
  obtain ⟨o, ho, r⟩ := ht
  exact ⟨o, (hs.2 it hne).trans ho, r⟩
end
end HD
namespace L2
open PySem PySem.Spec PyProof.Rows
section
variable {X : Cx}
end
end L2
namespace HZ
open PySem PySem.Builtin
theorem meets_enumT (l : Addr) (xs : Array Value) : Meets (Builtin.«enumerate.__new__» ⟨[.type "enumerate", .ref l], []⟩) (fun _ R s => s.heap.IsTuple l xs ∧
      R (.ok (.ret (.ref (s.heap.push { cls := .type "tuple_iterator", data := .fields #[.ref l, .int 0 0] }).objs.size)))
        { s with heap := (s.heap.push { cls := .type "tuple_iterator", data := .fields #[.ref l, .int 0 0] }).push { cls := .type "enumerate", data := .fields #[.none, .bool false, .ref s.heap.objs.size, rawInt 0, .none, .none] } }) :=
  .of_wp fun prog w A R s h => by
    obtain ⟨hp, g, d, tk, os⟩ := s; obtain ⟨hl, h⟩ := h
    have hsub := sub_enumerate
    have hL : Heap.IsTuple (Shared.heap ⟨hp, g, d, tk, os⟩) l xs := hl
    wp_walk
    refine wpAny_stack_any fun st => wpAny_pure ?_
    split
    · rename_i c _ _ _ _ _
      cases (c == Value.type "enumerate")
      · wp_walk using wpAny_pyIter_tuple hL
        exact ⟨_, rfl, h⟩
      · wp_walk using wpAny_pyIter_tuple hL
        exact ⟨_, rfl, h⟩
    · wp_walk using wpAny_pyIter_tuple hL
      exact ⟨_, rfl, h⟩
end HZ
namespace HZ
open PySem PySem.Builtin
theorem drawsT {prog : Program} {w : World} {A : Around} (hh : A.handled = none) (it l : Addr) (hne : l ≠ it) (items : Array Value) :
    Draws prog w A it [it, l] items.size (fun i v => items[i]? = some v) (fun i h => h.IsTupleIter it l i ∧ h.IsTuple l items) where
  live := fun _ _ st => let ⟨o, ho, _⟩ := st.1; ⟨o, ho⟩
  frame := fun _ _ _ st hk => ⟨itAt st.1 fun o e => hk it (by simp) o e, tpAt st.2 fun o e => hk l (by simp) o e⟩
  item := fun i s Q E hi st hQ => by
    refine turn_item st.1 st.2 (x := items[i]) (by simp [hi]) fun h' hit' hs' => ?_
    exact hQ _ h' s.toks (by simp [hi]) ⟨hit', tpAt st.2 fun o e => sb hs' hne e⟩ hs'
  done := fun s Q E st hE => turn_end hh st.1 st.2 (by simp) hE
section
variable {prog : Program} {w : World} {A : Around} {E : Value → Shared → Prop} {s : Shared}
theorem next_enum_end {e it p : Addr} {k : Nat} {i : Int} {xs : Array Value} {old : Value} {Q : Option Value → Shared → Prop} (hh : A.handled = none) (he : IsEnum s.heap e it i old) (hc : s.heap.IsTupleIter it p k) (hp : s.heap.IsTuple p xs) (hx : xs[k]? = none)
    (hQ : ∀ h', Heap.ExtBut it s.heap h' → Q none { s with heap := h' }) : wpAny (model prog w) A (pyNext (.ref e)) Q E s := by
  have hT : s.TypeIs (.ref e) "enumerate" := ⟨_, he, rfl⟩
  unfold pyNext
  refine wpAny_bind (wpAny_attempt (wpAny_callSpecial?_slot (name := Str.ofString "__next__") hT F.slot_enumerate_next
    (wpAny_call_entry F.slot_enumerate_next hT F.entry_enumerate_next ?_ (F.args_enumerate_next_1 _))))
  show wpAny _ _ (field (.ref e) 2 >>= _) _ _ _
  refine wpAny_bind (wpAny_field he rfl (x := .ref it) rfl ?_)
  refine wpAny_bind (turn_end hh hc hp hx fun h' x he' hx' => ?_)
  obtain ⟨o, ho, hc⟩ := hx'
  refine wpAny_bind (wpAny_isInstance (T := "StopIteration") (b := true) ⟨o, ho, hc⟩ isSubtype_stop ?_)
  exact wpAny_pure (hQ _ he')
theorem call_enumT {l : Addr} {items : Array Value} {Q : Value → Shared → Prop} (hL : s.heap.IsTuple l items)
    (h : ∀ h', IsEnum h' (s.heap.objs.size + 1) s.heap.objs.size 0 .none → h'.IsTupleIter s.heap.objs.size l 0 → h'.objs.size = s.heap.objs.size + 2 →
      (∀ b o, s.heap.get? b = some o → h'.get? b = some o) → Q (.ref (s.heap.objs.size + 1)) { s with heap := h' }) :
    wpAny (model prog w) A (call (.type "enumerate") [.ref l]) Q E s := by
  refine callType_new F.called_enumerate (by decide) (F.typeCall_enumerate_1 _) (F.newCall_enumerate_1 _) (fun obj => F.args_object_init_2 obj _) F.entry_enumerate_new (meets_enumT l items) ⟨hL, ?_⟩
  have hz : (s.heap.push { cls := .type "tuple_iterator", data := .fields #[.ref l, .int 0 0] }).objs.size = s.heap.objs.size + 1 := Heap.size_push ..
  show _ ∧ _
  rw [hz]
  have he : IsEnum ((s.heap.push { cls := .type "tuple_iterator", data := .fields #[.ref l, .int 0 0] }).push
      { cls := .type "enumerate", data := .fields #[.none, .bool false, .ref s.heap.objs.size, rawInt 0, .none, .none] }) (s.heap.objs.size + 1) s.heap.objs.size 0 .none := by
    have := Heap.get?_push_size (s.heap.push { cls := .type "tuple_iterator", data := .fields #[.ref l, .int 0 0] })
      (o := { cls := .type "enumerate", data := .fields #[.none, .bool false, .ref s.heap.objs.size, rawInt 0, .none, .none] }) rfl
    rw [hz] at this; exact this
  refine ⟨⟨_, he, rfl⟩, h _ he ⟨_, Heap.get?_push_of_some _ (Heap.get?_push_size _ rfl), rfl, rfl⟩ (by rw [Heap.size_push, hz]) fun b o x => Heap.get?_push_of_some _ (Heap.get?_push_of_some _ x)⟩
end
end HZ
namespace L2
open PySem PySem.Spec PyProof.Rows
section
variable {X : Cx}
def IteT (K : PySem.W.Frag) (a : Addr) : It :=
  ⟨fun i H => ∃ xs x, SqT K H a xs ∧ xs[i]? = some x, fun i H x H' => ∃ p y, H p = none ∧ (∀ xs, SqT K H a xs → xs[i]? = some y) ∧ x = .ref p ∧ H' = upd H p (.tup [.int i, y]), fun i H => ∃ xs, SqT K H a xs ∧ xs.length ≤ i⟩
theorem turn_enumT {P : Program} {w : World} {K : PySem.W.Frag} {es : List Expr} {kt : Nat} {tp : Pos} (a e it : Addr) (hne : e ≠ it) :
    Turn P w K (.Tuple es kt tp) (IteT K a) [e, it] e (fun i h => (∃ old, IsEnum h e it i old) ∧ h.IsTupleIter it a i) where
  mem := by simp
  obj := fun i h st b hb => by
    obtain ⟨⟨old, he⟩, o, ho, _, hd⟩ := st
    rcases List.mem_cons.mp hb with rfl | hb
    · exact ⟨_, he, fun v z => by cases z⟩
    · obtain rfl := List.mem_singleton.mp hb
      exact ⟨o, ho, fun v z => by rw [hd] at z; cases z⟩
  keep := fun i h h' st k => by
    obtain ⟨⟨old, he⟩, o, ho, r⟩ := st
    exact ⟨⟨old, k e (by simp) _ he⟩, o, k it (by simp) o ho, r⟩
  item := by
    intro X hP hw hK hc i pins s σ H E I hf st hg
    subst hP hw hK
    obtain ⟨⟨old, he⟩, hit⟩ := st
    obtain ⟨xs, y, hq, hy⟩ := hg
    obtain ⟨its, rv, pl, hz⟩ := I.tuple hq
    obtain ⟨u, hu, ru⟩ := rv.get hy
    obtain ⟨e0, e1, e2, e3, e4, e5⟩ := hf e (by simp)
    obtain ⟨i0, i1, i2, i3, i4, i5⟩ := hf it (by simp)
    have pt : s.heap.IsTuple a its.toArray := pl
    have hai : a ≠ it := fun z => by obtain ⟨o1, g1, c1, _⟩ := hit; obtain ⟨o2, g2, c2, _⟩ := pt; rw [z, g1] at g2; cases g2; rw [c1] at c2; exact absurd c2 (by decide)
    have hae : e ≠ a := fun z => by obtain ⟨o2, g2, c2, _⟩ := pt; rw [← z, he] at g2; cases g2; injection c2 with c2; exact absurd c2 (by decide)
    refine wpAny_pyNext_enum_itemD (HZ.drawsT (A := X.A.in1) (show X.A.in1.handled = none from I.ok.hd hc) it a hai its.toArray) he ⟨hit, pt⟩ (by rw [List.size_toArray, ← rv.length]; exact (List.getElem?_eq_some_iff.mp hy).1) hne (by simp [hne, hae]) fun x' h' tk hx' ho hit' ht hz' kk => ?_
    obtain ⟨hit', _⟩ := hit'
    have ex : u = x' := by rw [List.getElem?_toArray] at hx'; exact Option.some.inj (hu.symm.trans hx')
    subst ex
    refine ⟨.ref s.heap.objs.size, rfl, ?_⟩
    refine wpAny_letOwnedTupleGo_enum ho fun h2 he2 sb2 => ?_
    have hpe : s.heap.objs.size ≠ e := Nat.ne_of_gt (Heap.lt_size he)
    have hit2 : h2.IsTupleIter it a (i + 1) := by
      obtain ⟨o, q1, q2⟩ := hit'
      exact ⟨o, by rw [sb2.2 it (Ne.symm hne)]; exact q1, q2⟩
    have ht2 : h2.get? s.heap.objs.size = some { cls := .type "tuple", data := .seq #[.int i tk, u] } := by rw [sb2.2 _ hpe]; exact ht
    have k2 : ∀ b o, b ≠ e → b ≠ it → s.heap.get? b = some o → h2.get? b = some o := fun b o b1 b2 q => by rw [sb2.2 b b1]; exact kk b o b1 b2 q
    obtain ⟨oi, gi, ri⟩ := id hit2
    obtain ⟨oi0, gi0, _⟩ := id hit
    have fi : oi.isFreed = false := (Heap.get?_some_iff.mp gi).2
    have fe : ({ cls := .type "enumerate", dict := none, data := .fields #[.none, .bool false, .ref it, rawInt ((i : Int) + 1), .none, u], slots := #[] } : Obj).isFreed = false := rfl
    have I1 : Inv X pins σ H { s with heap := s.heap.update it fun _ => oi } := I.turned (t' := s.toks) (fun b o hb q => by rw [Heap.get?_update_other _ _ (Ne.symm hb)]; exact q) i0 i1 i3 i4 i5
    have ge1 : (s.heap.update it fun _ => oi).get? e = some _ := (Heap.get?_update_other _ _ (Ne.symm hne)).trans he
    have I2 : Inv X pins σ H { s with heap := (s.heap.update it fun _ => oi).update e fun _ => { cls := .type "enumerate", dict := none, data := .fields #[.none, .bool false, .ref it, rawInt ((i : Int) + 1), .none, u], slots := #[] } } :=
      I1.turned (t' := s.toks) (fun b o hb q => by rw [Heap.get?_update_other _ _ (Ne.symm hb)]; exact q) e0 e1 e3 e4 e5
    have sz : ((s.heap.update it fun _ => oi).update e fun _ => { cls := .type "enumerate", dict := none, data := .fields #[.none, .bool false, .ref it, rawInt ((i : Int) + 1), .none, u], slots := #[] }).objs.size = s.heap.objs.size := by
      rw [(Heap.SameBut.update _ _ _).1, (Heap.SameBut.update _ _ _).1]
    have I3 : Inv X pins σ (upd H s.heap.objs.size (.tup [.int i, y])) { s with heap := h2, toks := tk + 1 } := by
      refine I2.laid (t' := tk + 1) (o := .tup [.int i, y]) (fun b o q => ?_) (Nat.le_of_eq sz) ⟨by show 2 ≤ sizeLine; decide, [.int i tk, u], .cons ⟨_, rfl⟩ (.cons ru .nil), ?_⟩
      · by_cases hbe : b = e
        · subst hbe
          rw [Heap.get?_update_self _ ge1 fe] at q
          rw [← Option.some.inj q]
          exact he2
        · rw [Heap.get?_update_other _ _ (Ne.symm hbe)] at q
          by_cases hbi : b = it
          · subst hbi
            rw [Heap.get?_update_self _ gi0 fi] at q
            rw [← Option.some.inj q]
            exact gi
          · rw [Heap.get?_update_other _ _ (Ne.symm hbi)] at q
            exact k2 b o hbe hbi q
      · exact ⟨⟨_, ht2, rfl, _, rfl⟩, _, ht2, rfl⟩
    have hn0 : H s.heap.objs.size = none := I.fresh
    refine ⟨.ref s.heap.objs.size, _, I3, rfl, ⟨_, y, hn0, fun ys hys => by rw [I.tuple_inj hys hq]; exact hy, rfl, rfl⟩, ⟨⟨u, he2⟩, hit2⟩, fun b hb => ?_⟩
    have hbp : b ≠ s.heap.objs.size := by
      rcases List.mem_cons.mp hb with rfl | hb
      · exact Nat.ne_of_lt (Heap.lt_size he)
      · obtain rfl := List.mem_singleton.mp hb
        exact Nat.ne_of_lt (Heap.lt_size gi0)
    rw [upd_ne hbp]
    exact (hf b hb).1
  done := by
    intro X hP hw hK hc i pins s σ H E I hf st hg
    subst hP hw hK
    obtain ⟨⟨old, he⟩, hit⟩ := st
    obtain ⟨xs, hq, hle⟩ := hg
    obtain ⟨its, rv, pl, hz⟩ := I.tuple hq
    obtain ⟨i0, i1, i2, i3, i4, i5⟩ := hf it (by simp)
    refine HZ.next_enum_end (I.ok.hd hc) he hit (show s.heap.IsTuple a its.toArray from pl) (by have := rv.length; simp; omega) fun h' kk => ⟨rfl, ?_⟩
    exact I.turned (t' := s.toks) (fun b o hb q => kk b o hb q) i0 i1 i3 i4 i5
  self := fun A i s Q E st h => by
    obtain ⟨⟨old, he⟩, _⟩ := st
    exact wpAny_pyIter_enum he h
def iEnumT (K : PySem.W.Frag) (tl : TE) : TI := fun σ H R => tl σ H fun x H1 => ∃ a, x = .ref a ∧ (∃ xs, SqT K H1 a xs) ∧ R (IteT K a) H1
theorem pi_enumT {l : Expr} {tl : TE} {es : List Expr} {kt : Nat} {tp p pos : Pos} (hl : PE X l tl) (hg : Gl X "enumerate") (hm : X.mg "enumerate" = none) (hs : starEach [l] X.env = [(false, eval l X.env)] := by rfl) :
    PI X (.Tuple es kt tp) (.Call (.Name "enumerate" p) [l] [] pos) (iEnumT X.K tl) := by
  intro pins s σ H R I h
  refine Call_ (ld_blt I hg hm boot_enumerate (PyProof.Rows.callWith_type1 ?_ hs rfl))
  rw [hs]
  show wpAny _ _ (spliced ((false, eval l X.env) :: [])) _ _ s
  refine Calls.spliced_cons (thn (hl pins s σ H _ I h) fun v s1 ⟨x, H1, I1, r1, q1⟩ => Calls.spliced_nil ?_)
  obtain ⟨a, e, ⟨xs, hq⟩, q⟩ := q1
  subst e
  cases r1
  obtain ⟨its, rv, pl, hz⟩ := I1.tuple hq
  refine HZ.call_enumT (show s1.heap.IsTuple a its.toArray from pl) fun h' he hit hsz kk => ?_
  refine wpAny_pyIter_enum he ?_
  have I2 : Inv X pins σ H1 { s1 with heap := h' } := I1.kept (t' := s1.toks) kk
  refine ⟨s1.heap.objs.size + 1, [s1.heap.objs.size + 1, s1.heap.objs.size], _, _, H1, rfl, I2, turn_enumT a _ _ (Nat.succ_ne_self _), ⟨⟨_, he⟩, hit⟩, fun b hb => ?_, q⟩
  rcases List.mem_cons.mp hb with rfl | hb
  · exact I1.fpOk (Nat.le_succ _) (I1.hok.fresh (Nat.le_succ _))
  · obtain rfl := List.mem_singleton.mp hb
    exact I1.fpOk (Nat.le_refl _) (I1.hok.fresh (Nat.le_refl _))
theorem for_enumT {K : PySem.W.Frag} {a : Addr} {xs : List V} {g : TG} {tb : TS} {D : Ends} {σ : St} {H : Hp} (Pv : Nat → St → Hp → Prop) (h0 : Pv 0 σ H) (hl : ∀ i σ H, i ≤ xs.length → Pv i σ H → SqT K H a xs)
    (hs : ∀ i x p σ H, xs[i]? = some x → H p = none → Pv i σ H → g (.ref p) σ (upd H p (.tup [.int i, x])) fun σ2 H2 => tb { D with nx := Pv (i + 1), ct := Pv (i + 1), bk := D.nx } σ2 H2) (hd : ∀ σ H, Pv xs.length σ H → D.nx σ H) :
    ∃ W : Nat → Nat → St → Hp → Prop, (∃ m, W 0 m σ H) ∧ ∀ i m σ H, W i m σ H →
      ((IteT K a).stop i H ∧ D.nx σ H) ∨ ((IteT K a).go i H ∧ ∃ N : St → Hp → Prop, (∀ σ' H', N σ' H' → ∃ m', m' < m ∧ W (i + 1) m' σ' H') ∧ ∀ x H', (IteT K a).yld i H x H' → g x σ H' fun σ2 H2 => tb { D with nx := N, ct := N, bk := D.nx } σ2 H2) := by
  refine ⟨fun i m σ H => m = xs.length - i ∧ i ≤ xs.length ∧ Pv i σ H, ⟨xs.length, by simp, Nat.zero_le _, h0⟩, ?_⟩
  rintro i m σ H ⟨rfl, hi, p⟩
  have q := hl i σ H hi p
  by_cases hlt : i < xs.length
  · refine .inr ⟨⟨xs, xs[i], q, by simp [hlt]⟩, Pv (i + 1), fun σ' H' p' => ⟨xs.length - (i + 1), by omega, rfl, hlt, p'⟩, fun x H' y => ?_⟩
    obtain ⟨pp, v, hn, hv, rfl, rfl⟩ := y
    exact hs i v pp σ H (hv xs q) hn p
  · have e : i = xs.length := by omega
    subst e
    exact .inl ⟨⟨xs, q, Nat.le_refl _⟩, hd σ H p⟩
end
end L2
namespace Mi
open PySem L2
abbrev Rw := Str × Str
def val (G : List Rw) (n : Str) : Option Str := (G.find? fun p => decide (p.1 = n)).map (·.2)
theorem val_nil (n : Str) : val [] n = none := rfl
theorem val_cons (p : Rw) (G : List Rw) (n : Str) : val (p :: G) n = if p.1 = n then some p.2 else val G n := by
  unfold val
  rw [List.find?_cons]
  by_cases h : p.1 = n
  · rw [if_pos h]; simp [h]
  · rw [if_neg h]; simp [h]
theorem val_none {G : List Rw} {n : Str} : val G n = none ↔ n ∉ G.map (·.1) := by
  induction G with
  | nil => simp [val_nil]
  | cons p G ih =>
    rw [val_cons, List.map_cons, List.mem_cons, not_or]
    by_cases h : p.1 = n
    · rw [if_pos h]; simp [h]
    · rw [if_neg h, ih]
      exact ⟨fun z => ⟨fun e => h e.symm, z⟩, fun z => z.2⟩
theorem val_mem {G : List Rw} {n m : Str} (h : val G n = some m) : (n, m) ∈ G := by
  induction G with
  | nil => cases h
  | cons p G ih =>
    rw [val_cons] at h
    by_cases e : p.1 = n
    · rw [if_pos e] at h
      cases h
      subst e
      exact List.mem_cons_self ..
    · rw [if_neg e] at h
      exact List.mem_cons_of_mem _ (ih h)
theorem val_of {G : List Rw} (nd : (G.map (·.1)).Nodup) {r : Rw} (h : r ∈ G) : val G r.1 = some r.2 := by
  induction G with
  | nil => cases h
  | cons p G ih =>
    rw [List.map_cons, List.nodup_cons] at nd
    rw [val_cons]
    rcases List.mem_cons.mp h with e | h
    · subst e; rw [if_pos rfl]
    · rw [if_neg fun e => nd.1 (by rw [e]; exact List.mem_map.mpr ⟨r, h, rfl⟩), ih nd.2 h]
def stopF (G : List Rw) : Nat → List Str → Str → Str
  | 0, _, n => n
  | f + 1, P, n => match val G n with
    | none => n
    | some m => if n ∈ P then n else stopF G f (P ++ [n]) m
def stop (G : List Rw) (n : Str) : Str := stopF G (G.length + 1) [] n
theorem stop_none {G : List Rw} {n : Str} (h : val G n = none) : stop G n = n := by
  unfold stop stopF
  rw [h]
theorem stopF_succ {G : List Rw} {f : Nat} {P : List Str} {n m : Str} (h : val G n = some m) (hn : n ∉ P) : stopF G (f + 1) P n = stopF G f (P ++ [n]) m := by
  show (match val G n with | none => n | some m => if n ∈ P then n else stopF G f (P ++ [n]) m) = _
  rw [h]
  exact if_neg hn
theorem stopF_none {G : List Rw} {f : Nat} {P : List Str} {n : Str} (h : val G n = none) : stopF G f P n = n := by
  cases f with
  | zero => rfl
  | succ f =>
    show (match val G n with | none => n | some m => if n ∈ P then n else stopF G f (P ++ [n]) m) = _
    rw [h]
theorem stop_one {G : List Rw} {n m : Str} (h : val G n = some m) (h2 : val G m = none) : stop G n = m := by
  unfold stop
  rw [stopF_succ h (by simp), stopF_none h2]
structure Flat (R : List Rw) : Prop where
  nd : (R.map (·.1)).Nodup
  no : ∀ r ∈ R, val R r.2 = none
theorem Flat.stop {R : List Rw} (f : Flat R) (n : Str) : stop R n = (val R n).getD n ∧ val R (Mi.stop R n) = none := by
  cases h : val R n with
  | none => rw [stop_none h]; exact ⟨rfl, h⟩
  | some m =>
    have hm := f.no _ (val_mem h)
    rw [stop_one h hm]
    exact ⟨rfl, hm⟩
def more (R : List Rw) (one en : Str) : List Rw := ((R.filter fun r => decide (r.1 ≠ one)).map fun r => (r.1, if r.2 = one then en else r.2)) ++ [(one, en)]
def with1 (R : List Rw) (one en : Str) : List Rw := (R.filter fun r => decide (r.1 ≠ one)) ++ [(one, en)]
theorem with1_val {R : List Rw} (nd : (R.map (·.1)).Nodup) (one en n : Str) : val (with1 R one en) n = if n = one then some en else val R n := by
  unfold with1
  induction R with
  | nil =>
    show val [(one, en)] n = _
    rw [val_cons]
    by_cases h : n = one
    · rw [if_pos h.symm, if_pos h]
    · rw [if_neg (Ne.symm h), if_neg h]
  | cons p R ih =>
    rw [List.map_cons, List.nodup_cons] at nd
    rw [List.filter_cons]
    by_cases h : p.1 = one
    · rw [if_neg (by simpa using h), ih nd.2, val_cons]
      by_cases e : n = one
      · rw [if_pos e, if_pos e]
      · rw [if_neg e, if_neg e, if_neg fun z => e (z.symm.trans h)]
    · rw [if_pos (by simpa using h), List.cons_append, val_cons, val_cons]
      by_cases e : p.1 = n
      · rw [if_pos e, if_pos e, if_neg fun z => h (e.trans z)]
      · rw [if_neg e, if_neg e, ih nd.2]
def Rise (R : List Rw) : Prop := R.Pairwise fun a b => HS.ltS a.1 b.1 = true
theorem Rise.nd {R : List Rw} (h : Rise R) : (R.map (·.1)).Nodup := by
  rw [List.Nodup, List.pairwise_map]
  exact h.imp fun {a b} z e => by rw [e, HS.ltS_irr] at z; cases z
theorem more_val {R : List Rw} (nd : (R.map (·.1)).Nodup) (one en n : Str) : val (more R one en) n = if n = one then some en else (val R n).map fun g => if g = one then en else g := by
  cases h : val (more R one en) n with
  | none =>
    have hk := val_none.mp h
    have e : (more R one en).map (·.1) = (with1 R one en).map (·.1) := by
      unfold more with1
      rw [List.map_append, List.map_append, List.map_map]
      rfl
    rw [e] at hk
    have hw := val_none.mpr hk
    rw [with1_val nd] at hw
    by_cases c : n = one
    · rw [if_pos c] at hw; cases hw
    · rw [if_neg c] at hw
      rw [if_neg c, hw]
      rfl
  | some m =>
    have hm := val_mem h
    unfold more at hm
    rcases List.mem_append.mp hm with hm | hm
    · obtain ⟨q, hq, e⟩ := List.mem_map.mp hm
      obtain ⟨h1, h2⟩ := List.mem_filter.mp hq
      injection e with e1 e2
      subst e1 e2
      have h3 : ¬ q.1 = one := by simpa using h2
      show some (if q.2 = one then en else q.2) = if q.1 = one then some en else (val R q.1).map fun g => if g = one then en else g
      rw [if_neg h3, val_of nd h1]
      rfl
    · have : (n, m) = (one, en) := by simpa using hm
      injection this with e1 e2
      subst e1 e2
      rw [if_pos rfl]
def putS (D : List Rw) (n y : Str) : List Rw := if D.any (fun p => decide (p.1 = n)) then D.map (fun p => if p.1 = n then (p.1, y) else p) else D ++ [(n, y)]
def dkOf (D : List Rw) : List (Key × V) := D.map fun p => ((Sum.inr p.1 : Key), V.str p.2)
theorem dk_val (D : List Rw) (n : Str) : valV (dkOf D) (Sum.inr n) = (val D n).map V.str := by
  induction D with
  | nil => rfl
  | cons p D ih =>
    rw [val_cons]
    show valV ((Sum.inr p.1, V.str p.2) :: dkOf D) _ = _
    by_cases h : p.1 = n
    · rw [valV_pos (show ((Sum.inr p.1 : Key), V.str p.2).1 = Sum.inr n by rw [h]), if_pos h]; rfl
    · rw [valV_neg (show ¬ ((Sum.inr p.1 : Key), V.str p.2).1 = Sum.inr n from fun e => h (Sum.inr.inj e)), if_neg h, ih]
theorem dk_put (D : List Rw) (n y : Str) : putK (dkOf D) (Sum.inr n) (V.str y) = dkOf (putS D n y) := by
  have e1 : ((dkOf D).any fun kv => decide (kv.1 = (Sum.inr n : Key))) = D.any fun p => decide (p.1 = n) := by
    unfold dkOf
    rw [List.any_map]
    congr 1
    funext p
    show decide ((Sum.inr p.1 : Key) = Sum.inr n) = _
    rw [key_rr]
  unfold putK putS
  rw [e1]
  split
  · unfold dkOf
    rw [List.map_map, List.map_map]
    refine List.map_congr_left fun p _ => ?_
    show (if (Sum.inr p.1 : Key) = Sum.inr n then ((Sum.inr p.1 : Key), V.str y) else ((Sum.inr p.1 : Key), V.str p.2)) = _
    by_cases h : p.1 = n
    · rw [if_pos (by rw [h])]; show _ = ((Sum.inr (if p.1 = n then (p.1, y) else p).1 : Key), V.str (if p.1 = n then (p.1, y) else p).2); rw [if_pos h]
    · rw [if_neg fun e => h (Sum.inr.inj e)]; show _ = ((Sum.inr (if p.1 = n then (p.1, y) else p).1 : Key), V.str (if p.1 = n then (p.1, y) else p).2); rw [if_neg h]
  · unfold dkOf
    rw [List.map_append]
    rfl
theorem putS_val (D : List Rw) (n y m : Str) : val (putS D n y) m = if m = n then some y else val D m := by
  have h := valV_put (dkOf D) (Sum.inr n) (Sum.inr m) (V.str y)
  rw [dk_put, dk_val, dk_val] at h
  by_cases e : m = n
  · rw [if_pos (by rw [e])] at h
    rw [if_pos e]
    cases hv : val (putS D n y) m with
    | none => rw [hv] at h; cases h
    | some z => rw [hv] at h; injection h with h; injection h with h; rw [h]
  · rw [if_neg fun z => e (Sum.inr.inj z)] at h
    rw [if_neg e]
    cases hv : val (putS D n y) m with
    | none => cases hw : val D m with
      | none => rfl
      | some z => rw [hv, hw] at h; cases h
    | some z => cases hw : val D m with
      | none => rw [hv, hw] at h; cases h
      | some z' => rw [hv, hw] at h; injection h with h; injection h with h; rw [h]
end Mi
namespace Co
open PySem L2 Mi
def Has (P : Program) (w : World) (K : PySem.W.Frag) (mg : Str → Option Value) (base : Heap) (x : Str) (k : Nat) (ps : List Str) (sp : Sp) : Prop :=
  ∃ (f : Addr) (fd : FuncData), FnOk P w K mg base CX0 k f fd ps sp ∧ Binds K fd ps [] ∧ PySem.W.keepIn K (.ref f) = true ∧ mg x = some (.ref f)
def HasE (P : Program) (w : World) (K : PySem.W.Frag) (mg : Str → Option Value) (base : Heap) (x : Str) (k : Nat) (ps : List Str) (sp : Sp) : Prop :=
  ∃ (f : Addr) (fd : FuncData), FnOk P w K mg base (CXE P w) k f fd ps sp ∧ Binds K fd ps [] ∧ PySem.W.keepIn K (.ref f) = true ∧ mg x = some (.ref f)
theorem pe_callH {X : Cx} {x : Str} {k : Nat} {ps : List Str} {sp : Sp} {e : Expr} {es : List Expr} {t : TA} {p pos : Pos} (h : Has X.prog X.w X.K X.mg X.base x k ps sp) (hr : Room k X.A) (hg : Gl X x) (ha : PA X (e :: es) t)
    (hdb : (x == ("__debug__" : Str)) = false := by decide) (he : starEach (e :: es) X.env = (false, eval e X.env) :: starEach es X.env := by rfl) (hpl : (backTo pos (starEach es X.env)).any (·.1) = false := by rfl) :
    PE X (.Call (.Name x p) (e :: es) [] pos) (tCall sp [] E0 t) := by
  obtain ⟨f, fd, F, b, kp, m⟩ := h
  exact pe_call F hr hg m kp b .nil pass0 ha hdb he hpl
theorem Has.mono {P : Program} {w : World} {K : PySem.W.Frag} {mg : Str → Option Value} {base : Heap} {x : Str} {j k : Nat} {ps : List Str} {sp : Sp} (h : Has P w K mg base x j ps sp) (hk : j ≤ k) : Has P w K mg base x k ps sp := by
  obtain ⟨f, fd, F, b, kp, m⟩ := h
  exact ⟨f, fd, F.mono hk, b, kp, m⟩
theorem HasE.mono {P : Program} {w : World} {K : PySem.W.Frag} {mg : Str → Option Value} {base : Heap} {x : Str} {j k : Nat} {ps : List Str} {sp : Sp} (h : HasE P w K mg base x j ps sp) (hk : j ≤ k) : HasE P w K mg base x k ps sp := by
  obtain ⟨f, fd, F, b, kp, m⟩ := h
  exact ⟨f, fd, F.mono hk, b, kp, m⟩
theorem boot_all : bootBuiltins (Str.ofString "all") = some (Value.builtin "all") := by decide +kernel
theorem boot_isinstance : bootBuiltins (Str.ofString "isinstance") = some (Value.builtin "isinstance") := by decide +kernel
theorem boot_str : bootBuiltins (Str.ofString "str") = some (Value.type "str") := by decide +kernel
theorem boot_tuple : bootBuiltins (Str.ofString "tuple") = some (Value.type "tuple") := by decide +kernel
theorem boot_list : bootBuiltins (Str.ofString "list") = some (Value.type "list") := by decide +kernel
theorem boot_dict : bootBuiltins (Str.ofString "dict") = some (Value.type "dict") := by decide +kernel
theorem big (n : Nat) (h : n ≤ 100000) : n ≤ sizeLine := by rw [sizeLine_eq]; omega
theorem bigl (n : Nat) (h : n ≤ 100000) : n < sizeLine := by rw [sizeLine_eq]; omega
theorem iteN {c A B : Prop} [Decidable c] (hc : ¬ c) (h : B) : if decide c = true then A else B := by
  rw [decide_eq_false hc]
  exact iteF h
theorem iteY {c A B : Prop} [Decidable c] (hc : c) (h : A) : if decide c = true then A else B := by
  rw [decide_eq_true hc]
  exact iteT h
structure Blt (mg : Str → Option Value) : Prop where
  len : mg "len" = none
  all : mg "all" = none
  isi : mg "isinstance" = none
  str : mg "str" = none
  int : mg "int" = none
  bool : mg "bool" = none
  tuple : mg "tuple" = none
  list : mg "list" = none
  range : mg "range" = none
  zip : mg "zip" = none
  any : mg "any" = none
  sorted : mg "sorted" = none
  dict : mg "dict" = none
  enumerate : mg "enumerate" = none
abbrev WS (mg : Str → Option Value) : Prop := ∃ t, mg "WORD_SIGNS" = some (.str "abcdefghijklmnopqrstuvwxyz0123456789" t)
abbrev IsInt (mg : Str → Option Value) (x : Str) (n : Int) : Prop := ∃ t, mg x = some (.int n t)
def sp1 (P : Str → Prop) (g : Str → V) : Sp := fun vs H Q _ => ∃ x, vs = [.str x] ∧ P x ∧ ∀ H', Same H H' → Q (g x) H'
theorem slice_len (x : Str) (l u : Option Int) : (Txt.slice x l u).length ≤ x.length := Txt.slice_le x l u
theorem split_part (z y t : Str) (h : t ∈ Txt.split z y) : t.length ≤ z.length := by
  unfold Txt.split at h
  split at h
  · simp at h; rw [h]; exact Nat.le_refl _
  · split at h
    · simp at h; rw [h]; exact Nat.le_refl _
    · unfold Builtin.Str.partsBetween at h
      obtain ⟨p, _, rfl⟩ := List.mem_map.mp h
      exact le_strSub z p.1 p.2
def Scr (K : PySem.W.Frag) (H : Hp) (a : Addr) (ns : List Int) : Prop :=
  (∃ o, H a = some (.frz o (.lst (ns.map V.int)))) ∨
    ∃ (o : Obj) (its : Array Value) (n : Nat), K.lookup a = some o ∧ o.cls = .type "list" ∧ o.dict = none ∧ o.data = .seq its n ∧ its.size ≤ sizeLine ∧ Vals (ns.map V.int) its.toList
theorem Scr.sq {K : PySem.W.Frag} {H : Hp} {a : Addr} {ns : List Int} (h : Scr K H a ns) : SqL K H a (ns.map V.int) := by
  rcases h with ⟨o, h⟩ | h
  · exact .inl (.inr ⟨o, h⟩)
  · exact .inr h
def Stp (t : Addr) (H H' : Hp) : Prop := ∀ b o, b ≠ t → H b = some o → H' b = some o
theorem Stp.refl (t : Addr) (H : Hp) : Stp t H H := fun _ _ _ h => h
theorem Stp.trans {t : Addr} {H H1 H2 : Hp} (a : Stp t H H1) (b : Stp t H1 H2) : Stp t H H2 := fun c o hc h => b c o hc (a c o hc h)
theorem _root_.L2.Same.stp {t : Addr} {H H' : Hp} (s : Same H H') : Stp t H H' := fun b o _ h => s b o h
theorem Stp.upd {t : Addr} {H : Hp} (o : HO) : Stp t H (upd H t o) := fun b u hb h => by rw [upd_ne hb]; exact h
theorem Scr.stp {K : PySem.W.Frag} {H H' : Hp} {a t : Addr} {ns : List Int} {zs : List V} (h : Scr K H a ns) (ht : H t = some (.lst zs)) (s : Stp t H H') : Scr K H' a ns := by
  rcases h with ⟨o, h⟩ | h
  · refine .inl ⟨o, s a _ (fun e => ?_) h⟩
    rw [e, ht] at h
    cases h
  · exact .inr h
theorem Scr.same {K : PySem.W.Frag} {H H' : Hp} {a : Addr} {ns : List Int} (h : Scr K H a ns) (s : Same H H') : Scr K H' a ns := by
  rcases h with ⟨o, h⟩ | h
  · exact .inl ⟨o, s a _ h⟩
  · exact .inr h
theorem tup_stp {K : PySem.W.Frag} {H H' : Hp} {p t : Addr} {xs zs : List V} (h : SqT K H p xs) (ht : H t = some (.lst zs)) (s : Stp t H H') : SqT K H' p xs := by
  rcases h with (h | ⟨o, h⟩) | h
  · exact .inl (.inl (s p _ (fun e => by rw [e, ht] at h; cases h) h))
  · exact .inl (.inr ⟨o, s p _ (fun e => by rw [e, ht] at h; cases h) h⟩)
  · exact .inr h
def spDraw (K : PySem.W.Frag) : Sp := fun vs H Q _ => ∃ (a t : Addr) (ns : List Int) (zs : List V) (m : Int), vs = [.ref a, .ref t, .int m] ∧ Scr K H a ns ∧ ns.length ≤ 63 ∧ H t = some (.lst zs) ∧ zs.length < 100000 ∧ 0 < m ∧
  ∀ (r : Int) (H' : Hp), 0 ≤ r → r < m → H' t = some (.lst (zs ++ [.int 0])) → Stp t H H' → Q (.int r) H'
def spPick (K : PySem.W.Frag) : Sp := fun vs H Q _ => ∃ (a t : Addr) (ns : List Int) (zs : List V), Scr K H a ns ∧ ns.length ≤ 63 ∧ H t = some (.lst zs) ∧ zs.length < 100000 ∧
  ((∃ (l : Addr) (xs : List V), vs = [.ref a, .ref t, .ref l] ∧ H l = some (.lst xs) ∧ l ≠ t ∧ 0 < xs.length ∧ ∀ (x : V) (H' : Hp), x ∈ xs → H' t = some (.lst (zs ++ [.int 0])) → Stp t H H' → Q x H') ∨
   (∃ z : Str, vs = [.ref a, .ref t, .str z] ∧ 0 < z.length ∧ z.length ≤ 1000 ∧ ∀ (c : Nat) (H' : Hp), c ∈ z.cps.toList → H' t = some (.lst (zs ++ [.int 0])) → Stp t H H' → Q (.str ⟨#[c]⟩) H'))
theorem at_mod {ns : List Int} (h : ns ≠ []) (k : Int) : ∃ v : Int, atI (ns.map V.int) (k % ((ns.map V.int).length : Int)) = some (.int v) := by
  have hl : 0 < ns.length := List.length_pos_iff.mpr h
  have e : ((ns.map V.int).length : Int) = (ns.length : Int) := by rw [List.length_map]
  rw [e]
  have h0 := Int.emod_nonneg k (b := (ns.length : Int)) (by omega)
  have h1 := Int.emod_lt_of_pos k (b := (ns.length : Int)) (by omega)
  generalize k % (ns.length : Int) = i at h0 h1 ⊢
  obtain ⟨j, rfl⟩ : ∃ j : Nat, i = (j : Int) := ⟨i.toNat, by omega⟩
  have hj : j < ns.length := by omega
  exact ⟨ns[j], atI_nat (by rw [List.getElem?_map, List.getElem?_eq_getElem hj]; rfl)⟩
theorem at_place {α : Type} {xs : List α} {r : Int} (h0 : 0 ≤ r) (h1 : r < (xs.length : Int)) : ∃ v, atI xs r = some v ∧ v ∈ xs := by
  obtain ⟨j, rfl⟩ : ∃ j : Nat, r = (j : Int) := ⟨r.toNat, by omega⟩
  have hj : j < xs.length := by omega
  exact ⟨xs[j], atI_nat (List.getElem?_eq_getElem hj), List.getElem_mem hj⟩
def spLaw (K : PySem.W.Frag) : Sp := fun vs H Q _ => ∃ (a : Addr) (ns : List Int), vs = [.ref a] ∧ Scr K H a ns ∧ ns.length ≤ 63 ∧ ∀ H', Q (.bl true) H'
theorem scr_of {K : PySem.W.Frag} {H : Hp} {a : Addr} {ns : List Int} (hO : Only H) (hS : SqL K H a (ns.map V.int)) : Scr K H a ns := by
  rcases hS with (h | ⟨o, h⟩) | h
  · rcases hO a with z | ⟨o, xs, z⟩
    · rw [z] at h; cases h
    · rw [z] at h; cases h
  · exact .inl ⟨o, h⟩
  · exact .inr h
def Alike0 (x y : V) : Prop := (x = .non ∧ y = .non) ∨ (∃ b, x = .bl b ∧ y = .bl b) ∨ (∃ i, x = .int i ∧ y = .int i) ∨ ∃ z, x = .str z ∧ y = .str z
def Alike (K : PySem.W.Frag) (H : Hp) : Nat → V → V → Prop
  | 0, x, y => Alike0 x y
  | n + 1, x, y => Alike0 x y ∨ ∃ a b xs ys, x = .ref a ∧ y = .ref b ∧ SqT K H a xs ∧ SqT K H b ys ∧ xs.length = ys.length ∧ xs.length ≤ 1000 ∧ ∀ (i : Nat) u v, xs[i]? = some u → ys[i]? = some v → Alike K H n u v
theorem Alike.same {K : PySem.W.Frag} {H H' : Hp} (s : Same H H') : ∀ {n : Nat} {x y : V}, Alike K H n x y → Alike K H' n x y
  | 0, _, _, h => h
  | n + 1, _, _, h => by
    rcases h with h | ⟨a, b, xs, ys, e1, e2, h1, h2, hl, hm, h3⟩
    · exact .inl h
    · exact .inr ⟨a, b, xs, ys, e1, e2, s.tup h1, s.tup h2, hl, hm, fun i u v hu hv => (h3 i u v hu hv).same s⟩
theorem Alike.up {K : PySem.W.Frag} {H : Hp} : ∀ {n : Nat} {x y : V}, Alike K H n x y → Alike K H (n + 1) x y
  | 0, _, _, h => .inl h
  | n + 1, _, _, h => by
    rcases h with h | ⟨a, b, xs, ys, e1, e2, h1, h2, hl, hm, h3⟩
    · exact .inl h
    · exact .inr ⟨a, b, xs, ys, e1, e2, h1, h2, hl, hm, fun i u v hu hv => (h3 i u v hu hv).up⟩
theorem Alike.mono {K : PySem.W.Frag} {H : Hp} {m n : Nat} {x y : V} (h : Alike K H m x y) (hm : m ≤ n) : Alike K H n x y := by
  induction hm with
  | refl => exact h
  | step _ ih => exact ih.up
def Thg0 (K : PySem.W.Frag) (H : Hp) (v : V) : Prop := (∃ x : Str, v = .str x ∧ x.length ≤ 1000) ∨ v = .non ∨ (∃ i, v = .int i) ∨ (∃ b, v = .bl b) ∨ (∃ a xs, v = .ref a ∧ SqT K H a xs) ∨ ∃ a xs, v = .ref a ∧ H a = some (.lst xs)
theorem Thg0.same {K : PySem.W.Frag} {H H' : Hp} {v : V} (h : Thg0 K H v) (s : Same H H') : Thg0 K H' v := by
  rcases h with h | h | h | h | ⟨a, xs, e, h⟩ | ⟨a, xs, e, h⟩
  · exact .inl h
  · exact .inr (.inl h)
  · exact .inr (.inr (.inl h))
  · exact .inr (.inr (.inr (.inl h)))
  · exact .inr (.inr (.inr (.inr (.inl ⟨a, xs, e, s.tup h⟩))))
  · exact .inr (.inr (.inr (.inr (.inr ⟨a, xs, e, s _ _ h⟩))))
def NoT (H : Hp) (v : V) : Prop := (∃ x : Str, v = .str x ∧ x.length ≤ 1000) ∨ v = .non ∨ (∃ i, v = .int i) ∨ (∃ b, v = .bl b) ∨ ∃ a xs, v = .ref a ∧ H a = some (.lst xs)
theorem NoT.thg {K : PySem.W.Frag} {H : Hp} {v : V} (h : NoT H v) : Thg0 K H v := by
  rcases h with h | h | h | h | h
  · exact .inl h
  · exact .inr (.inl h)
  · exact .inr (.inr (.inl h))
  · exact .inr (.inr (.inr (.inl h)))
  · exact .inr (.inr (.inr (.inr (.inr h))))
def isS : V → Bool
  | .str _ => true
  | _ => false
theorem call_isS {X : Cx} : CallR X (.builtin "isinstance") (fun xs H Q => ∃ v, xs = [v, .ty "str"] ∧ Thg0 X.K H v ∧ Q (.bl (isS v)) H) := by
  intro pins s σ H xs us Q I r h
  obtain ⟨v, rfl, th, q⟩ := h
  rcases th with ⟨x, rfl, _⟩ | rfl | ⟨i, rfl⟩ | ⟨b, rfl⟩ | ⟨a, ys, rfl, hq⟩ | ⟨a, ys, rfl, hq⟩
  · exact call_isinst pins s σ H _ us Q I r ⟨_, _, _, _, rfl, TyOf.str _, rfl, q⟩
  · exact call_isinst pins s σ H _ us Q I r ⟨_, _, _, _, rfl, TyOf.non, rfl, q⟩
  · exact call_isinst pins s σ H _ us Q I r ⟨_, _, _, _, rfl, TyOf.int _, rfl, q⟩
  · exact call_isinst pins s σ H _ us Q I r ⟨_, _, _, _, rfl, TyOf.bl _, rfl, q⟩
  · exact call_isTup pins s σ H _ us Q I r ⟨_, _, _, _, rfl, hq, rfl, q⟩
  · exact call_isinst pins s σ H _ us Q I r ⟨_, _, _, _, rfl, TyOf.lst hq, rfl, q⟩
theorem call_isT {X : Cx} : CallR X (.builtin "isinstance") (fun xs H Q => ∃ v, xs = [v, .ty "tuple"] ∧ ((∃ a ys, v = .ref a ∧ SqT X.K H a ys ∧ Q (.bl true) H) ∨ (NoT H v ∧ Q (.bl false) H))) := by
  intro pins s σ H xs us Q I r h
  obtain ⟨v, rfl, h⟩ := h
  rcases h with ⟨a, ys, rfl, hq, q⟩ | ⟨⟨x, rfl, _⟩ | rfl | ⟨i, rfl⟩ | ⟨b, rfl⟩ | ⟨a, ys, rfl, hq⟩, q⟩
  · exact call_isTup pins s σ H _ us Q I r ⟨_, _, _, _, rfl, hq, rfl, q⟩
  · exact call_isinst pins s σ H _ us Q I r ⟨_, _, _, _, rfl, TyOf.str _, rfl, q⟩
  · exact call_isinst pins s σ H _ us Q I r ⟨_, _, _, _, rfl, TyOf.non, rfl, q⟩
  · exact call_isinst pins s σ H _ us Q I r ⟨_, _, _, _, rfl, TyOf.int _, rfl, q⟩
  · exact call_isinst pins s σ H _ us Q I r ⟨_, _, _, _, rfl, TyOf.bl _, rfl, q⟩
  · exact call_isinst pins s σ H _ us Q I r ⟨_, _, _, _, rfl, TyOf.lst hq, rfl, q⟩
end Co
namespace Co
open PySem L2 Mi
def Thg (K : PySem.W.Frag) (H : Hp) (v : V) : Prop := NoT H v ∨ ∃ a xs, v = .ref a ∧ SqT K H a xs ∧ xs.length ≤ 1000 ∧ ∀ x ∈ xs, Thg0 K H x
theorem NoT.same {H H' : Hp} {v : V} (h : NoT H v) (s : Same H H') : NoT H' v := by
  rcases h with h | h | h | h | ⟨a, xs, e, h⟩
  · exact .inl h
  · exact .inr (.inl h)
  · exact .inr (.inr (.inl h))
  · exact .inr (.inr (.inr (.inl h)))
  · exact .inr (.inr (.inr (.inr ⟨a, xs, e, s _ _ h⟩)))
theorem Thg.same {K : PySem.W.Frag} {H H' : Hp} {v : V} (h : Thg K H v) (s : Same H H') : Thg K H' v := by
  rcases h with h | ⟨a, xs, e, h, hl, hx⟩
  · exact .inl (h.same s)
  · exact .inr ⟨a, xs, e, s.tup h, hl, fun x hm => (hx x hm).same s⟩
theorem NoT.stp {H H' : Hp} {t : Addr} {zs zs' : List V} {v : V} (h : NoT H v) (s : Stp t H H') (h2 : H' t = some (.lst zs')) : NoT H' v := by
  rcases h with h | h | h | h | ⟨a, xs, e, h⟩
  · exact .inl h
  · exact .inr (.inl h)
  · exact .inr (.inr (.inl h))
  · exact .inr (.inr (.inr (.inl h)))
  · by_cases ha : a = t
    · exact .inr (.inr (.inr (.inr ⟨a, zs', e, ha ▸ h2⟩)))
    · exact .inr (.inr (.inr (.inr ⟨a, xs, e, s a _ ha h⟩)))
theorem Thg0.stp {K : PySem.W.Frag} {H H' : Hp} {t : Addr} {zs zs' : List V} {v : V} (h : Thg0 K H v) (ht : H t = some (.lst zs)) (s : Stp t H H') (h2 : H' t = some (.lst zs')) : Thg0 K H' v := by
  rcases h with h | h | h | h | ⟨a, xs, e, h⟩ | ⟨a, xs, e, h⟩
  · exact .inl h
  · exact .inr (.inl h)
  · exact .inr (.inr (.inl h))
  · exact .inr (.inr (.inr (.inl h)))
  · exact .inr (.inr (.inr (.inr (.inl ⟨a, xs, e, tup_stp h ht s⟩))))
  · by_cases ha : a = t
    · exact .inr (.inr (.inr (.inr (.inr ⟨a, zs', e, ha ▸ h2⟩))))
    · exact .inr (.inr (.inr (.inr (.inr ⟨a, xs, e, s a _ ha h⟩))))
theorem Thg.stp {K : PySem.W.Frag} {H H' : Hp} {t : Addr} {zs zs' : List V} {v : V} (h : Thg K H v) (ht : H t = some (.lst zs)) (s : Stp t H H') (h2 : H' t = some (.lst zs')) : Thg K H' v := by
  rcases h with h | ⟨a, xs, e, h, hl, hx⟩
  · exact .inl (h.stp (zs := zs) s h2)
  · exact .inr ⟨a, xs, e, tup_stp h ht s, hl, fun x hm => (hx x hm).stp ht s h2⟩
theorem rep_len (z : Str) (k : Nat) : (repS z k).length = k * z.length := by
  have key : ∀ (k : Nat) (acc : Array Nat), (List.foldl (· ++ ·) acc (List.replicate k z.cps)).size = acc.size + k * z.cps.size := fun k => by
    induction k with
    | zero => intro acc; simp
    | succ k ih => intro acc; rw [List.replicate_succ, List.foldl_cons, ih, Array.size_append, Nat.succ_mul]; omega
  have e := key k #[]
  show (List.foldl (· ++ ·) #[] (List.replicate k z.cps)).size = _
  rw [e]
  simp [Str.length]
section
variable {X : Cx}
theorem pe_mono {e : Expr} {t u : TE} (h : PE X e t) (hi : ∀ σ H Q, u σ H Q → t σ H Q) : PE X e u := fun pins s σ H Q I q => h pins s σ H Q I (hi σ H Q q)
end
end Co
namespace Co
open PySem L2 Mi
def RowsIn (H : Hp) (rs : List (Addr × Rw)) : Prop := ∀ r ∈ rs, H r.1 = some (.tup [V.str r.2.1, V.str r.2.2])
abbrev refs (rs : List (Addr × Rw)) : List V := rs.map fun r => V.ref r.1
def RowsAt (H : Hp) (a : Addr) (R : List Rw) : Prop := ∃ rs : List (Addr × Rw), H a = some (.tup (refs rs)) ∧ RowsIn H rs ∧ rs.map (·.2) = R
theorem RowsIn.ts {H H' : Hp} {rs : List (Addr × Rw)} (h : RowsIn H rs) (s : TS' H H') : RowsIn H' rs := fun r hr => s _ _ (h r hr)
theorem RowsAt.ts {H H' : Hp} {a : Addr} {R : List Rw} (h : RowsAt H a R) (s : TS' H H') : RowsAt H' a R := by
  obtain ⟨rs, h1, h2, h3⟩ := h
  exact ⟨rs, s _ _ h1, h2.ts s, h3⟩
theorem RowsAt.same {H H' : Hp} {a : Addr} {R : List Rw} (h : RowsAt H a R) (s : Same H H') : RowsAt H' a R := h.ts s.ts
theorem Stp.ts {t : Addr} {H H' : Hp} {zs : List V} (s : Stp t H H') (h : H t = some (.lst zs)) : TS' H H' := fun b xs hb => s b _ (fun e => by rw [e, h] at hb; cases hb) hb
theorem RowsIn.filter {H : Hp} {rs : List (Addr × Rw)} (h : RowsIn H rs) (p : Addr × Rw → Bool) : RowsIn H (rs.filter p) := fun r hr => h r (List.mem_filter.mp hr).1
end Co
namespace Mi
open PySem L2
theorem turn_end {R D : List Rw} {one en : Str} (nd : (R.map (·.1)).Nodup) (hv : ∀ n, val D n = (val R n).map fun g => if n ∈ (R.map (·.1)).take (R.map (·.1)).length ∧ g = one then en else g) : ∀ n, val (putS D one en) n = val (more R one en) n := fun n => by
  rw [putS_val, more_val nd, hv, List.take_length]
  by_cases c : n = one
  · rw [if_pos c, if_pos c]
  · rw [if_neg c, if_neg c]
    cases h : val R n with
    | none => rfl
    | some g =>
      have hm : n ∈ R.map (·.1) := List.mem_map.mpr ⟨_, val_mem h, rfl⟩
      simp [hm]
end Mi
namespace Co
open PySem L2 Mi
end Co
namespace Co
open PySem L2 Mi
def tStrs (ts : List Str) : TA := fun _ H Q => Q (ts.map V.str) H
end Co
namespace Co
open PySem L2 Mi
end Co
namespace Co
open PySem L2 Mi
end Co
namespace Mi
open PySem L2
def Ch (R : List Rw) : List Str → Str → Prop
  | [], _ => True
  | x :: P, n => val R x = some (P.headD n) ∧ Ch R P n
theorem Ch.snoc {R : List Rw} : ∀ {P : List Str} {n m : Str}, Ch R P n → val R n = some m → Ch R (P ++ [n]) m
  | [], n, m, _, h => ⟨h, trivial⟩
  | x :: P, n, m, h, hv => by
    obtain ⟨h1, h2⟩ := h
    refine ⟨?_, h2.snoc hv⟩
    cases P with
    | nil => exact h1
    | cons y P => exact h1
theorem Ch.drop {R : List Rw} : ∀ {A B : List Str} {n : Str}, Ch R (A ++ B) n → Ch R B n
  | [], _, _, h => h
  | _ :: A, B, n, h => Ch.drop (A := A) h.2
end Mi
namespace Co
open PySem L2 Mi
def grp (Rs : List Rw) (g : Str) : List Str := (Rs.filter fun r => decide (r.2 = g)).map (·.1)
theorem grp_snoc (Rs : List Rw) (r : Rw) (g : Str) : grp (Rs ++ [r]) g = grp Rs g ++ (if r.2 = g then [r.1] else []) := by
  unfold grp
  rw [List.filter_append, List.map_append]
  congr 1
  by_cases h : r.2 = g
  · rw [if_pos h]; simp [h]
  · rw [if_neg h]; simp [h]
theorem putK_keys {kvs : List (Key × V)} {us : List Str} {u : Str} {v : V} (h : kvs.map (·.1) = us.map Sum.inr) : (putK kvs (Sum.inr u) v).map (·.1) = (if u ∈ us then us else us ++ [u]).map Sum.inr := by
  have hany : (kvs.any fun kv => decide (kv.1 = (Sum.inr u : Key))) = decide (u ∈ us) := by
    rw [Bool.eq_iff_iff, List.any_eq_true, decide_eq_true_eq]
    constructor
    · rintro ⟨kv, hm, e⟩
      have hk : kv.1 ∈ kvs.map (·.1) := List.mem_map.mpr ⟨kv, hm, rfl⟩
      rw [h] at hk
      obtain ⟨t, ht, e2⟩ := List.mem_map.mp hk
      have e3 : kv.1 = Sum.inr u := by simpa using e
      have e4 : (Sum.inr t : Key) = Sum.inr u := e2.trans e3
      rw [← Sum.inr.inj e4]
      exact ht
    · intro hu
      have hk : (Sum.inr u : Key) ∈ us.map Sum.inr := List.mem_map.mpr ⟨u, hu, rfl⟩
      rw [← h] at hk
      obtain ⟨kv, hm, e⟩ := List.mem_map.mp hk
      exact ⟨kv, hm, by simpa using e⟩
  unfold putK
  rw [hany]
  by_cases c : u ∈ us
  · rw [decide_eq_true c, if_pos rfl, if_pos c, List.map_map, ← h]
    refine List.map_congr_left fun kv _ => ?_
    show (if kv.1 = Sum.inr u then (kv.1, v) else kv).1 = kv.1
    split <;> rfl
  · rw [decide_eq_false c, if_neg Bool.false_ne_true, if_neg c, List.map_append, List.map_append, h]
    rfl
def GrpAt (H : Hp) (d : Addr) (Rs : List Rw) (gs : List Str) : Prop := ∃ kvs : List (Key × V), H d = some (.dK kvs) ∧ kvs.map (·.1) = gs.map Sum.inr ∧ gs.Nodup ∧ (∀ g, g ∈ gs ↔ ∃ r ∈ Rs, r.2 = g) ∧ gs.length ≤ Rs.length ∧
  ∀ g, (g ∈ gs → ∃ b, valV kvs (Sum.inr g) = some (.ref b) ∧ H b = some (.tup ((grp Rs g).map V.str))) ∧ (g ∉ gs → valV kvs (Sum.inr g) = none)
theorem GrpAt.ts {H H' : Hp} {d : Addr} {Rs : List Rw} {gs : List Str} (h : GrpAt H d Rs gs) (s : TS' H H') (hd : ∀ kvs, H d = some (.dK kvs) → H' d = some (.dK kvs)) : GrpAt H' d Rs gs := by
  obtain ⟨kvs, h1, h2, h3, h4, h5, h6⟩ := h
  refine ⟨kvs, hd _ h1, h2, h3, h4, h5, fun g => ⟨fun hg => ?_, (h6 g).2⟩⟩
  obtain ⟨b, e1, e2⟩ := (h6 g).1 hg
  exact ⟨b, e1, s _ _ e2⟩
theorem GrpAt.same {H H' : Hp} {d : Addr} {Rs : List Rw} {gs : List Str} (h : GrpAt H d Rs gs) (s : Same H H') : GrpAt H' d Rs gs := h.ts s.ts fun kvs e => s _ _ e
theorem GrpAt.get {H : Hp} {d : Addr} {Rs : List Rw} {gs : List Str} (h : GrpAt H d Rs gs) (g : Str) {e : Addr} (he : H e = some (.tup [])) : ∃ o b, DGet H d (.str g) o ∧ o.getD (.ref e) = .ref b ∧ H b = some (.tup ((grp Rs g).map V.str)) := by
  obtain ⟨kvs, h1, h2, h3, h4, h5, h6⟩ := h
  by_cases hg : g ∈ gs
  · obtain ⟨b, e1, e2⟩ := (h6 g).1 hg
    exact ⟨_, b, DGet.k (k := Sum.inr g) h1, by rw [e1]; rfl, e2⟩
  · have hn : grp Rs g = [] := by
      unfold grp
      rw [List.map_eq_nil_iff, List.filter_eq_nil_iff]
      intro r hr hc
      exact hg ((h4 g).mpr ⟨r, hr, by simpa using hc⟩)
    exact ⟨_, e, DGet.k (k := Sum.inr g) h1, by rw [(h6 g).2 hg]; rfl, by rw [hn]; exact he⟩
theorem GrpAt.at {H : Hp} {d : Addr} {Rs : List Rw} {gs : List Str} (h : GrpAt H d Rs gs) {g : Str} (hg : g ∈ gs) : ∃ b, DGet H d (.str g) (some (.ref b)) ∧ H b = some (.tup ((grp Rs g).map V.str)) := by
  obtain ⟨kvs, h1, h2, h3, h4, h5, h6⟩ := h
  obtain ⟨b, e1, e2⟩ := (h6 g).1 hg
  have := DGet.k (k := Sum.inr g) h1
  rw [e1] at this
  exact ⟨b, this, e2⟩
theorem GrpAt.put {H : Hp} {d : Addr} {Rs : List Rw} {gs : List Str} (h : GrpAt H d Rs gs) (r : Rw) {b : Addr} (hb : H b = some (.tup ((grp Rs r.2 ++ [r.1]).map V.str))) (hl : Rs.length ≤ 1000) :
    ∃ H', DPut H d (.str r.2) (.ref b) H' ∧ GrpAt H' d (Rs ++ [r]) (if r.2 ∈ gs then gs else gs ++ [r.2]) ∧ ∀ c o, c ≠ d → H c = some o → H' c = some o := by
  obtain ⟨kvs, h1, h2, h3, h4, h5, h6⟩ := h
  have hkl : kvs.length = gs.length := by have := congrArg List.length h2; rw [List.length_map, List.length_map] at this; exact this
  refine ⟨_, DPut.k (k := Sum.inr r.2) h1 (bigl _ (by omega)), ⟨_, upd_same, putK_keys h2, ?_, fun g => ?_, ?_, fun g => ?_⟩, fun c o hc e => by rw [upd_ne hc]; exact e⟩
  · by_cases c : r.2 ∈ gs
    · rw [if_pos c]; exact h3
    · rw [if_neg c, List.nodup_append]
      exact ⟨h3, by simp, fun x hx y hy e => by rw [List.mem_singleton.mp hy] at e; exact c (e ▸ hx)⟩
  · have base' : (∃ z ∈ Rs ++ [r], z.2 = g) ↔ g ∈ gs ∨ g = r.2 := by
      rw [h4]
      constructor
      · rintro ⟨z, hz, e⟩
        rcases List.mem_append.mp hz with hz | hz
        · exact .inl ⟨z, hz, e⟩
        · rw [List.mem_singleton.mp hz] at e; exact .inr e.symm
      · rintro (⟨z, hz, e⟩ | e)
        · exact ⟨z, List.mem_append_left _ hz, e⟩
        · exact ⟨r, List.mem_append_right _ (by simp), e.symm⟩
    rw [base']
    by_cases c : r.2 ∈ gs
    · rw [if_pos c]; exact ⟨.inl, fun h => h.elim id fun e => e ▸ c⟩
    · rw [if_neg c, List.mem_append, List.mem_singleton]
  · rw [List.length_append, List.length_singleton]
    by_cases c : r.2 ∈ gs
    · rw [if_pos c]; omega
    · rw [if_neg c, List.length_append, List.length_singleton]; omega
  · have ndb : ∀ b' xs, H b' = some (.tup xs) → (upd H d (.dK (putK kvs (Sum.inr r.2) (.ref b))) : Hp) b' = some (.tup xs) := fun b' xs e => by
      rw [upd_ne (fun z => by rw [z, h1] at e; cases e)]; exact e
    rw [grp_snoc, valV_put]
    by_cases e : g = r.2
    · subst e
      have c1 : (if (Sum.inr r.2 : Key) = Sum.inr r.2 then some (V.ref b) else valV kvs (Sum.inr r.2)) = some (V.ref b) := if_pos rfl
      have c2 : (if r.2 = r.2 then [r.1] else []) = [r.1] := if_pos rfl
      rw [c1, c2]
      refine ⟨fun _ => ⟨b, rfl, ndb _ _ hb⟩, fun hn => absurd ?_ hn⟩
      by_cases c : r.2 ∈ gs
      · rw [if_pos c]; exact c
      · rw [if_neg c]; exact List.mem_append_right _ (by simp)
    · rw [if_neg (fun z => e (Sum.inr.inj z)), if_neg (Ne.symm e), List.append_nil]
      have hg : (g ∈ if r.2 ∈ gs then gs else gs ++ [r.2]) ↔ g ∈ gs := by
        by_cases c : r.2 ∈ gs
        · rw [if_pos c]
        · rw [if_neg c, List.mem_append, List.mem_singleton]
          exact ⟨fun h => h.elim id fun z => absurd z e, .inl⟩
      rw [hg]
      refine ⟨fun h => ?_, (h6 g).2⟩
      obtain ⟨b', e1, e2⟩ := (h6 g).1 h
      exact ⟨b', e1, ndb _ _ e2⟩
def TurnAt (H : Hp) (p : Addr) (U : List (Str × List Str)) : Prop := ∃ qs : List (Addr × Str × Addr × List Str), H p = some (.tup (qs.map fun q => V.ref q.1)) ∧ (∀ q ∈ qs, H q.1 = some (.tup [.str q.2.1, .ref q.2.2.1]) ∧ H q.2.2.1 = some (.tup (q.2.2.2.map V.str))) ∧ qs.map (fun q => (q.2.1, q.2.2.2)) = U
theorem TurnAt.ts {H H' : Hp} {p : Addr} {U : List (Str × List Str)} (h : TurnAt H p U) (s : TS' H H') : TurnAt H' p U := by
  obtain ⟨qs, h1, h2, h3⟩ := h
  exact ⟨qs, s _ _ h1, fun q hq => ⟨s _ _ (h2 q hq).1, s _ _ (h2 q hq).2⟩, h3⟩
end Co
namespace Co
open PySem L2 Mi
end Co
namespace Mi
open PySem L2
end Mi
namespace Co
open PySem L2 Mi
def St1 (K : PySem.W.Frag) (a t : Addr) (ns : List Int) (n : Nat) (H : Hp) : Prop := (∃ zs, H t = some (.lst zs) ∧ zs.length ≤ n) ∧ Scr K H a ns
theorem St1.same {K : PySem.W.Frag} {a t : Addr} {ns : List Int} {n : Nat} {H H' : Hp} (h : St1 K a t ns n H) (s : Same H H') : St1 K a t ns n H' := by
  obtain ⟨⟨zs, h1, h2⟩, h3⟩ := h
  exact ⟨⟨zs, s _ _ h1, h2⟩, h3.same s⟩
theorem St1.up {K : PySem.W.Frag} {a t : Addr} {ns : List Int} {n m : Nat} {H : Hp} (h : St1 K a t ns n H) (hm : n ≤ m) : St1 K a t ns m H := by
  obtain ⟨⟨zs, h1, h2⟩, h3⟩ := h
  exact ⟨⟨zs, h1, by omega⟩, h3⟩
theorem St1.drawn {K : PySem.W.Frag} {a t : Addr} {ns : List Int} {n m : Nat} {H H' : Hp} {zs zs' : List V} (h : St1 K a t ns n H) (h0 : H t = some (.lst zs)) (h1 : H' t = some (.lst zs')) (hl : zs'.length ≤ m) (s : Stp t H H') : St1 K a t ns m H' ∧ TS' H H' :=
  ⟨⟨⟨_, h1, hl⟩, h.2.stp h0 s⟩, s.ts h0⟩
theorem St1.frz {K : PySem.W.Frag} {a t g : Addr} {ns : List Int} {n : Nat} {H : Hp} {o : Obj} {kvs : List (Key × V)} (h : St1 K a t ns n H) (hg : H g = some (.dK kvs)) : St1 K a t ns n (upd H g (.frz o (.dK kvs))) ∧ TS' H (upd H g (.frz o (.dK kvs))) := by
  obtain ⟨⟨zs, h1, h2⟩, h3⟩ := h
  refine ⟨⟨⟨zs, by rw [upd_ne (fun e => by rw [e, hg] at h1; cases h1)]; exact h1, h2⟩, ?_⟩, fun b xs hb => ?_⟩
  · rcases h3 with ⟨o', h3⟩ | h3
    · exact .inl ⟨o', by rw [upd_ne (fun e => by rw [e, hg] at h3; cases h3)]; exact h3⟩
    · exact .inr h3
  · rw [upd_ne (fun e => by rw [e, hg] at hb; cases hb)]; exact hb
end Co
namespace Mi
open PySem L2
def nx (R : List Rw) (n : Str) : Str := (val R n).getD n
def it (R : List Rw) : Nat → Str → Str
  | 0, n => n
  | k + 1, n => it R k (nx R n)
theorem it_add (R : List Rw) : ∀ (j k : Nat) (n : Str), it R (j + k) n = it R k (it R j n)
  | 0, k, n => by rw [Nat.zero_add]; rfl
  | j + 1, k, n => by
    rw [Nat.succ_add]
    exact it_add R j k (nx R n)
theorem it_succ' (R : List Rw) (k : Nat) (n : Str) : it R (k + 1) n = nx R (it R k n) := it_add R k 1 n
theorem nx_none {R : List Rw} {n : Str} (h : val R n = none) : nx R n = n := by unfold nx; rw [h]; rfl
theorem nx_some {R : List Rw} {n m : Str} (h : val R n = some m) : nx R n = m := by unfold nx; rw [h]; rfl
theorem it_fix {R : List Rw} {e : Str} (h : val R e = none) : ∀ k, it R k e = e
  | 0 => rfl
  | k + 1 => by show it R k (nx R e) = e; rw [nx_none h]; exact it_fix h k
structure Cyc (R : List Rw) (h : Str) (l : Nat) : Prop where
  pos : 0 < l
  back : it R l h = h
  first : ∀ i, 0 < i → i < l → it R i h ≠ h
  go : ∀ i, val R (it R i h) ≠ none
def orb (R : List Rw) (h : Str) (l : Nat) : List Str := (List.range l).map fun i => it R i h
theorem orb_len (R : List Rw) (h : Str) (l : Nat) : (orb R h l).length = l := by unfold orb; rw [List.length_map, List.length_range]
theorem orb_get {R : List Rw} {h : Str} {l i : Nat} (hi : i < l) : (orb R h l)[i]? = some (it R i h) := by
  unfold orb
  rw [List.getElem?_map, List.getElem?_range hi]; rfl
theorem orb_mem {R : List Rw} {h x : Str} {l : Nat} : x ∈ orb R h l ↔ ∃ i, i < l ∧ it R i h = x := by
  unfold orb
  simp [List.mem_map, List.mem_range]
theorem Cyc.mul {R : List Rw} {h : Str} {l : Nat} (c : Cyc R h l) : ∀ q, it R (q * l) h = h
  | 0 => by rw [Nat.zero_mul]; rfl
  | q + 1 => by rw [Nat.succ_mul, it_add, c.mul q, c.back]
theorem Cyc.mem {R : List Rw} {h : Str} {l : Nat} (c : Cyc R h l) (k : Nat) : it R k h ∈ orb R h l := by
  refine orb_mem.mpr ⟨k % l, Nat.mod_lt _ c.pos, ?_⟩
  conv => rhs; rw [← Nat.div_add_mod k l, Nat.mul_comm, it_add, c.mul]
theorem Cyc.turn {R : List Rw} {h : Str} {l i : Nat} (c : Cyc R h l) (hi : i < l) : Cyc R (it R i h) l ∧ (orb R h l).drop i ++ (orb R h l).take i = orb R (it R i h) l := by
  refine ⟨⟨c.pos, ?_, fun j h0 hj e => ?_, fun j => ?_⟩, ?_⟩
  · rw [← it_add, Nat.add_comm, it_add, c.back]
  · have e2 : it R (l - i) (it R i h) = h := by rw [← it_add, show i + (l - i) = l by omega, c.back]
    have e3 : it R j h = h := by
      conv => lhs; rw [← e2]
      rw [← it_add, Nat.add_comm, it_add, e, e2]
    exact c.first j h0 hj e3
  · rw [← it_add]; exact c.go _
  · refine List.ext_getElem? fun j => ?_
    by_cases hj : j < l
    · rw [orb_get hj]
      by_cases hd : j < l - i
      · rw [List.getElem?_append_left (by rw [List.length_drop, orb_len]; exact hd), List.getElem?_drop, orb_get (by omega), it_add]
      · rw [List.getElem?_append_right (by rw [List.length_drop, orb_len]; omega), List.length_drop, orb_len, List.getElem?_take, if_pos (by omega), orb_get (by omega)]
        rw [← it_add, show i + j = l + (j - (l - i)) by omega, it_add, c.back]
    · rw [List.getElem?_eq_none (by rw [List.length_append, List.length_drop, List.length_take, orb_len]; omega), List.getElem?_eq_none (by rw [orb_len]; omega)]
structure Rg (R : List Rw) (u : List Str) (h : Str) (l : Nat) : Prop where
  is : u = orb R h l
  cyc : Cyc R h l
  min : ∀ x ∈ u, HS.ltS x h = false
theorem Rg.len {R : List Rw} {u : List Str} {h : Str} {l : Nat} (r : Rg R u h l) : u.length = l := by rw [r.is, orb_len]
theorem Rg.get {R : List Rw} {u : List Str} {h : Str} {l i : Nat} (r : Rg R u h l) (hi : i < l) : u[i]? = some (it R i h) := by rw [r.is]; exact orb_get hi
theorem Rg.next {R : List Rw} {u : List Str} {h x : Str} {l i : Nat} (r : Rg R u h l) (hx : u[i]? = some x) : ∃ y, val R x = some y ∧ (if i + 1 < l then u[i + 1]? = some y else y = h) := by
  have hi : i < l := by rw [← r.len]; exact (List.getElem?_eq_some_iff.mp hx).1
  rw [r.get hi] at hx
  injection hx with hx
  have hg := r.cyc.go i
  cases hv : val R (it R i h) with
  | none => exact absurd hv hg
  | some y =>
    have e : it R (i + 1) h = y := by rw [it_succ', nx_some hv]
    refine ⟨y, by rw [← hx]; exact hv, ?_⟩
    by_cases c : i + 1 < l
    · rw [if_pos c, r.get c, e]
    · rw [if_neg c, ← e, show i + 1 = l by omega, r.cyc.back]
theorem Rg.nd {R : List Rw} {u : List Str} {h : Str} {l i j : Nat} (r : Rg R u h l) (hi : i < j) (hj : j < l) : it R i h ≠ it R j h := fun e => by
  have e2 : it R (l - j + i) h = h := by
    rw [Nat.add_comm, it_add, e, ← it_add, show j + (l - j) = l by omega, r.cyc.back]
  exact r.cyc.first (l - j + i) (by omega) (by omega) e2
theorem Rg.same {R : List Rw} {u u' : List Str} {h h' x : Str} {l l' : Nat} (r : Rg R u h l) (r' : Rg R u' h' l') (h1 : x ∈ u) (h2 : x ∈ u') : u = u' := by
  have key : ∀ {u u' : List Str} {h h' : Str} {l l' : Nat}, Rg R u h l → Rg R u' h' l' → x ∈ u → x ∈ u' → h ∈ u' := fun {u u' h h' l l'} r r' h1 h2 => by
    rw [r.is] at h1
    rw [r'.is] at h2 ⊢
    obtain ⟨i, hi, e⟩ := orb_mem.mp h1
    obtain ⟨j, hj, e'⟩ := orb_mem.mp h2
    have e3 : it R (j + (l - i)) h' = h := by rw [it_add, e', ← e, ← it_add, show i + (l - i) = l by omega, r.cyc.back]
    rw [← e3]
    exact r'.cyc.mem _
  have hh : h = h' := HS.ltS_tri (r'.min h (key r r' h1 h2)) (r.min h' (key r' r h2 h1))
  subst hh
  have hl : l = l' := by
    rcases Nat.lt_trichotomy l l' with c | c | c
    · exact absurd r.cyc.back (r'.cyc.first l r.cyc.pos c)
    · exact c
    · exact absurd r'.cyc.back (r.cyc.first l' r'.cyc.pos c)
  rw [r.is, r'.is, hl]
end Mi
namespace Co
open PySem L2 Mi
theorem hu8 {A : Around} {k : Nat} (hr : Room k A) : A.units + 8 < cLine := Nat.lt_of_le_of_lt (Nat.add_le_add_left (by decide : 8 ≤ 64) _) hr.units
abbrev tupD (u : List Str) : Dat := .tup (u.map Dat.str)
end Co
namespace L2
open PySem PySem.Spec PyProof.Rows
section
variable {X : Cx} {pos : Pos}
end
end L2
namespace HD
open PySem
section
variable {prog : Program} {w : World} {A : Around} {E : Value → Shared → Prop} {s : Shared} {K : Type} [DecidableEq K] {knd : KeyKind prog w K}
def mergedH (xs ms : List (List K × Addr × Value)) : List (List K × Addr × Value) := ms.foldl (fun acc m => storedH acc m.1 m.2.1 m.2.2) xs
theorem mergedH_take (xs ms : List (List K × Addr × Value)) (i : Nat) (m : List K × Addr × Value) (h : ms[i]? = some m) : mergedH xs (ms.take (i + 1)) = storedH (mergedH xs (ms.take i)) m.1 m.2.1 m.2.2 := by
  unfold mergedH
  rw [List.take_add_one, h, List.foldl_append]
  rfl
theorem mem_storedH {xs : List (List K × Addr × Value)} {k : List K} {a : Addr} {v : Value} {x : List K × Addr × Value} (h : x ∈ storedH xs k a v) : (∃ y ∈ xs, x.1 = y.1 ∧ x.2.1 = y.2.1) ∨ (x.1 = k ∧ x.2.1 = a) := by
  unfold storedH at h
  split at h
  · obtain ⟨y, hy, rfl⟩ := List.mem_map.mp h
    refine .inl ⟨y, hy, ?_⟩
    unfold putAt
    split <;> exact ⟨rfl, rfl⟩
  · rcases List.mem_append.mp h with h | h
    · exact .inl ⟨x, h, rfl, rfl⟩
    · rw [List.mem_singleton.mp h]; exact .inr ⟨rfl, rfl⟩
theorem storedH_len (xs : List (List K × Addr × Value)) (k : List K) (a : Addr) (v : Value) : (storedH xs k a v).length ≤ xs.length + 1 := by
  unfold storedH
  split
  · rw [List.length_map]; omega
  · rw [List.length_append, List.length_singleton]; omega
theorem mergedH_len : ∀ (ms xs : List (List K × Addr × Value)), (mergedH xs ms).length ≤ xs.length + ms.length
  | [], xs => Nat.le_refl _
  | m :: ms, xs => by
    have h1 := mergedH_len ms (storedH xs m.1 m.2.1 m.2.2)
    have h2 := storedH_len xs m.1 m.2.1 m.2.2
    show (mergedH (storedH xs m.1 m.2.1 m.2.2) ms).length ≤ xs.length + (ms.length + 1)
    omega
theorem mem_mergedH : ∀ {ms xs : List (List K × Addr × Value)} {x : List K × Addr × Value}, x ∈ mergedH xs ms → (∃ y ∈ xs, x.1 = y.1 ∧ x.2.1 = y.2.1) ∨ ∃ y ∈ ms, x.1 = y.1 ∧ x.2.1 = y.2.1
  | [], xs, x, h => .inl ⟨x, h, rfl, rfl⟩
  | m :: ms, xs, x, h => by
    rcases mem_mergedH (ms := ms) (xs := storedH xs m.1 m.2.1 m.2.2) h with ⟨y, hy, e1, e2⟩ | ⟨y, hy, e⟩
    · rcases mem_storedH hy with ⟨z, hz, f1, f2⟩ | ⟨f1, f2⟩
      · exact .inl ⟨z, hz, e1.trans f1, e2.trans f2⟩
      · exact .inr ⟨m, List.mem_cons_self .., e1.trans f1, e2.trans f2⟩
    · exact .inr ⟨y, List.mem_cons_of_mem _ hy, e⟩
theorem dictH_move {h h' : Heap} {d : Addr} {xs : List (List K × Addr × Value)} (hm : h.DictOfH (tupleKind knd) d xs) (hd : ∀ o, h.get? d = some o → h'.get? d = some o) (hk : ∀ x ∈ xs, (tupleKind knd).is h' x.1 x.2.1) : h'.DictOfH (tupleKind knd) d xs := by
  obtain ⟨o, es, ep, ho, hc, hdd, he, _, hn⟩ := hm
  exact ⟨o, es, ep, hd o ho, hc, hdd, he, hk, hn⟩
theorem is_kept {h0 h : Heap} {d it b : Addr} {k : List K} (hi : (tupleKind knd).is h0 k b) (hd0 : h0.get? d = none) (hi0 : h0.get? it = none) (kp : ∀ b o, b ≠ d → b ≠ it → h0.get? b = some o → h.get? b = some o) : (tupleKind knd).is h k b := by
  obtain ⟨o, its, n, ho, r⟩ := hi
  exact ⟨o, its, n, kp b o (fun z => by rw [z, hd0] at ho; cases ho) (fun z => by rw [z, hi0] at ho; cases ho) ho, r⟩
theorem keys_kept {h0 h : Heap} {d it : Addr} {ms : List (List K × Addr × Value)} (hi : ∀ m ∈ ms, (tupleKind knd).is h0 m.1 m.2.1) (hd0 : h0.get? d = none) (hi0 : h0.get? it = none) (kp : ∀ b o, b ≠ d → b ≠ it → h0.get? b = some o → h.get? b = some o) : ∀ x ∈ mergedH [] ms, (tupleKind knd).is h x.1 x.2.1 := fun x hx => by
  rcases mem_mergedH hx with ⟨y, hy, _⟩ | ⟨y, hy, e1, e2⟩
  · cases hy
  · rw [e1, e2]; exact is_kept (hi y hy) hd0 hi0 kp
def PairsAtH (knd : KeyKind prog w K) (h : Heap) (its : List Value) (ms : List (List K × Addr × Value)) : Prop :=
  its.length = ms.length ∧ (∀ (j : Nat) (v : Value) (m : List K × Addr × Value), its[j]? = some v → ms[j]? = some m → ∃ b ob n, v = Value.ref b ∧ h.get? b = some ob ∧ ob.cls = .type "tuple" ∧ ob.data = .seq #[.ref m.2.1, m.2.2] n) ∧ ∀ m ∈ ms, (tupleKind knd).is h m.1 m.2.1
structure StH (knd : KeyKind prog w K) (h0 : Heap) (its : List Value) (ms : List (List K × Addr × Value)) (a d it : Addr) (i : Nat) (h : Heap) : Prop where
  tup : h.IsList a its.toArray
  iter : h.IsListIter it a i
  dict : h.DictOfH (tupleKind knd) d (mergedH [] (ms.take i))
  keep : ∀ b o, b ≠ d → b ≠ it → h0.get? b = some o → h.get? b = some o
theorem upd_loopH {its : List Value} {ms : List (List K × Addr × Value)} {a d it : Addr} {h0 : Heap} {R : Result → Shared → Prop} (hh : A.handled = none) (hu : A.units + 1 < cLine) (hP : PairsAtH knd h0 its ms) (hd : a ≠ d) (hit : a ≠ it) (hdi : d ≠ it) (hz : its.length ≤ 1000)
    (hd0 : h0.get? d = none) (hi0 : h0.get? it = none) (hml : ∀ i, (mergedH [] (ms.take i)).length ≤ 1000)
    (hR : ∀ h tk, h.DictOfH (tupleKind knd) d (mergedH [] ms) → (∀ b o, b ≠ d → b ≠ it → h0.get? b = some o → h.get? b = some o) → R (.ok (.ret .none)) { s with heap := h, toks := tk }) :
    ∀ (m i : Nat) (h : Heap) (tk : Nat), its.length - i = m → i ≤ its.length → StH knd h0 its ms a d it i h → codeAny (model prog w) A (.builtin "dict.update.loop" ⟨[.ref d, .ref it, rawInt (i : Int), .none], []⟩) R { s with heap := h, toks := tk } := by
  intro m
  induction m with
  | zero =>
    intro i h tk hm hi st
    refine codeAny_builtin entry_loop ?_
    rw [Around.under_plainId plain_loop _]
    show wpAny _ A.in1 (pyNext (.ref it) >>= _) _ _ _
    refine wpAny_bind (wpAny_pyNext_list_end hh st.iter st.tup (by simp; omega) fun h' hk' => ?_)
    dsimp only
    refine wpAny_bind (m := Builtin.Dict.addKeywords d []) (wpAny_pure (wpAny_pure (hR h' _ ?_ ?_)))
    · have e : ms.take i = ms := List.take_of_length_le (by have := hP.1; omega)
      have := st.dict
      rw [e] at this
      exact dictH_move this (fun o ho => hk' d o hdi ho) (keys_kept hP.2.2 hd0 hi0 fun b o n1 n2 e => hk' b o n2 (st.keep b o n1 n2 e))
    · intro b o n1 n2 e
      exact hk' b o n2 (st.keep b o n1 n2 e)
  | succ m ih =>
    intro i h tk hm hi st
    refine codeAny_builtin entry_loop ?_
    rw [Around.under_plainId plain_loop _]
    have hlt : i < its.length := by omega
    have hlk : i < ms.length := by have := hP.1; omega
    have hgi : its[i]? = some its[i] := List.getElem?_eq_getElem hlt
    have hgk : ms[i]? = some ms[i] := List.getElem?_eq_getElem hlk
    obtain ⟨b, ob, n, ev, hb, hbc, hbd⟩ := hP.2.1 i _ _ hgi hgk
    have nb1 : b ≠ d := fun z => by rw [z, hd0] at hb; cases hb
    have nb2 : b ≠ it := fun z => by rw [z, hi0] at hb; cases hb
    show wpAny _ A.in1 (pyNext (.ref it) >>= _) _ _ _
    refine wpAny_bind (wpAny_pyNext_list_item (x := its[i]) st.iter st.tup (by simp [hlt]) fun h1 hI1 hs1 => ?_)
    rw [ev]
    dsimp only
    have hb1 : h1.get? b = some ob := (hs1.2 b nb2).trans (st.keep b ob nb1 nb2 hb)
    have ty : ∀ tk', Shared.TypeIs ⟨h1, s.gens, s.drawn, tk', s.os⟩ (.ref b) "tuple" := fun _ => ⟨ob, hb1, hbc⟩
    have kp1 : ∀ b' o', b' ≠ d → b' ≠ it → h0.get? b' = some o' → h1.get? b' = some o' := fun b' o' n1 n2 e => (hs1.2 b' n2).trans (st.keep b' o' n1 n2 e)
    have hD1 : h1.DictOfH (tupleKind knd) d (mergedH [] (ms.take i)) := dictH_move st.dict (fun o ho => (hs1.2 d hdi).trans ho) (keys_kept (fun m hm => hP.2.2 m (List.mem_of_mem_take hm)) hd0 hi0 kp1)
    have hkey : (tupleKind knd).is h1 ms[i].1 ms[i].2.1 := is_kept (hP.2.2 _ (List.getElem_mem hlk)) hd0 hi0 kp1
    refine wpAny_bind (wpAny_holding (wpAny_bind (wpAny_tryCatch ?_)))
    unfold Builtin.Dict.pairItems
    refine wpAny_bind (wpAny_typeOf (ty _) ?_)
    rw [if_pos (by decide)]
    refine wpAny_bind (wpAny_seqItems hb1 hbd (wpAny_pure ?_))
    show wpAny _ _ (holding [Value.ref ms[i].2.1, ms[i].2.2] (dictSet d (Value.ref ms[i].2.1) ms[i].2.2)) _ _ _
    refine wpAny_holding (wpAny_dictSet_heap (s := ⟨h1, s.gens, s.drawn, _, s.os⟩) (knd := tupleKind knd) (show A.in1.units < cLine from hu) hkey hD1 (fun h2 hd2 hs2 => ?_) (by have := hml i; rw [sizeLine_eq]; omega))
    refine wpAny_pure ⟨plainId_quiet plain_loop _, ih (i + 1) h2 _ (by omega) (by omega) ⟨?_, ?_, ?_, ?_⟩⟩
    · obtain ⟨o, ho, r⟩ := st.tup
      exact list_same ⟨o, (hs1.2 a hit).trans ho, r⟩ hs2 hd
    · exact iter_sameL hI1 hs2 hdi.symm
    · rw [mergedH_take [] ms i ms[i] hgk]
      exact hd2
    · intro b' o' n1 n2 e
      exact (hs2.2 b' n1).trans ((hs1.2 b' n2).trans (st.keep b' o' n1 n2 e))
theorem call_dictH {a : Addr} {o : Obj} {its : List Value} {n : Nat} {ms : List (List K × Addr × Value)} {Q : Value → Shared → Prop} (hh : A.handled = none) (hu : A.units + 2 < cLine) (ho : s.heap.get? a = some o) (hc : o.cls = .type "list") (hdat : o.data = .seq its.toArray n) (hdn : o.dict = none)
    (hP : PairsAtH knd s.heap its ms) (hz : its.length ≤ 1000)
    (h : ∀ h' tk, h'.DictOfH (tupleKind knd) s.heap.objs.size (mergedH [] ms) → (∀ b o, s.heap.get? b = some o → h'.get? b = some o) → Q (.ref s.heap.objs.size) { s with heap := h', toks := tk }) :
    wpAny (model prog w) A (call (.type "dict") [.ref a]) Q E s := by
  refine callType_codes (Q₁ := fun ob1 s₁ => ob1 = .ref s.heap.objs.size ∧ s₁ = { s with heap := s.heap.push { cls := .type "dict", data := .dict #[] } }) F.kt_called_dict (F.kt_typeCall_dict_1 _) F.entry_dict_init (kt_code_dict_new _ ⟨rfl, rfl⟩) ?_
  rintro ob1 s₁ ⟨rfl, rfl⟩
  have fresh0 : (s.heap.push { cls := .type "dict", data := .dict #[] }).DictOfH (tupleKind knd) s.heap.objs.size [] := Heap.DictOfH.new s.heap
  have hsz1 : (s.heap.push { cls := .type "dict", data := .dict #[] }).objs.size = s.heap.objs.size + 1 := Heap.size_push ..
  have al : a < s.heap.objs.size := Heap.lt_size ho
  have hoa : (s.heap.push { cls := .type "dict", data := .dict #[] }).get? a = some o := Heap.get?_push_of_some _ ho
  refine ⟨fresh0.typeIs, F.args_dict_init_2 _ _, ?_⟩
  unfold Builtin.«dict.__init__»
  refine wpAny_bind ?_
  unfold Builtin.Dict.selfAndRest
  refine wpAny_bind (wpAny_notOrdered_dict fresh0.typeIs ?_)
  show wpAny _ _ (pure (s.heap.objs.size, [Value.ref a])) _ _ _
  refine wpAny_pure ?_
  show wpAny _ _ (Builtin.Dict.updateFrom "dict.__init__" s.heap.objs.size (.ref a) [] .none) _ _ _
  unfold Builtin.Dict.updateFrom
  refine wpAny_bind (wpAny_typeOf (T := "list") ⟨o, hoa, hc⟩ ?_)
  rw [if_pos (by decide)]
  refine wpAny_bind (keys_list hoa hc hdat hdn hh fun h2 tk2 k2 => ?_)
  rw [if_pos (show (none : Option Value).isNone = true from rfl)]
  refine wpAny_bind (wpAny_rule ?_)
  have ht2 : h2.IsList a its.toArray := ⟨o, k2 a o hoa, hc, n, hdat⟩
  refine wpAny_bind (wpAny_pyIter_list ht2 ?_)
  obtain ⟨od, _, _, hod, _⟩ := id fresh0
  have dl : s.heap.objs.size < h2.objs.size := Heap.lt_size (k2 _ _ hod)
  have e0 : rawInt 0 = rawInt ((0 : Nat) : Int) := rfl
  rw [e0]
  refine wpAny_pure ⟨plainId_quiet plain_loop _, upd_loopH (A := A.in1) (s := s) (knd := knd) (h0 := s.heap) (ms := ms) (its := its) (a := a) hh (show A.in1.units + 1 < cLine from hu) hP (Nat.ne_of_lt al) (Nat.ne_of_lt (Nat.lt_trans al dl)) (Nat.ne_of_lt dl) hz (Heap.get?_none_of_le (Nat.le_refl _)) (Heap.get?_none_of_le (Nat.le_of_lt dl))
    (fun i => ?_) (fun h' tk hD hk => ⟨rfl, h h' tk hD fun b ob e => hk b ob (Nat.ne_of_lt (Heap.lt_size e)) (Nat.ne_of_lt (Nat.lt_trans (Heap.lt_size e) dl)) e⟩) its.length 0 _ _ (by simp) (Nat.zero_le _) ⟨?_, ?_, ?_, ?_⟩⟩
  · have e1 := mergedH_len (ms.take i) []
    have e2 : (ms.take i).length ≤ ms.length := by rw [List.length_take]; omega
    have e3 := hP.1
    simp only [List.length_nil] at e1
    omega
  · exact Heap.IsList.push ht2 _
  · exact ⟨_, Heap.get?_push_size _ rfl, rfl, rfl⟩
  · rw [List.take_zero]
    have hd2 : h2.DictOfH (tupleKind knd) s.heap.objs.size [] := dictH_move fresh0 (fun o ho => k2 _ _ ho) fun _ hx => by cases hx
    exact dictH_move hd2 (fun o ho => Heap.get?_push_of_some _ ho) fun _ hx => by cases hx
  · intro b ob _ _ e
    exact Heap.get?_push_of_some _ (k2 b ob (Heap.get?_push_of_some _ e))
end
end HD
namespace L2
open PySem PySem.Spec PyProof.Rows
section
variable {X : Cx}
def mergeT (kvs more : List (List Key × V)) : List (List Key × V) := more.foldl (fun acc kv => putK acc kv.1 kv.2) kvs
def PairsT (K : PySem.W.Frag) (H : Hp) (ys : List V) (kvs : List (List Key × V)) : Prop := Paired (fun (v : V) (kx : List Key × V) => ∃ b c, v = .ref b ∧ SqT K H b [.ref c, kx.2] ∧ H c = some (.tup (kx.1.map kV))) ys kvs
theorem pairs_atH {pins : List (Addr × Obj)} {σ : St} {H : Hp} {s : Shared} (I : Inv X pins σ H s) : ∀ {ys : List V} {kvs : List (List Key × V)} {its : List Value}, PairsT X.K H ys kvs → Vals ys its → ∃ ms : List (List Key × Addr × Value), KT H kvs ms ∧ HD.PairsAtH (mixKind X.prog X.w) s.heap its ms
  | _, _, _, .nil, .nil => ⟨[], .nil, rfl, (fun j v kx e => by simp at e), fun m hm => by cases hm⟩
  | _ :: _, kx :: _, _ :: _, .cons hp r, .cons rv rr => by
    obtain ⟨b, c, rfl, hq, hc⟩ := hp
    cases rv
    obtain ⟨ms, kt, hl, hat, his⟩ := pairs_atH I r rr
    obtain ⟨its2, r2, p2, _⟩ := I.tuple hq
    obtain ⟨o, ho, hcl, n, hd⟩ := p2
    cases r2 with
    | cons rk rx =>
      cases rx with
      | cons rx rn =>
        cases rn
        cases rk
        rename_i val
        refine ⟨(kx.1, c, val) :: ms, .cons ⟨rfl, hc, rx⟩ kt, by rw [List.length_cons, List.length_cons, hl], fun j v m e1 e2 => ?_, fun m hm => ?_⟩
        · cases j with
          | zero =>
            cases e1; cases e2
            exact ⟨b, o, n, rfl, ho, hcl, hd⟩
          | succ j => exact hat j v m (by simpa using e1) (by simpa using e2)
        · rcases List.mem_cons.mp hm with rfl | hm
          · exact key_of I.hok hc
          · exact his m hm
theorem KT.merge {H : Hp} : ∀ {more acc : List (List Key × V)} {ms xs : List (List Key × Addr × Value)}, KT H more ms → KT H acc xs → KT H (mergeT acc more) (HD.mergedH xs ms) := by
  intro more acc ms xs r
  unfold KT at r
  induction r generalizing acc xs with
  | nil => intro q; exact q
  | @cons p q ps qs hq t ih =>
    intro hx
    have := KT.put hx p.1 (b := q.2.1) hq.2.1 hq.2.2
    rw [hq.1] at this
    refine ih (acc := putK acc p.1 p.2) (xs := storedH xs q.1 q.2.1 q.2.2) ?_
    rw [hq.1]
    exact this
theorem length_mergeT : ∀ (more kvs : List (List Key × V)), (mergeT kvs more).length ≤ kvs.length + more.length
  | [], kvs => Nat.le_refl _
  | m :: more, kvs => by
    have h1 := length_mergeT more (putK kvs m.1 m.2)
    have h2 := length_putK kvs m.1 m.2
    show (mergeT (putK kvs m.1 m.2) more).length ≤ kvs.length + (more.length + 1)
    omega
theorem call_dictLT (hc : X.calm = true) (hu : X.A.units + 8 < cLine) : CallR X (.type "dict") (fun xs H Q => ∃ a ys kvs, xs = [.ref a] ∧ H a = some (.lst ys) ∧ PairsT X.K H ys kvs ∧ ys.length ≤ 1000 ∧ ∀ p, H p = none → Q (.ref p) (upd H p (.dT (mergeT [] kvs)))) := by
  intro pins s σ H xs us Q I r h
  obtain ⟨a, ys, kvs, rfl, hH, hp, hz, q⟩ := h
  obtain ⟨u, rfl, ru⟩ := vals1 r
  cases ru
  obtain ⟨z, its, n, ri, hl, ho⟩ := I.lstM hH
  obtain ⟨ms, kt, hP⟩ := pairs_atH I hp ri
  have lk : kvs.length ≤ 1000 := by
    have e1 := Paired.length kt
    have e2 := hP.1
    omega
  refine HD.call_dictH (I.ok.hd hc) (by omega) ho rfl rfl rfl hP (by omega) fun h' tk hD k => ?_
  have hm := length_mergeT kvs []
  obtain ⟨o, es, ep, hq, h2, h3, h4, _, h5⟩ := hD
  have I2 : Inv X pins σ (upd H s.heap.objs.size (.dT (mergeT [] kvs))) { s with heap := h', toks := tk } := by
    refine I.laid (h' := h') (t' := tk) (o := .dT (mergeT [] kvs)) k (Nat.le_refl _) ⟨by rw [sizeLine_eq]; simp only [List.length_nil] at hm; omega, beq_eq_false_iff_ne.mpr (Ne.symm (Nat.ne_of_lt I.big)), HD.mergedH [] ms, (KT.merge kt .nil).keeps fun c zs ec => ?_, o, es, ep, hq, h2, h3, h4, h5⟩
    rw [upd_ne (ne_of_none ec I.fresh)]
    exact ec
  exact ⟨.ref s.heap.objs.size, _, I2, rfl, q _ I.fresh⟩
end
end L2
namespace Mi
open PySem L2
structure Cl where
  ad : List Str
  ck : Int
  hd : Str
  nm : Int
deriving DecidableEq
def ltC (c d : Cl) : Bool := if c.ck = d.ck then (if c.hd = d.hd then decide (c.nm < d.nm) else HS.ltS c.hd d.hd) else decide (c.ck < d.ck)
theorem ltC_irr (c : Cl) : ltC c c = false := by unfold ltC; rw [if_pos rfl, if_pos rfl]; exact decide_eq_false (Int.lt_irrefl _)
theorem ltC_tri {c d : Cl} (h : c.ad = d.ad) (h1 : ltC c d = false) (h2 : ltC d c = false) : c = d := by
  obtain ⟨a, k, x, n⟩ := c
  obtain ⟨a', k', x', n'⟩ := d
  unfold ltC at h1 h2
  simp only at h h1 h2
  by_cases e1 : k = k'
  · subst e1
    rw [if_pos rfl] at h1 h2
    by_cases e2 : x = x'
    · subst e2
      rw [if_pos rfl] at h1 h2
      have h1' := of_decide_eq_false h1
      have h2' := of_decide_eq_false h2
      have : n = n' := by omega
      rw [h, this]
    · rw [if_neg e2] at h1
      rw [if_neg (Ne.symm e2)] at h2
      exact absurd (HS.ltS_tri h1 h2) e2
  · rw [if_neg e1] at h1
    rw [if_neg (Ne.symm e1)] at h2
    have h1' := of_decide_eq_false h1
    have h2' := of_decide_eq_false h2
    omega
theorem ltC_tot {c d : Cl} (h : ltC c d = true) : ltC d c = false := by
  unfold ltC at h ⊢
  by_cases e1 : c.ck = d.ck
  · rw [if_pos e1] at h
    rw [if_pos e1.symm]
    by_cases e2 : c.hd = d.hd
    · rw [if_pos e2] at h
      rw [if_pos e2.symm]
      have := of_decide_eq_true h
      exact decide_eq_false (by omega)
    · rw [if_neg e2] at h
      rw [if_neg (Ne.symm e2)]
      exact HS.ltS_tot _ _ h
  · rw [if_neg e1] at h
    rw [if_neg (Ne.symm e1)]
    have := of_decide_eq_true h
    exact decide_eq_false (by omega)
theorem ltC_tr {a b c : Cl} (h1 : ltC b a = false) (h2 : ltC c b = false) : ltC c a = false := by
  unfold ltC at h1 h2 ⊢
  by_cases e1 : c.ck = a.ck
  · rw [if_pos e1]
    by_cases e3 : b.ck = a.ck
    · rw [if_pos e3] at h1
      rw [if_pos (e1.trans e3.symm)] at h2
      by_cases f1 : c.hd = a.hd
      · rw [if_pos f1]
        by_cases f3 : b.hd = a.hd
        · rw [if_pos f3] at h1
          rw [if_pos (f1.trans f3.symm)] at h2
          have h1' := of_decide_eq_false h1
          have h2' := of_decide_eq_false h2
          exact decide_eq_false (by omega)
        · rw [if_neg f3] at h1
          rw [if_neg (fun z => f3 (z.symm.trans f1))] at h2
          rw [f1] at h2
          exact absurd (HS.ltS_tri h1 h2) f3
      · rw [if_neg f1]
        by_cases f3 : b.hd = a.hd
        · rw [← f3] at f1 ⊢
          rw [if_neg f1] at h2
          exact h2
        · rw [if_neg f3] at h1
          by_cases f4 : c.hd = b.hd
          · rw [f4]; exact h1
          · rw [if_neg f4] at h2
            exact HS.ltS_tr _ _ _ h1 h2
    · rw [if_neg e3] at h1
      rw [if_neg (fun z => e3 (z.symm.trans e1))] at h2
      have h1' := of_decide_eq_false h1
      have h2' := of_decide_eq_false h2
      omega
  · rw [if_neg e1]
    refine decide_eq_false ?_
    by_cases e3 : b.ck = a.ck
    · rw [if_neg (fun z => e1 (z.trans e3))] at h2
      have h2' := of_decide_eq_false h2
      omega
    · rw [if_neg e3] at h1
      have h1' := of_decide_eq_false h1
      by_cases e4 : c.ck = b.ck
      · omega
      · rw [if_neg e4] at h2
        have h2' := of_decide_eq_false h2
        omega
def MaxIn (L : List Cl) (c : Cl) : Prop := c ∈ L ∧ ∀ d ∈ L, d.ad = c.ad → ltC c d = false
theorem MaxIn.uniq {L : List Cl} {c d : Cl} (hc : MaxIn L c) (hd : MaxIn L d) (h : c.ad = d.ad) : c = d := ltC_tri h (hc.2 d hd.1 h.symm) (hd.2 c hc.1 h)
theorem max_ex : ∀ (L : List Cl) (u : List Str), (∃ c ∈ L, c.ad = u) → ∃ c, MaxIn L c ∧ c.ad = u
  | [], _, ⟨_, h, _⟩ => by cases h
  | x :: L, u, h => by
    by_cases hL : ∃ c ∈ L, c.ad = u
    · obtain ⟨c, hc, e⟩ := max_ex L u hL
      by_cases hx : x.ad = u ∧ ltC c x = true
      · refine ⟨x, ⟨List.mem_cons_self .., fun d hd he => ?_⟩, hx.1⟩
        rcases List.mem_cons.mp hd with rfl | hd
        · exact ltC_irr _
        · exact ltC_tr (hc.2 d hd (he.trans (hx.1.trans e.symm))) (ltC_tot hx.2)
      · refine ⟨c, ⟨List.mem_cons_of_mem _ hc.1, fun d hd he => ?_⟩, e⟩
        rcases List.mem_cons.mp hd with rfl | hd
        · cases hl : ltC c d with
          | false => rfl
          | true => exact absurd ⟨he.trans e, hl⟩ hx
        · exact hc.2 d hd he
    · obtain ⟨c, hc, e⟩ := h
      rcases List.mem_cons.mp hc with rfl | hc
      · refine ⟨c, ⟨List.mem_cons_self .., fun d hd he => ?_⟩, e⟩
        rcases List.mem_cons.mp hd with rfl | hd
        · exact ltC_irr _
        · exact absurd ⟨d, hd, he.trans e⟩ hL
      · exact absurd ⟨c, hc, e⟩ hL
structure Tog (L A : List Cl) : Prop where
  rise : A.Pairwise fun a b => HS.ltT a.ad b.ad = true
  mem : ∀ c, c ∈ A ↔ MaxIn L c
theorem cl_eq : ∀ {A B : List Cl}, A.Pairwise (fun a b => HS.ltT a.ad b.ad = true) → B.Pairwise (fun a b => HS.ltT a.ad b.ad = true) → (∀ c, c ∈ A ↔ c ∈ B) → A = B
  | [], [], _, _, _ => rfl
  | [], b :: B, _, _, h => by have := (h b).mpr (List.mem_cons_self ..); cases this
  | a :: A, [], _, _, h => by have := (h a).mp (List.mem_cons_self ..); cases this
  | a :: A, b :: B, ha, hb, h => by
    have ha' := List.pairwise_cons.mp ha
    have hb' := List.pairwise_cons.mp hb
    have irr : ∀ x : List Str, HS.ltT x x = true → False := fun x hx => by
      have := HS.ltT_tot _ _ hx
      rw [this] at hx
      cases hx
    have e : a = b := by
      rcases List.mem_cons.mp ((h a).mp (List.mem_cons_self ..)) with e | e
      · exact e
      · rcases List.mem_cons.mp ((h b).mpr (List.mem_cons_self ..)) with e2 | e2
        · exact e2.symm
        · have h1 := hb'.1 a e
          have h2 := ha'.1 b e2
          rw [HS.ltT_tot _ _ h1] at h2
          cases h2
    subst e
    rw [cl_eq (A := A) (B := B) ha'.2 hb'.2 fun r => ?_]
    constructor
    · intro hr
      rcases List.mem_cons.mp ((h r).mp (List.mem_cons_of_mem _ hr)) with e | e
      · subst e; exact (irr _ (ha'.1 r hr)).elim
      · exact e
    · intro hr
      rcases List.mem_cons.mp ((h r).mpr (List.mem_cons_of_mem _ hr)) with e | e
      · subst e; exact (irr _ (hb'.1 r hr)).elim
      · exact e
theorem Tog.eq {L M A B : List Cl} (ha : Tog L A) (hb : Tog M B) (h : ∀ c, MaxIn L c ↔ MaxIn M c) : A = B := cl_eq ha.rise hb.rise fun c => by rw [ha.mem, hb.mem, h]
end Mi
namespace Co
open PySem L2 Mi
def ClH (H : Hp) (b a : Addr) (c : Cl) : Prop := H b = some (.tup [.ref a, .int c.ck, .str c.hd, .int c.nm]) ∧ H a = some (.tup (c.ad.map V.str))
theorem ClH.ts {H H' : Hp} {b a : Addr} {c : Cl} (h : ClH H b a c) (s : TS' H H') : ClH H' b a c := ⟨s _ _ h.1, s _ _ h.2⟩
abbrev crefs (cs : List (Addr × Addr × Cl)) : List V := cs.map fun x => V.ref x.1
def ClsIn (H : Hp) (cs : List (Addr × Addr × Cl)) : Prop := ∀ x ∈ cs, ClH H x.1 x.2.1 x.2.2
def ClsAt (H : Hp) (p : Addr) (L : List Cl) : Prop := ∃ cs : List (Addr × Addr × Cl), H p = some (.tup (crefs cs)) ∧ ClsIn H cs ∧ cs.map (·.2.2) = L
theorem ClsIn.ts {H H' : Hp} {cs : List (Addr × Addr × Cl)} (h : ClsIn H cs) (s : TS' H H') : ClsIn H' cs := fun x hx => (h x hx).ts s
theorem ClsAt.ts {H H' : Hp} {p : Addr} {L : List Cl} (h : ClsAt H p L) (s : TS' H H') : ClsAt H' p L := by
  obtain ⟨cs, h1, h2, h3⟩ := h
  exact ⟨cs, s _ _ h1, h2.ts s, h3⟩
theorem ClsAt.same {H H' : Hp} {p : Addr} {L : List Cl} (h : ClsAt H p L) (s : Same H H') : ClsAt H' p L := h.ts s.ts
theorem dat_strs' {K : PySem.W.Frag} {H : Hp} : ∀ ts : List Str, AreDat K H (ts.map Dat.str) (ts.map V.str)
  | [] => rfl
  | t :: ts => ⟨_, _, rfl, rfl, dat_strs' ts⟩
theorem deeps0' : ∀ u : List Str, Dat.deeps (u.map Dat.str) = 0
  | [] => rfl
  | t :: u => by show max 0 (Dat.deeps (u.map Dat.str)) = 0; rw [deeps0' u]; rfl
theorem inrT_inj {a b : List Str} (h : (a.map Sum.inr : List Key) = b.map Sum.inr) : a = b := by
  have e := congrArg (List.map strK) h
  rw [List.map_map, List.map_map] at e
  have id' : ∀ l : List Str, l.map (strK ∘ (Sum.inr : Str → Key)) = l := fun l => by
    have : ∀ z ∈ l, (strK ∘ (Sum.inr : Str → Key)) z = z := fun z _ => rfl
    rw [List.map_congr_left this, List.map_id']
  rw [id', id'] at e
  exact e
theorem putKT_keys {kvs : List (List Key × V)} {us : List (List Str)} {u : List Str} {v : V} (h : kvs.map (·.1) = us.map fun t => t.map Sum.inr) :
    (putK kvs (u.map Sum.inr) v).map (·.1) = (if u ∈ us then us else us ++ [u]).map fun t => t.map Sum.inr := by
  have hany : (kvs.any fun kv => decide (kv.1 = u.map Sum.inr)) = decide (u ∈ us) := by
    rw [Bool.eq_iff_iff, List.any_eq_true, decide_eq_true_eq]
    constructor
    · rintro ⟨kv, hm, e⟩
      have hk : kv.1 ∈ kvs.map (·.1) := List.mem_map.mpr ⟨kv, hm, rfl⟩
      rw [h] at hk
      obtain ⟨t, ht, e2⟩ := List.mem_map.mp hk
      have e3 : kv.1 = u.map Sum.inr := by simpa using e
      rw [← inrT_inj (e2.trans e3)]
      exact ht
    · intro hu
      have hk : (u.map Sum.inr : List Key) ∈ us.map fun t => t.map Sum.inr := List.mem_map.mpr ⟨u, hu, rfl⟩
      rw [← h] at hk
      obtain ⟨kv, hm, e⟩ := List.mem_map.mp hk
      exact ⟨kv, hm, by simpa using e⟩
  unfold putK
  rw [hany]
  by_cases c : u ∈ us
  · rw [decide_eq_true c, if_pos rfl, if_pos c, List.map_map, ← h]
    refine List.map_congr_left fun kv _ => ?_
    show (if kv.1 = u.map Sum.inr then (kv.1, v) else kv).1 = kv.1
    split <;> rfl
  · rw [decide_eq_false c, if_neg Bool.false_ne_true, if_neg c, List.map_append, List.map_append, h]
    rfl
def LatAt (H : Hp) (d : Addr) (L : List Cl) (us : List (List Str)) : Prop := ∃ kvs : List (List Key × V), H d = some (.dT kvs) ∧ kvs.map (·.1) = (us.map fun t => t.map Sum.inr) ∧ us.Nodup ∧ us.length ≤ L.length ∧ (∀ u, u ∈ us ↔ ∃ c ∈ L, c.ad = u) ∧
  ∀ u, (u ∈ us → ∃ b a c, valV kvs (u.map Sum.inr) = some (.ref b) ∧ ClH H b a c ∧ MaxIn L c ∧ c.ad = u) ∧ (u ∉ us → valV kvs (u.map Sum.inr) = none)
theorem LatAt.nil {H : Hp} {d : Addr} (h : H d = some (.dT [])) : LatAt H d [] [] := ⟨[], h, rfl, List.nodup_nil, Nat.le_refl _, by simp, fun u => ⟨(fun z => by cases z), fun _ => rfl⟩⟩
theorem LatAt.same {H H' : Hp} {d : Addr} {L : List Cl} {us : List (List Str)} (h : LatAt H d L us) (s : Same H H') : LatAt H' d L us := by
  obtain ⟨kvs, h1, h2, h3, h4, h5, h6⟩ := h
  refine ⟨kvs, s _ _ h1, h2, h3, h4, h5, fun u => ⟨fun hu => ?_, (h6 u).2⟩⟩
  obtain ⟨b, a, c, e1, e2, e3⟩ := (h6 u).1 hu
  exact ⟨b, a, c, e1, e2.ts s.ts, e3⟩
theorem max_snoc_keep {L : List Cl} {x m : Cl} (hm : MaxIn L m) (h : m.ad = x.ad → ltC m x = false) : MaxIn (L ++ [x]) m := ⟨List.mem_append_left _ hm.1, fun d hd he => by
  rcases List.mem_append.mp hd with hd | hd
  · exact hm.2 d hd he
  · rw [List.mem_singleton.mp hd] at he ⊢; exact h he.symm⟩
theorem LatAt.skip {H : Hp} {d : Addr} {L : List Cl} {us : List (List Str)} (h : LatAt H d L us) {x m : Cl} (hm : MaxIn L m) (ha : m.ad = x.ad) (hl : ltC m x = false) : LatAt H d (L ++ [x]) us := by
  obtain ⟨kvs, h1, h2, h3, h4, h5, h6⟩ := h
  have hx : x.ad ∈ us := (h5 x.ad).mpr ⟨m, hm.1, ha⟩
  refine ⟨kvs, h1, h2, h3, by rw [List.length_append]; omega, fun u => ?_, fun u => ⟨fun hu => ?_, (h6 u).2⟩⟩
  · rw [h5]
    constructor
    · rintro ⟨c, hc, e⟩; exact ⟨c, List.mem_append_left _ hc, e⟩
    · rintro ⟨c, hc, e⟩
      rcases List.mem_append.mp hc with hc | hc
      · exact ⟨c, hc, e⟩
      · rw [List.mem_singleton.mp hc] at e; exact ⟨m, hm.1, ha.trans e⟩
  · obtain ⟨b, a, c, e1, e2, e3, e4⟩ := (h6 u).1 hu
    refine ⟨b, a, c, e1, e2, max_snoc_keep e3 fun he => ?_, e4⟩
    rw [MaxIn.uniq e3 hm (he.trans ha.symm)]
    exact hl
theorem LatAt.put {H : Hp} {d : Addr} {L : List Cl} {us : List (List Str)} (h : LatAt H d L us) {b a : Addr} {x : Cl} (hx : ClH H b a x) (hl : ∀ m, MaxIn L m → m.ad = x.ad → ltC m x = true) (hz : L.length ≤ 1000) :
    ∃ H', DPut H d (.ref a) (.ref b) H' ∧ LatAt H' d (L ++ [x]) (if x.ad ∈ us then us else us ++ [x.ad]) ∧ (∀ c o, c ≠ d → H c = some o → H' c = some o) ∧ ∀ kvs, H d = some (.dT kvs) → H' = upd H d (.dT (putK kvs (x.ad.map Sum.inr) (.ref b))) := by
  obtain ⟨kvs, h1, h2, h3, h4, h5, h6⟩ := h
  have hkl : kvs.length = us.length := by have := congrArg List.length h2; rw [List.length_map, List.length_map] at this; exact this
  have ek : (x.ad.map V.str) = ((x.ad.map Sum.inr : List Key).map kV) := by rw [List.map_map]; rfl
  have hk := hx.2
  rw [ek] at hk
  have ndT : TS' H (upd H d (.dT (putK kvs (x.ad.map Sum.inr) (.ref b)))) := fun c ys e => by rw [upd_ne (fun z => by rw [z, h1] at e; cases e)]; exact e
  have hmx : MaxIn (L ++ [x]) x := ⟨List.mem_append_right _ (by simp), fun e he hee => by
    rcases List.mem_append.mp he with he | he
    · obtain ⟨m, hm, em⟩ := max_ex L e.ad ⟨e, he, rfl⟩
      exact ltC_tr (hm.2 e he em.symm) (ltC_tot (hl m hm (em.trans hee)))
    · rw [List.mem_singleton.mp he]; exact ltC_irr _⟩
  refine ⟨_, DPut.t h1 hk (bigl _ (by omega)), ⟨_, upd_same, putKT_keys h2, ?_, ?_, fun u => ?_, fun u => ?_⟩, (fun c o hc e => by rw [upd_ne hc]; exact e), fun kvs' e => by rw [h1] at e; cases e; rfl⟩
  · by_cases c : x.ad ∈ us
    · rw [if_pos c]; exact h3
    · rw [if_neg c, List.nodup_append]
      exact ⟨h3, by simp, fun y hy z hz e => by rw [List.mem_singleton.mp hz] at e; exact c (e ▸ hy)⟩
  · rw [List.length_append, List.length_singleton]
    by_cases c : x.ad ∈ us
    · rw [if_pos c]; omega
    · rw [if_neg c, List.length_append, List.length_singleton]; omega
  · have base' : (∃ c ∈ L ++ [x], c.ad = u) ↔ u ∈ us ∨ u = x.ad := by
      rw [h5]
      constructor
      · rintro ⟨z, hz, e⟩
        rcases List.mem_append.mp hz with hz | hz
        · exact .inl ⟨z, hz, e⟩
        · rw [List.mem_singleton.mp hz] at e; exact .inr e.symm
      · rintro (⟨z, hz, e⟩ | e)
        · exact ⟨z, List.mem_append_left _ hz, e⟩
        · exact ⟨x, List.mem_append_right _ (by simp), e.symm⟩
    rw [base']
    by_cases c : x.ad ∈ us
    · rw [if_pos c]; exact ⟨.inl, fun h => h.elim id fun e => e ▸ c⟩
    · rw [if_neg c, List.mem_append, List.mem_singleton]
  · rw [valV_put]
    by_cases e : u = x.ad
    · subst e
      have c1 : (if ((x.ad.map Sum.inr : List Key) = x.ad.map Sum.inr) then some (V.ref b) else valV kvs (x.ad.map Sum.inr)) = some (V.ref b) := if_pos rfl
      rw [c1]
      refine ⟨fun _ => ⟨b, a, x, rfl, hx.ts ndT, hmx, rfl⟩, fun hn => absurd ?_ hn⟩
      by_cases c : x.ad ∈ us
      · rw [if_pos c]; exact c
      · rw [if_neg c]; exact List.mem_append_right _ (by simp)
    · rw [if_neg (fun z => e (inrT_inj z))]
      have hg : (u ∈ if x.ad ∈ us then us else us ++ [x.ad]) ↔ u ∈ us := by
        by_cases c : x.ad ∈ us
        · rw [if_pos c]
        · rw [if_neg c, List.mem_append, List.mem_singleton]
          exact ⟨fun h => h.elim id fun z => absurd z e, .inl⟩
      rw [hg]
      refine ⟨fun h => ?_, (h6 u).2⟩
      obtain ⟨b', a', c', e1, e2, e3, e4⟩ := (h6 u).1 h
      exact ⟨b', a', c', e1, e2.ts ndT, max_snoc_keep e3 fun he => absurd (e4.symm.trans he) e, e4⟩
theorem LatAt.get {H : Hp} {d a : Addr} {L : List Cl} {us : List (List Str)} (h : LatAt H d L us) {u : List Str} (ha : H a = some (.tup (u.map V.str))) :
    (u ∈ us ∧ ∃ b a' c, DGet H d (.ref a) (some (.ref b)) ∧ ClH H b a' c ∧ MaxIn L c ∧ c.ad = u) ∨ (u ∉ us ∧ DGet H d (.ref a) none) := by
  obtain ⟨kvs, h1, h2, h3, h4, h5, h6⟩ := h
  have ek : (u.map V.str) = ((u.map Sum.inr : List Key).map kV) := by rw [List.map_map]; rfl
  rw [ek] at ha
  have g := DGet.t h1 ha
  by_cases hu : u ∈ us
  · obtain ⟨b, a', c, e1, e2, e3, e4⟩ := (h6 u).1 hu
    rw [e1] at g
    exact .inl ⟨hu, b, a', c, g, e2, e3, e4⟩
  · rw [(h6 u).2 hu] at g
    exact .inr ⟨hu, g⟩
end Co
namespace Co
open PySem L2 Mi
def TupsH (H : Hp) (p : Addr) (T : List (List Str)) : Prop := ∃ rs : List (Addr × List Str), H p = some (.tup (rs.map fun r => V.ref r.1)) ∧ (∀ r ∈ rs, H r.1 = some (.tup (r.2.map V.str))) ∧ rs.map (·.2) = T
end Co
namespace Co
open PySem L2 Mi
def GotAt (H : Hp) (d : Addr) (us : List (List Str)) (Pc : Cl → Prop := fun c => 0 ≤ c.ck) : Prop := ∃ kvs : List (List Key × V), H d = some (.dT kvs) ∧ kvs.map (·.1) = (us.map fun t => t.map Sum.inr) ∧ us.Nodup ∧
  ∀ u, u ∈ us → ∃ b a c, valV kvs (u.map Sum.inr) = some (.ref b) ∧ ClH H b a c ∧ c.ad = u ∧ Pc c
theorem GotAt.nil {Pc : Cl → Prop} {H : Hp} {d : Addr} (h : H d = some (.dT [])) : GotAt H d [] Pc := ⟨[], h, rfl, List.nodup_nil, fun u z => by cases z⟩
theorem GotAt.ts {Pc : Cl → Prop} {H H' : Hp} {d : Addr} {us : List (List Str)} (h : GotAt H d us Pc) (s : TS' H H') (hd : ∀ kvs, H d = some (.dT kvs) → H' d = some (.dT kvs)) : GotAt H' d us Pc := by
  obtain ⟨kvs, h1, h2, h3, h6⟩ := h
  refine ⟨kvs, hd _ h1, h2, h3, fun u hu => ?_⟩
  obtain ⟨b, a, c, e1, e2, e3⟩ := h6 u hu
  exact ⟨b, a, c, e1, e2.ts s, e3⟩
theorem GotAt.same {Pc : Cl → Prop} {H H' : Hp} {d : Addr} {us : List (List Str)} (h : GotAt H d us Pc) (s : Same H H') : GotAt H' d us Pc := h.ts s.ts fun _ e => s _ _ e
theorem GotAt.put {Pc : Cl → Prop} {H : Hp} {d : Addr} {us : List (List Str)} (h : GotAt H d us Pc) {b a : Addr} {x : Cl} (hx : ClH H b a x) (h0 : Pc x) (hz : us.length ≤ 1000) :
    ∃ o, DPut H d (.ref a) (.ref b) (upd H d o) ∧ GotAt (upd H d o) d (if x.ad ∈ us then us else us ++ [x.ad]) Pc := by
  obtain ⟨kvs, h1, h2, h3, h6⟩ := h
  have hkl : kvs.length = us.length := by have := congrArg List.length h2; rw [List.length_map, List.length_map] at this; exact this
  have ek : (x.ad.map V.str) = ((x.ad.map Sum.inr : List Key).map kV) := by rw [List.map_map]; rfl
  have hk := hx.2
  rw [ek] at hk
  have ndT : TS' H (upd H d (.dT (putK kvs (x.ad.map Sum.inr) (.ref b)))) := fun c ys e => by rw [upd_ne (fun z => by rw [z, h1] at e; cases e)]; exact e
  refine ⟨_, DPut.t h1 hk (bigl _ (by omega)), _, upd_same, putKT_keys h2, ?_, fun u hu => ?_⟩
  · by_cases c : x.ad ∈ us
    · rw [if_pos c]; exact h3
    · rw [if_neg c, List.nodup_append]
      exact ⟨h3, by simp, fun y hy z hz e => by rw [List.mem_singleton.mp hz] at e; exact c (e ▸ hy)⟩
  · rw [valV_put]
    by_cases e : u = x.ad
    · subst e
      exact ⟨b, a, x, if_pos rfl, hx.ts ndT, rfl, h0⟩
    · rw [if_neg (fun z => e (inrT_inj z))]
      have hu' : u ∈ us := by
        by_cases c : x.ad ∈ us
        · rw [if_pos c] at hu; exact hu
        · rw [if_neg c] at hu
          exact (List.mem_append.mp hu).elim id fun z => absurd (List.mem_singleton.mp z) e
      obtain ⟨b', a', c', e1, e2, e3⟩ := h6 u hu'
      exact ⟨b', a', c', e1, e2.ts ndT, e3⟩
theorem GotAt.get {Pc : Cl → Prop} {H : Hp} {d a : Addr} {us : List (List Str)} (h : GotAt H d us Pc) {u : List Str} (hu : u ∈ us) (ha : H a = some (.tup (u.map V.str))) : ∃ b a' c, DGet H d (.ref a) (some (.ref b)) ∧ ClH H b a' c ∧ c.ad = u ∧ Pc c := by
  obtain ⟨kvs, h1, h2, h3, h6⟩ := h
  have ek : (u.map V.str) = ((u.map Sum.inr : List Key).map kV) := by rw [List.map_map]; rfl
  rw [ek] at ha
  obtain ⟨b, a', c, e1, e2, e3⟩ := h6 u hu
  have g := DGet.t h1 ha
  rw [e1] at g
  exact ⟨b, a', c, g, e2, e3⟩
end Co
namespace Co
open PySem L2 Mi
theorem compF_drw {J : It} {n : Nat} {te : TE} {fr : St} {H1 : Hp} {QD : Hp → Prop} (D : Addr) (V0 : Nat → V → Prop) (G : Nat → List V → Hp → Prop) (hn : n < sizeLine)
    (hgo : ∀ i H, i < n → J.go i H) (hyl : ∀ i H x H', i < n → J.yld i H x H' → H' = H ∧ V0 i x) (hst : ∀ H, J.stop n H)
    (g0 : G 0 [] (upd H1 D (.lst [])))
    (gs : ∀ i x ys H (R : VK), i < n → V0 i x → G i ys H → H D = some (.lst ys) → (∀ y H6, H6 D = some (.lst ys) → G (i + 1) (ys ++ [y]) (upd H6 D (.lst (ys ++ [y]))) → R y H6) → te (some x :: fr) H R)
    (hd : ∀ ys H, G n ys H → H D = some (.lst ys) → QD H) :
    ∃ W : Nat → Nat → List V → Hp → Prop, (∃ m, W 0 m [] (upd H1 D (.lst []))) ∧ ∀ i m ys H2, W i m ys H2 → H2 D = some (.lst ys) ∧
      ((J.stop i H2 ∧ QD H2) ∨ (J.go i H2 ∧ ∀ x H3, J.yld i H2 x H3 → ∀ pre : St, pre.length = 1 → gName 0 x (pre ++ fr) H3 fun σ4 H4 => (∃ pre' : St, pre'.length = 1 ∧ σ4 = pre' ++ fr) ∧
        tTrue σ4 H4 fun b H5 => if b = true then te σ4 H5 (fun y H6 => H6 D = some (.lst ys) ∧ ys.length < sizeLine ∧ ∃ m', m' < m ∧ W (i + 1) m' (ys ++ [y]) (upd H6 D (.lst (ys ++ [y])))) else ∃ m', m' < m ∧ W (i + 1) m' ys H5)) := by
  refine ⟨fun i m ys H2 => m = n - i ∧ i ≤ n ∧ ys.length = i ∧ H2 D = some (.lst ys) ∧ G i ys H2, ⟨n, by simp, Nat.zero_le _, rfl, upd_same, g0⟩, ?_⟩
  rintro i m ys H2 ⟨rfl, hi, hl, hD2, g⟩
  refine ⟨hD2, ?_⟩
  by_cases hlt : i < n
  · refine .inr ⟨hgo i H2 hlt, fun x H3 y pre hpre => ?_⟩
    obtain ⟨rfl, hv⟩ := hyl i H2 x H3 hlt y
    obtain ⟨v0, rfl⟩ : ∃ v0, pre = [v0] := by
      cases pre with
      | nil => simp at hpre
      | cons v r => cases r with
        | nil => exact ⟨v, rfl⟩
        | cons _ _ => simp at hpre
    refine ⟨⟨[some x], rfl, rfl⟩, ?_⟩
    unfold tTrue
    dsimp only
    refine iteT (gs i x ys H3 _ hlt hv g hD2 fun y H6 q1 q2 => ?_)
    exact ⟨q1, by omega, n - (i + 1), by omega, rfl, hlt, by rw [List.length_append, hl]; rfl, upd_same, q2⟩
  · have e : i = n := by omega
    subst e
    exact .inl ⟨hst H2, hd ys H2 g hD2⟩
theorem _root_.Mi.Tog.sub {L A : List Cl} (h : Tog L A) {c : Cl} (hc : c ∈ A) : c ∈ L := ((h.mem c).mp hc).1
end Co
namespace Co
open PySem L2 Mi
end Co
namespace Co
open PySem L2 Mi
theorem TupsH.ts {H H' : Hp} {p : Addr} {T : List (List Str)} (h : TupsH H p T) (s : TS' H H') : TupsH H' p T := by
  obtain ⟨rs, h1, h2, h3⟩ := h
  exact ⟨rs, s _ _ h1, fun r hr => s _ _ (h2 r hr), h3⟩
theorem TupsH.same {H H' : Hp} {p : Addr} {T : List (List Str)} (h : TupsH H p T) (s : Same H H') : TupsH H' p T := h.ts s.ts
end Co
namespace HK
open PySem
section
variable {prog : Program} {w : World} {A : Around} {R : Result → Shared → Prop} {I : Addr} {fp wr : List Addr} {n : Nat} {P : Nat → Value → Prop} {St : Nat → Heap → Prop} {Kp : Shared → Prop}
end
section
variable {prog : Program} {w : World} {A : Around} {E : Value → Shared → Prop} {s : Shared}
end
end HK
namespace HL
open PySem PySem.SeqAt
open AutoSeq1 (wpAny_loadPart')
open MeetsSeq MeetsSeq2 MeetsSeq3
def GtAt (A : Around) (s : Shared) (y x : Value) (b : Bool) : Prop :=
  ∀ (prog : Program) (w : World) (E : Value → Shared → Prop) (Q : Value → Shared → Prop), Q (.bool b) s → wpAny (model prog w) A (richCompare .Gt y x) Q E s
theorem tuple_gtAt (p q : Addr) (xs ys : Array Value) (n n2 : Nat) (dp dq : Option Addr) (sp sq : Array (Option Value)) (e g : Nat → Bool) :
    Meets (Builtin.«tuple.__gt__» ⟨[.ref p, .ref q], []⟩)
      (fun A R s => s.heap.get? p = some { cls := .type "tuple", dict := dp, data := .seq xs n, slots := sp } ∧ s.heap.get? q = some { cls := .type "tuple", dict := dq, data := .seq ys n2, slots := sq } ∧
        (∀ j (h1 : j < xs.size) (h2 : j < ys.size), EqAt A.in1 s xs[j] ys[j] (e j)) ∧ (∀ j (h1 : j < xs.size) (h2 : j < ys.size), e j = false → GtAt A.in1 s xs[j] ys[j] (g j)) ∧
        R (.ok (.ret (.bool (lexB e g (decide (ys.size < xs.size)) (List.range (min xs.size ys.size)))))) s) :=
  .of_wp fun prog w A R s h => by
    obtain ⟨hp, gs, d, tk, os⟩ := s; obtain ⟨g1, g2, he, hg, h⟩ := h
    have sub := AutoSeq1.sub_tuple_tuple
    have hZ : (xs.toList.zip ys.toList).length = min xs.size ys.size := by simp
    wp_walk using wpAny_loadPart' g1, wpAny_loadPart' g2, wpAny_forIn_list _ (fun rest b s' => b.1 = none ∧ s' = ⟨hp, gs, d, tk, os⟩ ∧ ∃ i, rest = (xs.toList.zip ys.toList).drop i ∧
      R (.ok (.ret (.bool (lexB e g (decide (ys.size < xs.size)) ((List.range (min xs.size ys.size)).drop i))))) ⟨hp, gs, d, tk, os⟩) _
    case turn =>
      rintro ⟨y, x⟩ rest b s' ⟨hb', rfl, i, hz, hR⟩
      have hlt : i < (xs.toList.zip ys.toList).length := Nat.lt_of_not_le fun z => by rw [List.drop_of_length_le z] at hz; cases hz
      have hm : i < min xs.size ys.size := hZ ▸ hlt
      have h1 : i < xs.size := by omega
      have h2 : i < ys.size := by omega
      rw [List.drop_eq_getElem_cons hlt] at hz
      injection hz with hyx hrest
      obtain rfl : y = xs[i] := by simpa using congrArg Prod.fst hyx
      obtain rfl : x = ys[i] := by simpa using congrArg Prod.snd hyx
      have hd : (List.range (min xs.size ys.size)).drop i = i :: (List.range (min xs.size ys.size)).drop (i + 1) := by simp [List.drop_eq_getElem_cons, hm]
      rw [hd] at hR
      have step : lexB e g (decide (ys.size < xs.size)) (i :: (List.range (min xs.size ys.size)).drop (i + 1)) = if e i = true then lexB e g (decide (ys.size < xs.size)) ((List.range (min xs.size ys.size)).drop (i + 1)) else g i := rfl
      rw [step] at hR
      refine wpAny_bind (he i h1 h2 prog w _ _ ?_)
      cases hy : e i with
      | true =>
        rw [hy] at hR
        wp_walk
        exact ⟨rfl, rfl, i + 1, hrest, by simpa using hR⟩
      | false =>
        rw [hy] at hR
        have hg' := hg i h1 h2 hy
        simp only [Bool.not_false, if_true]
        exact wpAny_bind (wpAny_rule (wpAny_bind (hg' prog w _ _ (wpAny_bind (wpAny_pure (wpAny_pure (wpAny_pure ⟨_, rfl, by simpa using hR⟩)))))))
    case fin =>
      rintro ⟨b1, b2⟩ s' ⟨hb', rfl, i, hz, hR⟩
      simp only at hb'
      subst hb'
      have hge : min xs.size ys.size ≤ i := Nat.le_of_not_lt fun z => by
        rw [List.drop_eq_getElem_cons (hZ.symm ▸ z)] at hz; cases hz
      rw [List.drop_of_length_le (by simpa using hge)] at hR
      wp_walk
      exact ⟨_, rfl, by simpa [Builtin.Tuple.tupleCompareSizes, lexB] using hR⟩
    case h =>
      exact ⟨rfl, rfl, 0, rfl, by simpa using h⟩
section
variable {A : Around} {s : Shared}
theorem GtAt.tuples {p q : Addr} {xs ys : Array Value} {e g : Nat → Bool} (hp : s.heap.IsTuple p xs) (hq : s.heap.IsTuple q ys) (hu : A.units < cLine)
    (he : ∀ j (h1 : j < xs.size) (h2 : j < ys.size), EqAt A.in1 s xs[j] ys[j] (e j)) (hg : ∀ j (h1 : j < xs.size) (h2 : j < ys.size), e j = false → GtAt A.in1 s xs[j] ys[j] (g j)) :
    GtAt A s (.ref p) (.ref q) (lexB e g (decide (ys.size < xs.size)) (List.range (min xs.size ys.size))) := fun prog w E Q h => by
  obtain ⟨⟨c1, d1, da1, s1⟩, o1, k1, n1, e1⟩ := id hp
  obtain ⟨⟨c2, d2, da2, s2⟩, o2, k2, n2, e2⟩ := id hq
  simp only at k1 e1 k2 e2
  subst k1 e1 k2 e2
  exact richCompare_meets_room (op := .Gt) ⟨_, o1, rfl⟩ ⟨_, o2, rfl⟩ F.slot_tuple_gt F.entry_tuple_gt (F.args_tuple_gt_2 _ _) (tuple_gtAt p q xs ys n1 n2 d1 d2 s1 s2 e g)
    ⟨o1, o2, he, hg, show Value.bool (lexB e g (decide (ys.size < xs.size)) (List.range (min xs.size ys.size))) ≠ Value.notImplemented ∧ Q _ s from ⟨(fun x => nomatch x), h⟩⟩ hu
theorem GtAt.int (a : Int) (t : Tok) (b : Int) (u : Tok) : GtAt A s (.int a t) (.int b u) (decide (b < a)) := fun _ _ _ _ h => PyProof.Rows.gt_int h
theorem GtAt.str (a : Str) (t : Tok) (b : Str) (u : Tok) : GtAt A s (.str a t) (.str b u) (decide (b.cps.toList < a.cps.toList)) := fun _ _ _ _ h => PySem.P.gt_str h
end
end HL
namespace L2
open PySem PySem.Spec PyProof.Rows HL
mutual
theorem dat_eq_of : ∀ {d e : Dat}, Dat.beq d e = true → d = e
  | .non, .non, _ => rfl
  | .int i, .int j, h => by rw [show i = j from eq_of_beq h]
  | .str i, .str j, h => by rw [show i = j from eq_of_beq h]
  | .tup ds, .tup es, h => by rw [dats_eq_of (ds := ds) (es := es) h]
  | .non, .int _, h => by cases h
  | .non, .str _, h => by cases h
  | .non, .tup _, h => by cases h
  | .int _, .non, h => by cases h
  | .int _, .str _, h => by cases h
  | .int _, .tup _, h => by cases h
  | .str _, .non, h => by cases h
  | .str _, .int _, h => by cases h
  | .str _, .tup _, h => by cases h
  | .tup _, .non, h => by cases h
  | .tup _, .int _, h => by cases h
  | .tup _, .str _, h => by cases h
theorem dats_eq_of : ∀ {ds es : List Dat}, Dat.beqs ds es = true → ds = es
  | [], [], _ => rfl
  | d :: ds, e :: es, h => by
    have h' : (Dat.beq d e && Dat.beqs ds es) = true := h
    rw [Bool.and_eq_true] at h'
    rw [dat_eq_of h'.1, dats_eq_of h'.2]
  | [], _ :: _, h => by cases h
  | _ :: _, [], h => by cases h
end
theorem beqs_iff {ds es : List Dat} : Dat.beqs ds es = true ↔ ds = es := ⟨dats_eq_of, fun h => h ▸ beqs_refl ds⟩
section
variable {X : Cx} {pins : List (Addr × Obj)} {σ : St} {H : Hp} {s : Shared}
end
end L2
namespace L2
open PySem PySem.Spec PyProof.Rows HL
section
variable {X : Cx}
theorem rc_eqD {pins : List (Addr × Obj)} {σ : St} {H : Hp} {s : Shared} (I : Inv X pins σ H s) (hu : X.A.units + 8 < cLine) {ds es : List Dat} {a b : Addr} {xs ys : List V} (q1 : SqT X.K H a xs) (q2 : SqT X.K H b ys) (h1 : AreDat X.K H ds xs) (h2 : AreDat X.K H es ys) (hdp : Dat.deeps ds ≤ 6) : SeqAt.RcAt X.A s (.ref a) (.ref b) (Dat.beqs ds es) := by
  obtain ⟨its, r1, p1, _⟩ := I.tuple q1
  obtain ⟨its2, r2, p2, _⟩ := I.tuple q2
  have s1 : its.toArray.size = ds.length := by rw [List.size_toArray, ← r1.length, h1.length]
  have s2 : its2.toArray.size = es.length := by rw [List.size_toArray, ← r2.length, h2.length]
  have key := SeqAt.RcAt.tuples (A := X.A) (s := s) (e := fun j => Dat.beq (ds.getD j .non) (es.getD j .non)) p1 p2 (by omega) fun j j1 j2 => by
    obtain ⟨x', d1, rx', m1⟩ := dat_at (A := X.A) h1 r1 j1
    obtain ⟨y', d2, ry', _⟩ := dat_at (A := X.A) h2 r2 j2
    have h3 := deep_at m1
    exact dat_eqAt I 6 X.A.in1 (by omega) (by show X.A.units + 1 + 6 < cLine; omega) d1 d2 rx' ry'
  rw [s1, s2, ← beqs_all] at key
  exact key
def rNeD (K : PySem.W.Frag) : R2 := fun x y H Q => ∃ ds es, IsDat K H (.tup ds) x ∧ IsDat K H (.tup es) y ∧ Dat.deeps ds ≤ 6 ∧ Q (.bl (!Dat.beqs ds es)) H
theorem op_neD (hu : X.A.units + 8 < cLine) : OpR X (compareOp .NotEq) (rNeD X.K) := by
  intro pins s σ H x y v u Q I rx ry h
  obtain ⟨ds, es, ⟨a, xs, rfl, q1, h1⟩, ⟨b, ys, rfl, q2, h2⟩, hdp, q⟩ := h
  cases rx
  cases ry
  obtain ⟨its, r1, p1, _⟩ := I.tuple q1
  obtain ⟨its2, r2, p2, _⟩ := I.tuple q2
  have s1 : its.toArray.size = ds.length := by rw [List.size_toArray, ← r1.length, h1.length]
  have s2 : its2.toArray.size = es.length := by rw [List.size_toArray, ← r2.length, h2.length]
  have key := SeqAt.RcNeAt.tuples (A := X.A) (s := s) (e := fun j => Dat.beq (ds.getD j .non) (es.getD j .non)) p1 p2 (by omega) fun j j1 j2 => by
    obtain ⟨x', d1, rx', m1⟩ := dat_at (A := X.A) h1 r1 j1
    obtain ⟨y', d2, ry', _⟩ := dat_at (A := X.A) h2 r2 j2
    have h3 := deep_at m1
    exact dat_eqAt I 6 X.A.in1 (by omega) (by show X.A.units + 1 + 6 < cLine; omega) d1 d2 rx' ry'
  rw [s1, s2, ← beqs_all] at key
  exact key _ _ _ _ ⟨.bl _, H, I, rfl, q⟩
open Classical in
end
end L2
namespace L2
open PySem PySem.Spec PyProof.Rows HL
section
variable {X : Cx}
end
end L2
namespace HM
open PySem
section
variable {prog : Program} {w : World} {A : Around} {E : Value → Shared → Prop} {s : Shared}
end
end HM
namespace L2
open PySem PySem.Spec PyProof.Rows
section
variable {X : Cx}
end
end L2
namespace L2
open PySem PySem.Spec PyProof.Rows
section
variable {X : Cx}
end
end L2
namespace Co
open PySem L2 Mi
theorem tup_beq (u v : List Str) : Dat.beqs (u.map Dat.str) (v.map Dat.str) = decide (u = v) := by
  rw [Bool.eq_iff_iff, beqs_iff, decide_eq_true_eq]
  constructor
  · intro h
    have e := congrArg (List.map fun d => match d with | Dat.str x => x | _ => ("" : Str)) h
    rw [List.map_map, List.map_map] at e
    have id' : ∀ l : List Str, l.map ((fun d => match d with | Dat.str x => x | _ => ("" : Str)) ∘ Dat.str) = l := fun l => by
      have : ∀ z ∈ l, ((fun d => match d with | Dat.str x => x | _ => ("" : Str)) ∘ Dat.str) z = z := fun z _ => rfl
      rw [List.map_congr_left this, List.map_id']
    rw [id', id'] at e
    exact e
  · rintro rfl; rfl
theorem str_dat {K : PySem.W.Frag} {H : Hp} {a : Addr} {u : List Str} (h : H a = some (.tup (u.map V.str))) : IsDat K H (tupD u) (.ref a) := ⟨a, _, rfl, SqT.of h, dat_strs' u⟩
end Co
namespace Co
open PySem L2 Mi
end Co
namespace Co
open PySem L2 Mi
end Co
namespace Co
open PySem L2 Mi
end Co
namespace L2
open PySem PySem.Spec PyProof.Rows
section
variable {X : Cx} {k : Nat} {f : Addr} {fd : FuncData} {ps : List Str} {sp : Sp} {E : XK}
theorem FpOk.with {pins : List (Addr × Obj)} {H : Hp} {b : Addr} (h : FpOk X pins H b) : FpOk X pins H b := h
end
end L2
namespace L2
open PySem PySem.Spec PyProof.Rows
section
variable {X : Cx} {k : Nat} {f : Addr} {fd : FuncData} {ps : List Str} {sp : Sp} {E : XK}
end
end L2
namespace L2
open PySem PySem.Spec PyProof.Rows
section
variable {X : Cx} {tg : Expr}
end
end L2
namespace L2
open PySem PySem.Spec PyProof.Rows
section
variable {X : Cx}
theorem repS_one (z : Str) : repS z 1 = z := by
  obtain ⟨c⟩ := z
  show (⟨(List.replicate 1 c).foldl (· ++ ·) #[]⟩ : Str) = ⟨c⟩
  simp
theorem op_mulS1 : OpR X (binaryOp .Mult) (fun x y H Q => ∃ z n, x = .str z ∧ y = .int n ∧ 1 ≤ n ∧ n ≤ 1000 ∧ 0 < z.length ∧ z.length ≤ 1000 ∧ Q (.str (repS z n.toNat)) H) := by
  intro pins s σ H x y v u Q I rx ry h
  obtain ⟨z, n, rfl, rfl, h1, h2, h3, h4, q⟩ := h
  by_cases hn : 2 ≤ n
  · exact op_mulS pins s σ H _ _ v u Q I rx ry ⟨z, n, rfl, rfl, hn, h2, h3, h4, q⟩
  · have e : n = 1 := by omega
    subst e
    obtain ⟨t, rfl⟩ := rx
    obtain ⟨t', rfl⟩ := ry
    refine PySem.P.mul_str ?_ ?_ ?_ ?_
    · decide
    · intro a b
      have c : ((1 : Int) == 1 || z.length == 0) = true := rfl
      rw [c] at b
      cases b
    · intro a b
      have c : ((1 : Int) == 1 || z.length == 0) = true := rfl
      rw [c] at b
      cases b
    · rw [if_neg (by decide)]
      have e1 : ((1 : Int) == 1 || z.length == 0) = true := rfl
      rw [e1]
      have e2 : repS z (1 : Int).toNat = z := repS_one z
      rw [e2] at q
      exact ⟨.str z, H, I, ⟨_, rfl⟩, q⟩
end
end L2
namespace L2
open PySem PySem.Spec PyProof.Rows
section
variable {X : Cx}
end
end L2
namespace Mi
open PySem L2
abbrev Rl := List Str × List Str
def fits (a : List Str) (r : Rl) : Bool := decide (a.take r.1.length = r.1)
def Best (R : List Rl) (a : List Str) (r : Rl) : Prop := r ∈ R ∧ fits a r = true ∧ ∀ q ∈ R, fits a q = true → q.1.length ≤ r.1.length
theorem Best.congr {R S : List Rl} {a : List Str} {r : Rl} (h : ∀ x, x ∈ R ↔ x ∈ S) (b : Best R a r) : Best S a r := ⟨(h r).mp b.1, b.2.1, fun q hq => b.2.2 q ((h q).mpr hq)⟩
def rest (R : List Rl) (b : List Str) : List Rl := R.filter fun r => !decide (r.1 = b)
end Mi
namespace L2
open PySem PySem.Spec PyProof.Rows
section
variable {X : Cx} {tg : Expr}
end
end L2
namespace Co
open PySem L2 Mi
theorem compF_gen {α : Type} {J : It} {rs : List α} (gv : α → V) {tt : TT} {te : TE} {fr : St} {H1 : Hp} {QD : Hp → Prop} (f : α → V) (p : α → Bool) (D : Addr) (hD : H1 D = none) (T : Tells J H1 (rs.map gv)) (hz : rs.length < sizeLine)
    (ht : ∀ r H R, r ∈ rs → Same H1 H → (∀ H', Same H H' → R (p r) H') → tt (some (gv r) :: fr) H R)
    (he : ∀ r H R, r ∈ rs → p r = true → Same H1 H → (∀ H', Same H H' → R (f r) H') → te (some (gv r) :: fr) H R)
    (hd : ∀ H', Same H1 H' → H' D = some (.lst ((rs.filter p).map f)) → QD H') :
    ∃ W : Nat → Nat → List V → Hp → Prop, (∃ m, W 0 m [] (upd H1 D (.lst []))) ∧ ∀ i m ys H2, W i m ys H2 → H2 D = some (.lst ys) ∧
      ((J.stop i H2 ∧ QD H2) ∨ (J.go i H2 ∧ ∀ x H3, J.yld i H2 x H3 → ∀ pre : St, pre.length = 1 → gName 0 x (pre ++ fr) H3 fun σ4 H4 => (∃ pre' : St, pre'.length = 1 ∧ σ4 = pre' ++ fr) ∧
        tt σ4 H4 fun b H5 => if b = true then te σ4 H5 (fun y H6 => H6 D = some (.lst ys) ∧ ys.length < sizeLine ∧ ∃ m', m' < m ∧ W (i + 1) m' (ys ++ [y]) (upd H6 D (.lst (ys ++ [y])))) else ∃ m', m' < m ∧ W (i + 1) m' ys H5)) := by
  refine ⟨fun i m ys H2 => m = rs.length - i ∧ i ≤ rs.length ∧ ys = ((rs.take i).filter p).map f ∧ H2 D = some (.lst ys) ∧ Same H1 H2, ⟨rs.length, by simp, Nat.zero_le _, by simp, upd_same, Same.new hD _⟩, ?_⟩
  rintro i m ys H2 ⟨rfl, hi, rfl, hD2, sm⟩
  refine ⟨hD2, ?_⟩
  by_cases hlt : i < rs.length
  · refine .inr ⟨T.go H2 i sm (by rw [List.length_map]; exact hlt), fun x H3 y pre hpre => ?_⟩
    obtain ⟨rfl, hx⟩ := T.yld H2 i x H3 sm y
    rw [List.getElem?_map, List.getElem?_eq_getElem hlt] at hx
    cases hx
    have hm : rs[i] ∈ rs := List.getElem_mem hlt
    obtain ⟨a0, rfl⟩ : ∃ a0, pre = [a0] := by
      cases pre with
      | nil => simp at hpre
      | cons a0 r => cases r with
        | nil => exact ⟨a0, rfl⟩
        | cons _ _ => simp at hpre
    refine ⟨⟨[some (gv rs[i])], rfl, rfl⟩, ?_⟩
    have htk : (rs.take (i + 1)).filter p = (rs.take i).filter p ++ (if p rs[i] = true then [rs[i]] else []) := by
      rw [List.take_add_one, List.getElem?_eq_getElem hlt, List.filter_append]
      cases hp : p rs[i] <;> simp [hp]
    refine ht rs[i] H3 _ hm sm fun H5 s5 => ?_
    cases hp : p rs[i] with
    | false =>
      rw [hp, if_neg Bool.false_ne_true, List.append_nil] at htk
      exact iteF ⟨rs.length - (i + 1), by omega, rfl, hlt, by rw [htk], s5 _ _ hD2, sm.trans s5⟩
    | true =>
      rw [hp, if_pos rfl] at htk
      refine iteT (he rs[i] H5 _ hm hp (sm.trans s5) fun H6 s6 => ?_)
      have hl : (((rs.take i).filter p).map f).length ≤ i := by
        rw [List.length_map]
        refine Nat.le_trans (List.length_filter_le _ _) ?_
        rw [List.length_take]; omega
      refine ⟨s6 _ _ (s5 _ _ hD2), by omega, rs.length - (i + 1), by omega, rfl, hlt, ?_, upd_same, ?_⟩
      · rw [htk, List.map_append]; rfl
      · intro b o e
        have hb : b ≠ D := ne_of_none e hD
        rw [upd_ne hb]
        exact s6 _ _ (s5 _ _ (sm _ _ e))
  · have e : i = rs.length := by omega
    subst e
    rw [List.take_length] at hD2
    have hst := T.stop H2 sm
    rw [List.length_map] at hst
    exact .inl ⟨hst, hd H2 sm hD2⟩
abbrev TupA (H : Hp) (a : Addr) (u : List Str) : Prop := H a = some (.tup (u.map V.str))
abbrev Rx := Addr × Addr × Addr × Rl
def RlH (H : Hp) (x : Rx) : Prop := H x.1 = some (.tup [.ref x.2.1, .ref x.2.2.1]) ∧ TupA H x.2.1 x.2.2.2.1 ∧ TupA H x.2.2.1 x.2.2.2.2
theorem RlH.ts {H H' : Hp} {x : Rx} (h : RlH H x) (s : TS' H H') : RlH H' x := ⟨s _ _ h.1, s _ _ h.2.1, s _ _ h.2.2⟩
def RlsIn (H : Hp) (rs : List Rx) : Prop := ∀ x ∈ rs, RlH H x
theorem RlsIn.ts {H H' : Hp} {rs : List Rx} (h : RlsIn H rs) (s : TS' H H') : RlsIn H' rs := fun x hx => (h x hx).ts s
abbrev rrefs (rs : List Rx) : List V := rs.map fun x => V.ref x.1
def RlsAt (H : Hp) (p : Addr) (R : List Rl) : Prop := ∃ rs : List Rx, H p = some (.tup (rrefs rs)) ∧ RlsIn H rs ∧ rs.map (·.2.2.2) = R
def RlsSq (H : Hp) (p : Addr) (rs : List Rx) : Prop := H p = some (.tup (rrefs rs)) ∨ H p = some (.lst (rrefs rs))
theorem RlsAt.ts {H H' : Hp} {p : Addr} {R : List Rl} (h : RlsAt H p R) (s : TS' H H') : RlsAt H' p R := by
  obtain ⟨rs, h1, h2, h3⟩ := h
  exact ⟨rs, s _ _ h1, h2.ts s, h3⟩
theorem RlsAt.same {H H' : Hp} {p : Addr} {R : List Rl} (h : RlsAt H p R) (s : Same H H') : RlsAt H' p R := h.ts s.ts
theorem RlsSq.same {H H' : Hp} {p : Addr} {rs : List Rx} (h : RlsSq H p rs) (s : Same H H') : RlsSq H' p rs := h.elim (fun h => .inl (s _ _ h)) fun h => .inr (s _ _ h)
end Co
namespace Co
open PySem L2 Mi
end Co
namespace Co
open PySem L2 Mi
end Co
namespace RI
open PySem PySem.Spec PyProof.Rows
abbrev It (h : Heap) (it d : Addr) (x0 : Value) (f : Bool) (i n ep : Nat) (ok ov : Value) : Prop := h.get? it = some { cls := .type "dict_itemiterator", dict := none, data := .fields #[x0, .bool f, .ref d, .int i 0, .int n 0, .int ep 0, ok, ov], slots := #[] }
def St (h : Heap) (it d S : Addr) (i n ep : Nat) : Prop := ∃ x0 f ok ov, It h it d x0 f i n ep ok ov ∧ ((x0 = .none ∧ f = false) ∨ ∃ (a : Addr) (oa : Obj), x0 = rawInt a ∧ h.get? a = some oa ∧ a ≠ it ∧ a ≠ S)
theorem St.keep {h h' : Heap} {it d S : Addr} {i n ep : Nat} (x : St h it d S i n ep) (hk : ∀ b o, b ≠ S → h.get? b = some o → h'.get? b = some o) (hI : it ≠ S) : St h' it d S i n ep := by
  obtain ⟨x0, f, ok, ov, hit, hx⟩ := x
  refine ⟨x0, f, ok, ov, hk _ _ hI hit, ?_⟩
  rcases hx with hx | ⟨a, oa, e, ha, h1, h2⟩
  · exact .inl hx
  · exact .inr ⟨a, oa, e, hk _ _ h2 ha, h1, h2⟩
section
variable {prog : Program} {w : World} {A : Around} {E : Value → Shared → Prop} {s : Shared}
abbrev pr (e : DictEntry) : Obj := { cls := .type "tuple", data := .seq #[e.key, e.val] }
theorem item {it d S : Addr} {i ep : Nat} {od : Obj} {es : Array DictEntry} {Q : Option Value → Shared → Prop} (hst : St s.heap it d S i es.size ep) (hS : S < s.heap.objs.size) (hod : s.heap.get? d = some od) (hdd : od.data = .dict es ep) (hlt : i < es.size)
    (hQ : ∀ h', St h' it d S (i + 1) es.size ep → h'.get? s.heap.objs.size = some (pr es[i]) → h'.objs.size = s.heap.objs.size + 1 → (∀ b o, b ≠ it → s.heap.get? b = some o → h'.get? b = some o) → Q (some (.ref s.heap.objs.size)) { s with heap := h' }) :
    wpAny (model prog w) A (pyNext (.ref it)) Q E s := by
  obtain ⟨x0, f, ok, ov, hit, hx0⟩ := hst
  obtain ⟨hp, g, dr, tk, os⟩ := s
  have T0 : Shared.TypeIs ⟨hp, g, dr, tk, os⟩ (.ref it) "dict_itemiterator" := ⟨_, hit, rfl⟩
  unfold pyNext; refine wpAny_bind (wpAny_attempt (wpAny_callSpecial?_slot (name := Str.ofString "__next__") T0 F.slot_dict_itemiterator_next (wpAny_call_entry F.slot_dict_itemiterator_next T0 F.entry_dict_itemiterator_next ?_ (F.args_dict_itemiterator_next_1 _))))
  refine wpAny_bind (wpAny_pure (wpAny_bind (wpAny_bind ?_))); first | refine wpAny_bind (wpAny_typeNameOfWhole_itemiter T0 (wpAny_pure ?_)) | refine wpAny_bind (wpAny_typeNameOf_itemiter T0 (wpAny_pure ?_))
  refine wpAny_bind (wpAny_fieldsOf hit rfl ?_); have own1 : Builtin.Dict_items.ownsTuple "dict_itemiterator" = true := by decide
  simp only [own1, if_true]; show wpAny _ _ (if (Value.ref d == Value.none) = true then _ else _) _ _ _; rw [if_neg (show ¬ ((Value.ref d == Value.none) = true) from Bool.false_ne_true)]
  refine wpAny_bind (wpAny_pure (wpAny_bind (wpAny_dictEntries hod hdd ?_))); rw [if_neg (by simp)]
  refine wpAny_bind (wpAny_pure (wpAny_bind (wpAny_dictEpoch hod hdd ?_))); rw [if_neg (by simp)]; refine wpAny_pure ?_
  simp only [show ¬ ((i : Int) < 0) from by omega, if_false, Int.toNat_natCast, Array.getElem?_eq_getElem hlt]
  refine wpAny_bind ?_; first | refine wpAny_bind (wpAny_typeNameOfWhole_itemiter T0 (wpAny_pure ?_)) | refine wpAny_bind (wpAny_typeNameOf_itemiter T0 (wpAny_pure ?_))
  refine wpAny_bind (wpAny_isOneOf_itemiter T0 ?_); show wpAny _ _ (setField (.ref it) 3 (rawInt ((i : Int) + 1)) >>= _) _ _ ⟨hp, g, dr, tk, os⟩
  refine wpAny_bind (wpAny_setField_rec hit (by simp) fun h1 he1 hs1 => ?_); replace hs1 : Heap.SameBut it hp h1 := hs1
  replace he1 : It h1 it d x0 f (i + 1) es.size ep ok ov := by
    have e : ((i + 1 : Nat) : Int) = (i : Int) + 1 := by omega
    unfold It; rw [e]; simpa [rawInt] using he1
  have T1 : Shared.TypeIs ⟨h1, g, dr, tk, os⟩ (.ref it) "dict_itemiterator" := ⟨_, he1, rfl⟩
  refine wpAny_bind (wpAny_holding (wpAny_bind (wpAny_isOneOf_itemiter T1 (wpAny_bind (wpAny_isOneOf_itemiter T1 ?_)))))
  show wpAny _ _ (Builtin.Dict_items.pairFromOwner (.ref it) 6 es[i].key es[i].val) _ _ ⟨h1, g, dr, tk, os⟩; unfold Builtin.Dict_items.pairFromOwner
  refine wpAny_bind (wpAny_newTuple ?_); have he2 : It (h1.push (pr es[i])) it d x0 f (i + 1) es.size ep ok ov := Heap.get?_push_of_some _ he1
  generalize hh2 : h1.push { cls := .type "tuple", data := .seq #[es[i].key, es[i].val] } = h2 at he2
  have hz1 : h1.objs.size = hp.objs.size := hs1.1
  have hil : it < hp.objs.size := Heap.lt_size hit
  have ht2 : h2.get? hp.objs.size = some (pr es[i]) := by rw [← hh2, ← hz1]; exact Heap.get?_push_size _ rfl
  have hz2 : h2.objs.size = hp.objs.size + 1 := by rw [← hh2, Heap.size_push, hz1]
  have hk2 : ∀ b o, b ≠ it → hp.get? b = some o → h2.get? b = some o := fun b o hb e => by rw [← hh2]; exact Heap.get?_push_of_some _ (hs1.extBut b o hb e)
  show wpAny _ _ (Builtin.Dict_items.ownedTupleIsFree (.ref it) >>= _) _ _ ⟨h2, g, dr, tk, os⟩
  rw [hz1]; clear hh2 he1 hs1 T1 hz1 h1
  refine wpAny_bind ?_; unfold Builtin.Dict_items.ownedTupleIsFree
  rcases hx0 with ⟨rfl, rfl⟩ | ⟨a, oa, rfl, ha, hai, haS⟩
  · refine wpAny_bind (wpAny_field he2 rfl (x := .none) rfl (wpAny_pure ?_)); simp only [if_true]
    refine wpAny_bind (wpAny_field he2 rfl (x := ok) rfl (wpAny_bind (wpAny_field he2 rfl (x := ov) rfl ?_)))
    refine wpAny_bind (wpAny_setField_rec he2 (by simp) fun h3 he3 hs3 => ?_); replace hs3 : Heap.SameBut it h2 h3 := hs3
    replace he3 : It h3 it d .none false (i + 1) es.size ep es[i].key ov := he3
    refine wpAny_bind (wpAny_setField_rec he3 (by simp) fun h4 he4 hs4 => ?_); replace hs4 : Heap.SameBut it h3 h4 := hs4
    replace he4 : It h4 it d .none false (i + 1) es.size ep es[i].key es[i].val := he4
    refine wpAny_bind (wpAny_setField_rec he4 (by simp) fun h5 he5 hs5 => ?_); replace hs5 : Heap.SameBut it h4 h5 := hs5
    replace he5 : It h5 it d (rawInt hp.objs.size) false (i + 1) es.size ep es[i].key es[i].val := he5
    refine wpAny_bind (wpAny_setField_rec he5 (by simp) fun h6 he6 hs6 => ?_); replace hs6 : Heap.SameBut it h5 h6 := hs6
    replace he6 : It h6 it d (rawInt hp.objs.size) false (i + 1) es.size ep es[i].key es[i].val := he6
    have up : ∀ b o, b ≠ it → h2.get? b = some o → h6.get? b = some o := fun b o hb e => hs6.extBut b o hb (hs5.extBut b o hb (hs4.extBut b o hb (hs3.extBut b o hb e)))
    have ht6 := up _ _ (Nat.ne_of_gt hil) ht2
    exact wpAny_bind (wpAny_letGo (wpAny_pure (wpAny_pure ⟨_, rfl, wpAny_pure (hQ h6 ⟨_, _, _, _, he6, .inr ⟨_, _, rfl, ht6, Nat.ne_of_gt hil, Nat.ne_of_gt hS⟩⟩ ht6 (by show h6.objs.size = _; rw [hs6.1, hs5.1, hs4.1, hs3.1, hz2]) fun b o hb e => up b o hb (hk2 b o hb e))⟩)))
  · have ha2 : h2.get? a = some oa := hk2 a oa hai ha
    refine wpAny_bind (wpAny_field he2 rfl (x := rawInt a) rfl ?_); show wpAny _ _ (loadIfAlive ((a : Int).toNat) >>= _) _ _ _; rw [Int.toNat_natCast]
    refine wpAny_bind (PySem.W.kdx_alive ha2 ?_); simp only [Option.isNone_some, Bool.false_eq_true, if_false]; refine wpAny_bind (wpAny_field he2 rfl (x := .bool f) rfl ?_)
    have fin : ∀ h3 : Heap, It h3 it d (rawInt a) true (i + 1) es.size ep ok ov → Heap.SameBut it h2 h3 → Q (some (.ref hp.objs.size)) ⟨h3, g, dr, tk, os⟩ := fun h3 he3 hs3 =>
      hQ h3 ⟨_, _, _, _, he3, .inr ⟨a, oa, rfl, hs3.extBut _ _ hai ha2, hai, haS⟩⟩ (hs3.extBut _ _ (Nat.ne_of_gt hil) ht2) (by show h3.objs.size = hp.objs.size + 1; rw [hs3.1, hz2]) fun b o hb e => hs3.extBut b o hb (hk2 b o hb e)
    cases f with
    | true => rw [if_neg (show ¬ ((Value.bool true != Value.bool true) = true) from Bool.false_ne_true)]; refine wpAny_pure ?_; simp only [Bool.false_eq_true, if_false]; exact wpAny_pure (wpAny_pure ⟨_, rfl, wpAny_pure (fin h2 he2 (Heap.SameBut.refl _ _))⟩)
    | false =>
      rw [if_pos (show (Value.bool false != Value.bool true) = true from rfl)]; refine wpAny_bind (wpAny_setField_rec he2 (by simp) fun h3 he3 hs3 => ?_)
      replace hs3 : Heap.SameBut it h2 h3 := hs3
      replace he3 : It h3 it d (rawInt a) true (i + 1) es.size ep ok ov := he3
      refine wpAny_pure ?_; simp only [Bool.false_eq_true, if_false]; exact wpAny_pure (wpAny_pure ⟨_, rfl, wpAny_pure (fin h3 he3 hs3)⟩)
theorem done {it d S : Addr} {i ep : Nat} {od : Obj} {es : Array DictEntry} {Q : Option Value → Shared → Prop} (hh : A.handled = none) (hst : St s.heap it d S i es.size ep) (hod : s.heap.get? d = some od) (hdd : od.data = .dict es ep) (hge : es.size ≤ i)
    (hQ : ∀ h', Heap.ExtBut it s.heap h' → Q none { s with heap := h' }) : wpAny (model prog w) A (pyNext (.ref it)) Q E s := by
  obtain ⟨x0, f, ok, ov, hit, _⟩ := hst
  have T0 : s.TypeIs (.ref it) "dict_itemiterator" := ⟨_, hit, rfl⟩
  unfold pyNext; refine wpAny_bind (wpAny_attempt (wpAny_callSpecial?_slot (name := Str.ofString "__next__") T0 F.slot_dict_itemiterator_next (wpAny_call_entry F.slot_dict_itemiterator_next T0 F.entry_dict_itemiterator_next ?_ (F.args_dict_itemiterator_next_1 _))))
  refine wpAny_bind (wpAny_pure (wpAny_bind (wpAny_bind ?_))); first | refine wpAny_bind (wpAny_typeNameOfWhole_itemiter T0 (wpAny_pure ?_)) | refine wpAny_bind (wpAny_typeNameOf_itemiter T0 (wpAny_pure ?_))
  refine wpAny_bind (wpAny_fieldsOf hit rfl ?_); have own1 : Builtin.Dict_items.ownsTuple "dict_itemiterator" = true := by decide
  simp only [own1, if_true]; show wpAny _ _ (if (Value.ref d == Value.none) = true then _ else _) _ _ s; rw [if_neg (show ¬ ((Value.ref d == Value.none) = true) from Bool.false_ne_true)]
  refine wpAny_bind (wpAny_pure (wpAny_bind (wpAny_dictEntries hod hdd ?_))); rw [if_neg (by simp)]
  refine wpAny_bind (wpAny_pure (wpAny_bind (wpAny_dictEpoch hod hdd ?_))); rw [if_neg (by simp)]; refine wpAny_pure ?_
  simp only [show ¬ ((i : Int) < 0) from by omega, if_false, Int.toNat_natCast, Array.getElem?_eq_none hge]
  refine wpAny_bind ?_; first | refine wpAny_bind (wpAny_typeNameOfWhole_itemiter T0 (wpAny_pure ?_)) | refine wpAny_bind (wpAny_typeNameOf_itemiter T0 (wpAny_pure ?_))
  show wpAny _ _ (setField (.ref it) 2 .none >>= _) _ _ s; refine wpAny_bind (wpAny_setField hit rfl (by simp) ?_)
  show wpAny _ _ (newExc (.type "StopIteration") [] >>= _) _ _ _; refine wpAny_bind ?_; simp only [newExc, newTuple]; refine wpAny_bind (wpAny_newObj_type ?_ (by size_fits))
  refine wpAny_bind (m := firstArgMember _ _) (wpAny_of_eq (a := Value.none) (by first | rfl | (simp only [firstArgMember]; rfl)) (wpAny_newObj_type ?_ (by size_fits))); simp only [raiseNew]
  refine wpAny_bind (wpAny_handled ?_); rw [show A.in1.handled = none from hh]; refine wpAny_bind (wpAny_pure (wpAny_throw ?_))
  refine wpAny_bind (wpAny_isInstance (T := "StopIteration") (b := true) ⟨_, Heap.get?_push_size _ rfl, rfl⟩ isSubtype_stop ?_); exact wpAny_pure (hQ _ (((Heap.SameBut.update ..).extBut.push _).push _))
structure G (es : Array DictEntry) (lo : Addr) (h : Heap) (as : List Addr) : Prop where
  rise : as.Pairwise (· < ·)
  above : ∀ a ∈ as, lo < a
  pairs : ∀ (j : Nat) (a : Addr), as[j]? = some a → ∃ e, es[j]? = some e ∧ h.get? a = some (pr e)
theorem loop {R : Result → Shared → Prop} {S I d : Addr} {od : Obj} {es : Array DictEntry} {ep : Nat} (hh : A.handled = none) (hSI : S < I) (hSd : d ≠ S) (hId : d ≠ I) (hdd : od.data = .dict es ep) (hn : es.size ≤ sizeLine) (res : Value) {h1 : Heap}
    (hR : ∀ h' tk acc c as, (∀ b o, b ≠ S → b ≠ I → h1.get? b = some o → h'.get? b = some o) → h'.get? S = some { cls := .type "list", dict := none, data := .seq acc c, slots := #[] } → as.length = es.size → G es I h' as → acc.toList = as.map Value.ref → R (.ok (.ret res)) { s with heap := h', toks := tk }) :
    ∀ (k i : Nat) (h : Heap) (tk c : Nat) (acc : Array Value) (as : List Addr), es.size - i = k → i ≤ es.size → St h I d S i es.size ep → h.get? d = some od → (∀ b o, b ≠ S → b ≠ I → h1.get? b = some o → h.get? b = some o) →
      h.get? S = some { cls := .type "list", dict := none, data := .seq acc c, slots := #[] } → acc.toList = as.map Value.ref → as.length = i → G es I h as → I < h.objs.size → codeAny (model prog w) A (.builtin "list.extend.loop" ⟨[.ref S, .ref I, res], []⟩) R { s with heap := h, toks := tk } := by
  have hne : S ≠ I := Nat.ne_of_lt hSI
  intro k
  induction k with
  | zero =>
    intro i h tk c acc as hk hi hst hD hkeep hS hacc hal hG hIs
    refine codeAny_builtin F.entry_extend_loop ?_; rw [Around.under_plainId F.plain_extend_loop _]; show wpAny _ A.in1 (pyNext (.ref I) >>= _) _ _ _
    refine wpAny_bind (done (s := { s with heap := h, toks := tk }) (A := A.in1) hh hst hD hdd (by omega) fun h' he => wpAny_pure (hR h' tk acc c as (fun b o e1 e2 e => he b o e2 (hkeep b o e1 e2 e)) (he S _ hne hS) (by omega) ⟨hG.rise, hG.above, fun j a hj => ?_⟩ hacc))
    obtain ⟨e, e1, e3⟩ := hG.pairs j a hj
    exact ⟨e, e1, he a _ (Nat.ne_of_gt (hG.above a (List.mem_of_getElem? hj))) e3⟩
  | succ k ih =>
    intro i h tk c acc as hk hi hst hD hkeep hS hacc hal hG hIs
    have hlt : i < es.size := by omega
    have hsz : acc.size = i := by rw [← Array.length_toList, hacc, List.length_map, hal]
    have hSl : S < h.objs.size := Heap.lt_size hS
    refine codeAny_builtin F.entry_extend_loop ?_; rw [Around.under_plainId F.plain_extend_loop _]; show wpAny _ A.in1 (pyNext (.ref I) >>= _) _ _ _
    refine wpAny_bind (item (s := { s with heap := h, toks := tk }) (S := S) hst hSl hD hdd hlt fun h' hst' ht hz hkp => ?_); dsimp only at ht hz hkp ⊢
    have hS' := hkp S _ hne hS
    have up : ∀ b o, b ≠ S → h'.get? b = some o → (h'.update S (Obj.mapSeq (·.push (Value.ref h.objs.size)))).get? b = some o := fun b o hb e => (Heap.get?_update_other _ _ (Ne.symm hb)).trans e
    show wpAny _ A.in1 (updateSeq S (·.push (Value.ref h.objs.size)) >>= _) _ _ _; refine wpAny_bind ?_
    refine wpAny_updateSeq hS' rfl (wpAny_pure ⟨plainId_quiet F.plain_extend_loop _, ih (i + 1) _ tk _ (acc.push (Value.ref h.objs.size)) (as ++ [h.objs.size]) (by omega) hlt (hst'.keep up (Ne.symm hne)) (up d _ hSd (hkp d _ hId hD))
      (fun b o e1 e2 e => up b o e1 (hkp b o e2 (hkeep b o e1 e2 e))) (Heap.get?_update_self _ hS' rfl) (by rw [Array.toList_push, hacc, List.map_append]; rfl) (by rw [List.length_append, hal]; rfl) ⟨?_, ?_, ?_⟩ ?_⟩) (by rw [hsz]; omega) (by show (acc.push (Value.ref h.objs.size)).size ≤ sizeLine + 1; rw [Array.size_push, hsz]; omega)
    · refine List.pairwise_append.mpr ⟨hG.rise, List.pairwise_singleton _ _, fun a ha b hb => ?_⟩; rw [List.mem_singleton.mp hb]
      obtain ⟨j, hj⟩ := List.mem_iff_getElem?.mp ha
      obtain ⟨_, _, e⟩ := hG.pairs j a hj
      exact Heap.lt_size e
    · exact fun a ha => (List.mem_append.mp ha).elim (hG.above a) fun ha => by rw [List.mem_singleton.mp ha]; exact hIs
    · intro j b hj
      rcases Nat.lt_trichotomy j as.length with z | z | z
      · rw [List.getElem?_append_left z] at hj
        obtain ⟨e, e1, e3⟩ := hG.pairs j b hj
        have hb := hG.above b (List.mem_of_getElem? hj)
        exact ⟨e, e1, up b _ (Nat.ne_of_gt (Nat.lt_trans hSI hb)) (hkp b _ (Nat.ne_of_gt hb) e3)⟩
      · subst z
        obtain rfl : h.objs.size = b := by simpa using hj
        exact ⟨es[i], by rw [hal]; exact Array.getElem?_eq_getElem hlt, up _ _ (Nat.ne_of_gt hSl) ht⟩
      · rw [List.getElem?_eq_none (by rw [List.length_append, List.length_singleton]; omega)] at hj; cases hj
    · have e : (h'.update S (Obj.mapSeq (·.push (Value.ref h.objs.size)))).get? h.objs.size = _ := up _ _ (Nat.ne_of_gt hSl) ht
      exact Nat.lt_trans hIs (Heap.lt_size e)
theorem iter {v d : Addr} {od : Obj} {es : Array DictEntry} {ep : Nat} {Q : Value → Shared → Prop} (hv : s.heap.IsItemsView v d) (hod : s.heap.get? d = some od) (hdd : od.data = .dict es ep)
    (hQ : Q (.ref s.heap.objs.size) { s with heap := s.heap.push { cls := .type "dict_itemiterator", data := .fields #[.none, .bool false, .ref d, .int 0 0, .int es.size 0, .int ep 0, .none, .none] } }) : wpAny (model prog w) A (pyIter (.ref v)) Q E s := by
  obtain ⟨ov, hov, _, hdv⟩ := id hv
  refine wpAny_pyIter_slot hv.typeIs F.slot_dict_items_iter (wpAny_call_entry F.slot_dict_items_iter hv.typeIs F.entry_dict_items_iter ?_ (F.args_dict_items_iter_1 _)); unfold Builtin.«dict_items.__iter__»
  refine wpAny_bind (wpAny_pure (wpAny_bind ?_)); unfold Builtin.Dict_items.dictOf; refine wpAny_bind (wpAny_field hov hdv (x := .ref d) rfl (wpAny_pure (wpAny_bind ?_)))
  unfold Builtin.Dict_items.newIterator; refine wpAny_bind (wpAny_dictEntries hod hdd (wpAny_bind (wpAny_dictEpoch hod hdd ?_)))
  have own1 : Builtin.Dict_items.ownsTuple "dict_itemiterator" = true := by decide
  simp only [own1, if_true]
  refine wpAny_newObj_type (wpAny_pure ⟨_, rfl, "dict_itemiterator", _, ⟨_, Heap.get?_push_size _ rfl, rfl⟩, F.slot_dict_itemiterator_next.lookup, ?_⟩) (by simp only [sizeOk, Builtin.Dict_items.ownedTupleFields, List.size_toArray, List.length_append, List.length_cons, List.length_nil, sizeLine_eq]; omega)
  simpa [rawInt, Builtin.Dict_items.ownedTupleFields] using hQ
end
end RI
namespace L2
open PySem PySem.Spec PyProof.Rows
section
variable {X : Cx}
variable {o : Expr} {to : TE} {p pos apos cpos : Pos}
end
end L2
namespace HS
open PySem PySem.W PySem.Spec PySem.F PySem.Calls PyProof.Rows
section
variable {prog : Program} {w : World} {A : Around} {E : Value → Shared → Prop} {s : Shared}
def TupI (h : Heap) (v : Value) (x : Int × Addr × Addr) : Prop := ∃ a o t n, v = Value.ref a ∧ h.get? a = some o ∧ o.cls = .type "tuple" ∧ o.data = .seq #[.int x.1 t, .ref x.2.1, .ref x.2.2] n
theorem TupI.keep {h h' : Heap} (k : ∀ b o, h.get? b = some o → h'.get? b = some o) {v : Value} {x : Int × Addr × Addr} (z : TupI h v x) : TupI h' v x := let ⟨a, o, t, n, e, ho, r⟩ := z; ⟨a, o, t, n, e, k a o ho, r⟩
inductive TupsI (h : Heap) : List Value → List (Int × Addr × Addr) → Prop where
  | nil : TupsI h [] []
  | cons {v : Value} {x : Int × Addr × Addr} {vs : List Value} {xs : List (Int × Addr × Addr)} : TupI h v x → TupsI h vs xs → TupsI h (v :: vs) (x :: xs)
theorem TupsI.keep {h h' : Heap} (k : ∀ b o, h.get? b = some o → h'.get? b = some o) {vs : List Value} {xs : List (Int × Addr × Addr)} (x : TupsI h vs xs) : TupsI h' vs xs := by
  induction x with
  | nil => exact .nil
  | cons t _ ih => exact .cons (t.keep k) ih
theorem TupsI.at {h : Heap} {vs : List Value} {xs : List (Int × Addr × Addr)} (x : TupsI h vs xs) : vs.length = xs.length ∧ ∀ i, i < vs.length → TupI h (vs.getD i Value.none) (xs.getD i (0, 0, 0)) := by
  induction x with
  | nil => exact ⟨rfl, fun i hi => by simp at hi⟩
  | cons t _ ih =>
    refine ⟨by rw [List.length_cons, List.length_cons, ih.1], fun i hi => ?_⟩
    cases i with
    | zero => exact t
    | succ i => exact ih.2 i (by simpa using hi)
end
end HS
namespace L2
open PySem PySem.Spec PyProof.Rows
section
variable {X : Cx}
end
end L2
namespace HD
open PySem
section
variable {prog : Program} {w : World} {A : Around} {E : Value → Shared → Prop} {s : Shared} {K : Type} [DecidableEq K] {knd : KeyKind prog w K}
end
end HD
namespace L2
open PySem PySem.Spec PyProof.Rows
section
variable {X : Cx}
end
end L2
namespace Co
open PySem L2 Mi
theorem putK_val {kvs : List (List Key × V)} {k : List Key} {v : V} {z : List Key × V} (h : z ∈ putK kvs k v) : z.2 = v ∨ ∃ y ∈ kvs, y.2 = z.2 := by
  unfold putK at h
  split at h
  · obtain ⟨y, hy, rfl⟩ := List.mem_map.mp h
    split
    · exact .inl rfl
    · exact .inr ⟨y, hy, rfl⟩
  · rcases List.mem_append.mp h with h | h
    · exact .inr ⟨z, h, rfl⟩
    · rw [List.mem_singleton.mp h]; exact .inl rfl
structure DRls (n m : Nat) (H : Hp) (kvs : List (List Key × V)) (us : List (List Str)) : Prop where
  keys : kvs.map (·.1) = us.map fun t => t.map Sum.inr
  nd : us.Nodup
  len : us.length ≤ n
  short : ∀ u ∈ us, u.length ≤ m
  vals : ∀ z ∈ kvs, ∃ q v, z.2 = .ref q ∧ TupA H q v ∧ v.length ≤ m
theorem DRls.ts {n m : Nat} {H H' : Hp} {kvs : List (List Key × V)} {us : List (List Str)} (h : DRls n m H kvs us) (t : TS' H H') : DRls n m H' kvs us := ⟨h.keys, h.nd, h.len, h.short, fun z hz => let ⟨q, v, e, hq, hl⟩ := h.vals z hz; ⟨q, v, e, t _ _ hq, hl⟩⟩
theorem DRls.put {n m : Nat} {H : Hp} {kvs : List (List Key × V)} {us : List (List Str)} (h : DRls n m H kvs us) {u v : List Str} {q : Addr} (hu : u.length ≤ m) (hq : TupA H q v) (hv : v.length ≤ m) : ∃ us', DRls (n + 1) m H (putK kvs (u.map Sum.inr) (.ref q)) us' := by
  refine ⟨_, putKT_keys h.keys, ?_, ?_, fun x hx => ?_, fun z hz => ?_⟩
  · split
    · exact h.nd
    · rename_i hn
      rw [List.nodup_append]
      exact ⟨h.nd, by simp, fun y hy z hz e => hn (by rw [List.mem_singleton.mp hz] at e; exact e ▸ hy)⟩
  · have := h.len
    split
    · omega
    · rw [List.length_append, List.length_singleton]; omega
  · split at hx
    · exact h.short x hx
    · rcases List.mem_append.mp hx with hx | hx
      · exact h.short x hx
      · rw [List.mem_singleton.mp hx]; exact hu
  · rcases putK_val hz with e | ⟨y, hy, e⟩
    · exact ⟨q, v, e, hq, hv⟩
    · obtain ⟨q', v', e', r⟩ := h.vals y hy
      exact ⟨q', v', e.symm.trans e', r⟩
end Co
namespace Mi
open PySem L2
end Mi
namespace Co
open PySem L2 Mi
end Co
namespace Co
open PySem L2 Mi
end Co
namespace L2
open PySem PySem.Spec PyProof.Rows
end L2
namespace L2
open PySem PySem.Spec PyProof.Rows
end L2
namespace ST
open PySem PySem.SetTable
def Rise (xs : Array Nat) : Prop := ∀ (i j x y : Nat), i < j → xs[i]? = some x → xs[j]? = some y → x < y
theorem go_spec {xs : Array Nat} {j : Nat} (hr : Rise xs) : ∀ (fuel lo hi : Nat), hi - lo ≤ fuel → lo ≤ hi → hi ≤ xs.size → (∀ (i x : Nat), xs[i]? = some x → i < lo → x < j) → (∀ (i x : Nat), xs[i]? = some x → hi ≤ i → j ≤ x) →
    below.go xs j fuel lo hi ≤ xs.size ∧ (∀ (i x : Nat), xs[i]? = some x → i < below.go xs j fuel lo hi → x < j) ∧ (∀ (i x : Nat), xs[i]? = some x → below.go xs j fuel lo hi ≤ i → j ≤ x)
  | 0, lo, hi, h1, h2, h3, h4, h5 => by
    unfold below.go
    exact ⟨by omega, h4, fun i x e h => h5 i x e (by omega)⟩
  | fuel + 1, lo, hi, h1, h2, h3, h4, h5 => by
    unfold below.go
    by_cases h : lo < hi
    · rw [if_pos h]
      have hm : (lo + hi) / 2 < xs.size := by omega
      have e : xs[(lo + hi) / 2]? = some xs[(lo + hi) / 2] := Array.getElem?_eq_getElem hm
      have e2 : xs.getD ((lo + hi) / 2) j = xs[(lo + hi) / 2] := by rw [Array.getD_eq_getD_getElem?, e]; rfl
      dsimp only
      rw [e2]
      by_cases c : xs[(lo + hi) / 2] < j
      · rw [if_pos c]
        refine go_spec hr fuel _ _ (by omega) (by omega) h3 (fun i x ei hi' => ?_) h5
        rcases Nat.lt_or_ge i ((lo + hi) / 2) with z | z
        · exact Nat.lt_trans (hr _ _ _ _ z ei e) c
        · obtain rfl : i = (lo + hi) / 2 := by omega
          rw [e] at ei
          cases ei
          exact c
      · rw [if_neg c]
        refine go_spec hr fuel _ _ (by omega) (by omega) (by omega) h4 (fun i x ei hi' => ?_)
        rcases Nat.lt_or_ge ((lo + hi) / 2) i with z | z
        · have := hr _ _ _ _ z e ei
          omega
        · obtain rfl : i = (lo + hi) / 2 := by omega
          rw [e] at ei
          cases ei
          omega
    · rw [if_neg h]
      exact ⟨by omega, h4, fun i x e z => h5 i x e (by omega)⟩
theorem below_spec {xs : Array Nat} (hr : Rise xs) (j : Nat) : below xs j ≤ xs.size ∧ (∀ (i x : Nat), xs[i]? = some x → i < below xs j → x < j) ∧ (∀ (i x : Nat), xs[i]? = some x → below xs j ≤ i → j ≤ x) := by
  unfold below
  refine go_spec hr xs.size 0 xs.size (by omega) (Nat.zero_le _) (Nat.le_refl _) (fun i x _ h => absurd h (Nat.not_lt_zero _)) fun i x e h => ?_
  rw [Array.getElem?_eq_none h] at e
  cases e
section
variable {t : SetTable}
theorem has_nil (j : Nat) : has #[] j = false := by unfold has; simp
theorem slot_live (hr : Rise t.place) {i j : Nat} (h : t.place[i]? = some j) : t.slot j = .live i := by
  obtain ⟨_, b1, b2⟩ := below_spec hr j
  have e : below t.place j = i := by
    rcases Nat.lt_trichotomy (below t.place j) i with z | z | z
    · have hs : i < t.place.size := (Array.getElem?_eq_some_iff.mp h).1
      have hb : t.place[below t.place j]? = some t.place[below t.place j] := Array.getElem?_eq_getElem (by omega)
      have h1 := hr _ _ _ _ z hb h
      have h2 := b2 _ _ hb (Nat.le_refl _)
      omega
    · exact z
    · exact absurd (b1 i j h z) (Nat.lt_irrefl _)
  unfold slot
  dsimp only
  rw [e, h, if_pos (by simp)]
theorem slot_empty (hd : t.dummies = #[]) {j : Nat} (h : ∀ i : Nat, t.place[i]? ≠ some j) : t.slot j = .empty := by
  unfold slot
  dsimp only
  rw [if_neg (by simpa using h _), hd, has_nil]
  rfl
theorem slot_cases (hd : t.dummies = #[]) (hr : Rise t.place) (j : Nat) : (t.slot j = .empty ∧ ∀ i : Nat, t.place[i]? ≠ some j) ∨ ∃ i : Nat, t.slot j = .live i ∧ t.place[i]? = some j := by
  by_cases h : ∃ i : Nat, t.place[i]? = some j
  · obtain ⟨i, h⟩ := h
    exact .inr ⟨i, slot_live hr h, h⟩
  · have h' : ∀ i : Nat, t.place[i]? ≠ some j := fun i e => h ⟨i, e⟩
    exact .inl ⟨slot_empty hd h', h'⟩
end
def adv (mask : Nat) (p : Probe) : Probe := if p.more > 0 then { p with j := p.j + 1, more := p.more - 1 } else { p with j := (leap mask p.i p.perturb).1, more := runEnd mask (leap mask p.i p.perturb).1 - (leap mask p.i p.perturb).1, i := (leap mask p.i p.perturb).1, perturb := (leap mask p.i p.perturb).2 }
def rst (mask i b : Nat) : Probe := { j := i, more := runEnd mask i - i, i := i, perturb := b, dummy := none }
def pth (mask : Nat) (h : Int) : Nat → Probe
  | 0 => rst mask (bits h % (mask + 1)) (bits h)
  | n + 1 => adv mask (pth mask h n)
theorem pth_dummy (mask : Nat) (h : Int) : ∀ n, (pth mask h n).dummy = none
  | 0 => rfl
  | n + 1 => by
    have ih := pth_dummy mask h n
    unfold pth adv
    split <;> exact ih
theorem go_at {t : SetTable} {hashAt : Nat → Int} {h : Int} {m : Nat} : ∀ (fuel n : Nat), n ≤ m → m - n < fuel → (∀ k, n ≤ k → k < m → ∃ i, t.slot (pth t.mask h k).j = .live i ∧ hashAt i ≠ h) →
    (t.slot (pth t.mask h m).j = .empty → probe.go t hashAt h fuel (pth t.mask h n) = some (.empty (pth t.mask h m).j none)) ∧
    ∀ i, t.slot (pth t.mask h m).j = .live i → hashAt i = h → probe.go t hashAt h fuel (pth t.mask h n) = some (.candidate (pth t.mask h m).j i (pth t.mask h (m + 1)))
  | 0, n, h1, h2, _ => absurd h2 (Nat.not_lt_zero _)
  | fuel + 1, n, h1, h2, h3 => by
    by_cases e : n = m
    · subst e
      refine ⟨fun z => ?_, fun i z hz => ?_⟩
      · unfold probe.go
        rw [z, pth_dummy]
      · unfold probe.go
        rw [z]
        dsimp only
        rw [if_pos (by rw [hz]; simp)]
        rfl
    · obtain ⟨i, hi, hne⟩ := h3 n (Nat.le_refl _) (by omega)
      obtain ⟨r1, r2⟩ := go_at (t := t) (hashAt := hashAt) (h := h) (m := m) fuel (n + 1) (by omega) (by omega) fun k hk => h3 k (by omega)
      have step : probe.go t hashAt h (fuel + 1) (pth t.mask h n) = probe.go t hashAt h fuel (pth t.mask h (n + 1)) := by
        rw [probe.go, hi]
        dsimp only
        rw [if_neg (by simpa using hne)]
        rfl
      rw [step]
      exact ⟨r1, r2⟩
def ii (mask b : Nat) : Nat → Nat
  | 0 => b % (mask + 1)
  | k + 1 => (ii mask b k * 5 + 1 + b / 32 ^ (k + 1)) % (mask + 1)
theorem run_le (mask i : Nat) : runEnd mask i - i ≤ 9 := by unfold runEnd; split <;> omega
theorem pth_run {mask : Nat} {h : Int} {n i b : Nat} (hn : pth mask h n = rst mask i b) : ∀ c, c ≤ runEnd mask i - i → pth mask h (n + c) = { j := i + c, more := runEnd mask i - i - c, i := i, perturb := b, dummy := none }
  | 0, _ => hn
  | c + 1, hc => by
    have ih := pth_run hn c (by omega)
    rw [← Nat.add_assoc]
    show adv mask (pth mask h (n + c)) = _
    rw [ih]
    unfold adv
    rw [if_pos (by show runEnd mask i - i - c > 0; omega)]
    congr 1
theorem pth_round {mask : Nat} {h : Int} : ∀ k, ∃ n, n ≤ 10 * k ∧ pth mask h n = rst mask (ii mask (bits h) k) (bits h / 32 ^ k)
  | 0 => ⟨0, Nat.zero_le _, by rw [Nat.pow_zero, Nat.div_one]; rfl⟩
  | k + 1 => by
    obtain ⟨n, hn, e⟩ := pth_round (mask := mask) (h := h) k
    have hr := run_le mask (ii mask (bits h) k)
    refine ⟨n + (runEnd mask (ii mask (bits h) k) - ii mask (bits h) k) + 1, by omega, ?_⟩
    show adv mask (pth mask h (n + _)) = _
    rw [pth_run e _ (Nat.le_refl _)]
    unfold adv
    have ed : bits h / 32 ^ k / 32 = bits h / 32 ^ (k + 1) := by rw [Nat.div_div_eq_div_mul, ← Nat.pow_succ]
    rw [if_neg (by show ¬ (runEnd mask (ii mask (bits h) k) - ii mask (bits h) k - (runEnd mask (ii mask (bits h) k) - ii mask (bits h) k) > 0); omega)]
    show Probe.mk _ _ _ _ _ = _
    unfold rst leap
    dsimp only
    rw [ed]
    rfl
def lc (mask : Nat) : Nat → Nat → Nat
  | 0, i => i
  | d + 1, i => lc mask d ((i * 5 + 1) % (mask + 1))
theorem lc_all7 : ∀ i, i ≤ 7 → ∀ j, j ≤ 7 → ∃ d, d ≤ 7 ∧ lc 7 d i = j := by decide +kernel
theorem lc_all31 : ∀ i, i ≤ 31 → ∀ j, j ≤ 31 → ∃ d, d ≤ 31 ∧ lc 31 d i = j := by decide +kernel
theorem bits_lt (h : Int) : bits h < 2 ^ 64 := by unfold bits; omega
theorem ii_lc {mask b : Nat} (hb : b < 2 ^ 64) : ∀ d k, 12 ≤ k → ii mask b (k + d) = lc mask d (ii mask b k)
  | 0, k, _ => rfl
  | d + 1, k, hk => by
    have e0 : b / 32 ^ (k + 1) = 0 := by
      refine Nat.div_eq_of_lt (Nat.lt_of_lt_of_le hb ?_)
      have : (32 : Nat) ^ 13 ≤ 32 ^ (k + 1) := Nat.pow_le_pow_right (by decide) (by omega)
      exact Nat.le_trans (by decide) this
    have e1 : ii mask b (k + 1) = (ii mask b k * 5 + 1) % (mask + 1) := by
      show (ii mask b k * 5 + 1 + b / 32 ^ (k + 1)) % (mask + 1) = _
      rw [e0, Nat.add_zero]
    have := ii_lc (mask := mask) hb d (k + 1) (by omega)
    rw [show k + (d + 1) = k + 1 + d by omega, this, e1]
    rfl
theorem ii_le (mask b : Nat) : ∀ k, ii mask b k ≤ mask
  | 0 => Nat.le_of_lt_succ (Nat.mod_lt _ (Nat.succ_pos _))
  | k + 1 => Nat.le_of_lt_succ (Nat.mod_lt _ (Nat.succ_pos _))
theorem pth_all {mask : Nat} (hm : mask = 7 ∨ mask = 31) (h : Int) {j : Nat} (hj : j ≤ mask) : ∃ n, n < 10 * turns mask ∧ (pth mask h n).j = j := by
  obtain ⟨d, hd, e⟩ : ∃ d, d ≤ mask ∧ lc mask d (ii mask (bits h) 12) = j := by
    have hi := ii_le mask (bits h) 12
    rcases hm with rfl | rfl
    · exact lc_all7 _ hi j hj
    · exact lc_all31 _ hi j hj
  obtain ⟨n, hn, ep⟩ := pth_round (mask := mask) (h := h) (12 + d)
  refine ⟨n, by unfold turns; omega, ?_⟩
  rw [ep, ii_lc (bits_lt h) d 12 (Nat.le_refl _), e]
  rfl
theorem nodup_lenN {α : Type} [BEq α] [LawfulBEq α] : ∀ {A B : List α}, A.Nodup → A ⊆ B → A.length ≤ B.length
  | [], _, _, _ => Nat.zero_le _
  | a :: A, B, hn, hs => by
    rw [List.nodup_cons] at hn
    have ha : a ∈ B := hs (List.mem_cons_self ..)
    have h2 : A ⊆ B.erase a := fun x hx => (List.mem_erase_of_ne (fun e : x = a => hn.1 (e ▸ hx))).mpr (hs (List.mem_cons_of_mem _ hx))
    have := nodup_lenN hn.2 h2
    rw [List.length_erase_of_mem ha] at this
    have hp : 0 < B.length := List.length_pos_of_mem ha
    rw [List.length_cons]
    omega
theorem first_free {t : SetTable} (hm : t.mask = 7 ∨ t.mask = 31) (hd : t.dummies = #[]) (hr : Rise t.place) (hz : t.place.size ≤ t.mask) (h : Int) :
    ∃ m, m < 10 * turns t.mask ∧ t.slot (pth t.mask h m).j = .empty ∧ ∀ k, k < m → ∃ i, t.slot (pth t.mask h k).j = .live i := by
  have ex : ∃ j, j ≤ t.mask ∧ ∀ i : Nat, t.place[i]? ≠ some j := by
    apply Classical.byContradiction
    intro hc
    have hsub : List.range (t.mask + 1) ⊆ t.place.toList := fun j hj => by
      have hj' : j ≤ t.mask := Nat.le_of_lt_succ (List.mem_range.mp hj)
      have : ∃ i : Nat, t.place[i]? = some j := Classical.byContradiction fun hn => hc ⟨j, hj', fun i e => hn ⟨i, e⟩⟩
      obtain ⟨i, e⟩ := this
      rw [← Array.getElem?_toList] at e
      exact List.mem_of_getElem? e
    have := nodup_lenN List.nodup_range hsub
    rw [List.length_range, Array.length_toList] at this
    omega
  obtain ⟨j, hj, hne⟩ := ex
  obtain ⟨n, hn, e⟩ := pth_all hm h hj
  have hE : t.slot (pth t.mask h n).j = .empty := by rw [e]; exact slot_empty hd hne
  clear e
  induction n using Nat.strongRecOn with
  | ind n ih =>
    by_cases hx : ∃ k, k < n ∧ t.slot (pth t.mask h k).j = .empty
    · obtain ⟨k, hk, hke⟩ := hx
      exact ih k hk (by omega) hke
    · refine ⟨n, hn, hE, fun k hk => ?_⟩
      rcases slot_cases hd hr (pth t.mask h k).j with ⟨z, _⟩ | ⟨i, z, _⟩
      · exact absurd ⟨k, hk, z⟩ hx
      · exact ⟨i, z⟩
end ST
namespace ST
open PySem PySem.SetTable
def Occ (t : SetTable) (j : Nat) : Prop := ∃ i : Nat, t.place[i]? = some j
theorem ins_list {α : Type} (xs : Array α) (p : Nat) (x : α) (hp : p ≤ xs.size) : (insertAt xs p x).toList = xs.toList.take p ++ x :: xs.toList.drop p := by
  unfold insertAt
  rw [Array.toList_append, Array.toList_push, Array.toList_extract, Array.toList_extract]
  have e : (List.drop p xs.toList).take (xs.size - p) = xs.toList.drop p := List.take_of_length_le (by rw [List.length_drop, Array.length_toList]; omega)
  simp [List.extract, e]
theorem ins_get {α : Type} (xs : Array α) (p : Nat) (x : α) (hp : p ≤ xs.size) (i : Nat) : (insertAt xs p x)[i]? = if i < p then xs[i]? else if i = p then some x else xs[i - 1]? := by
  rw [← Array.getElem?_toList, ins_list xs p x hp, List.getElem?_append]
  have hl : (xs.toList.take p).length = p := by rw [List.length_take, Array.length_toList]; omega
  rw [hl]
  by_cases h1 : i < p
  · rw [if_pos h1, if_pos h1, List.getElem?_take, if_pos h1, Array.getElem?_toList]
  · rw [if_neg h1, if_neg h1]
    by_cases h2 : i = p
    · rw [if_pos h2, h2, Nat.sub_self]
      rfl
    · rw [if_neg h2]
      obtain ⟨c, hc⟩ : ∃ c, i - p = c + 1 := ⟨i - p - 1, by omega⟩
      rw [hc, List.getElem?_cons_succ, List.getElem?_drop, Array.getElem?_toList]
      congr 1
      omega
theorem ins_size {α : Type} (xs : Array α) (p : Nat) (x : α) (hp : p ≤ xs.size) : (insertAt xs p x).size = xs.size + 1 := by
  rw [← Array.length_toList, ins_list xs p x hp, List.length_append, List.length_cons, List.length_take, List.length_drop, Array.length_toList]
  omega
theorem ins_perm {α : Type} (xs : Array α) (p : Nat) (x : α) (hp : p ≤ xs.size) : (insertAt xs p x).toList.Perm (x :: xs.toList) := by
  rw [ins_list xs p x hp]
  have h := List.perm_middle (a := x) (l₁ := xs.toList.take p) (l₂ := xs.toList.drop p)
  rw [List.take_append_drop] at h
  exact h
structure Tab (t : SetTable) (es : Array (Int × Value)) : Prop where
  mask : t.mask = 7 ∨ t.mask = 31
  dum : t.dummies = #[]
  rise : Rise t.place
  size : t.place.size = es.size
  le : ∀ i j : Nat, t.place[i]? = some j → j ≤ t.mask
  room : es.size ≤ t.mask
  path : ∀ (i j : Nat) (h : Int) (v : Value), t.place[i]? = some j → es[i]? = some (h, v) → ∃ n, (pth t.mask h n).j = j ∧ ∀ m, m < n → Occ t (pth t.mask h m).j
theorem occ_live {t : SetTable} (hr : Rise t.place) {j : Nat} (h : Occ t j) : ∃ i, t.slot j = .live i ∧ t.place[i]? = some j := let ⟨i, e⟩ := h; ⟨i, slot_live hr e, e⟩
theorem live_occ {t : SetTable} (hd : t.dummies = #[]) (hr : Rise t.place) {i j : Nat} (h : t.slot j = .live i) : t.place[i]? = some j := by
  rcases slot_cases hd hr j with ⟨e, _⟩ | ⟨i', e, hi⟩
  · rw [e] at h; cases h
  · rw [e] at h; cases h; exact hi
theorem pth_le {mask : Nat} (h : Int) : ∀ n, (pth mask h n).j + (pth mask h n).more ≤ mask
  | 0 => by
    show bits h % (mask + 1) + (runEnd mask (bits h % (mask + 1)) - bits h % (mask + 1)) ≤ mask
    have : bits h % (mask + 1) < mask + 1 := Nat.mod_lt _ (Nat.succ_pos mask)
    unfold runEnd
    split <;> omega
  | n + 1 => by
    have ih := pth_le (mask := mask) h n
    show (adv mask (pth mask h n)).j + (adv mask (pth mask h n)).more ≤ mask
    unfold adv
    by_cases c : (pth mask h n).more > 0
    · rw [if_pos c]
      dsimp only
      omega
    · rw [if_neg c]
      dsimp only
      have : ((pth mask h n).i * 5 + 1 + (pth mask h n).perturb / 32) % (mask + 1) < mask + 1 := Nat.mod_lt _ (Nat.succ_pos mask)
      unfold leap runEnd
      dsimp only
      split <;> omega
theorem Tab.add {t : SetTable} {es : Array (Int × Value)} (T : Tab t es) (hz : es.size + 1 ≤ t.mask) {h : Int} {m : Nat} (hE : t.slot (pth t.mask h m).j = .empty) (hL : ∀ k, k < m → ∃ i, t.slot (pth t.mask h k).j = .live i) (x : Value) (b : Bool) :
    Tab { (t.put (pth t.mask h m).j).1 with plain := b } (insertAt es (t.put (pth t.mask h m).j).2 (h, x)) ∧ (t.put (pth t.mask h m).j).2 ≤ es.size := by
  have hne : ∀ i : Nat, t.place[i]? ≠ some (pth t.mask h m).j := by
    rcases slot_cases T.dum T.rise (pth t.mask h m).j with ⟨_, z⟩ | ⟨i, z, _⟩
    · exact z
    · rw [z] at hE; cases hE
  have hjm : (pth t.mask h m).j ≤ t.mask := by have := pth_le (mask := t.mask) h m; omega
  obtain ⟨b0, b1, b2⟩ := below_spec T.rise (pth t.mask h m).j
  generalize hj : (pth t.mask h m).j = j at *
  generalize hp : below t.place j = p at *
  have hput : t.put j = ({ t with place := insertAt t.place p j, dummies := #[] }, p) := by
    unfold put
    dsimp only
    rw [hp, T.dum, has_nil]
    rfl
  rw [hput]
  dsimp only
  have hpe : p ≤ es.size := by rw [← T.size]; exact b0
  have occ' : ∀ c, Occ t c → Occ { t with place := insertAt t.place p j, dummies := #[], plain := b } c := fun c ⟨i, e⟩ => by
    by_cases z : i < p
    · exact ⟨i, by show (insertAt t.place p j)[i]? = some c; rw [ins_get _ _ _ b0, if_pos z]; exact e⟩
    · exact ⟨i + 1, by show (insertAt t.place p j)[i + 1]? = some c; rw [ins_get _ _ _ b0, if_neg (by omega), if_neg (by omega)]; exact e⟩
  refine ⟨⟨T.mask, rfl, ?_, ?_, ?_, ?_, ?_⟩, hpe⟩
  · show Rise (insertAt t.place p j)
    intro i i' y y' hlt e1 e2
    rw [ins_get _ _ _ b0] at e1 e2
    by_cases z1 : i < p
    · rw [if_pos z1] at e1
      by_cases z2 : i' < p
      · rw [if_pos z2] at e2
        exact T.rise _ _ _ _ hlt e1 e2
      · rw [if_neg z2] at e2
        by_cases z3 : i' = p
        · rw [if_pos z3] at e2
          cases e2
          exact b1 i y e1 z1
        · rw [if_neg z3] at e2
          exact T.rise _ _ _ _ (by omega) e1 e2
    · rw [if_neg z1] at e1
      rw [if_neg (by omega), if_neg (by omega)] at e2
      by_cases z3 : i = p
      · rw [if_pos z3] at e1
        cases e1
        have := b2 _ _ e2 (by omega)
        have hn := hne (i' - 1)
        rcases Nat.lt_or_ge j y' with z | z
        · exact z
        · exact absurd (by rw [e2]; congr 1; omega) hn
      · rw [if_neg z3] at e1
        exact T.rise _ _ _ _ (by omega) e1 e2
  · show (insertAt t.place p j).size = _
    rw [ins_size _ _ _ b0, ins_size _ _ _ hpe, T.size]
  · intro i c e
    have e : (insertAt t.place p j)[i]? = some c := e
    rw [ins_get _ _ _ b0] at e
    show c ≤ t.mask
    split at e
    · exact T.le _ _ e
    · split at e
      · cases e; exact hjm
      · exact T.le _ _ e
  · show (insertAt es p (h, x)).size ≤ t.mask
    rw [ins_size _ _ _ hpe]
    exact hz
  · intro i c h' v e1 e2
    have e1 : (insertAt t.place p j)[i]? = some c := e1
    rw [ins_get _ _ _ b0] at e1
    rw [ins_get _ _ _ hpe] at e2
    have old : ∀ i', t.place[i']? = some c → es[i']? = some (h', v) → ∃ n, (pth t.mask h' n).j = c ∧ ∀ m, m < n → Occ { t with place := insertAt t.place p j, dummies := #[], plain := b } (pth t.mask h' m).j := fun i' e1 e2 => by
      obtain ⟨n, hn, ho⟩ := T.path i' c h' v e1 e2
      exact ⟨n, hn, fun m hm => occ' _ (ho m hm)⟩
    by_cases z1 : i < p
    · rw [if_pos z1] at e1 e2
      exact old i e1 e2
    · rw [if_neg z1] at e1 e2
      by_cases z2 : i = p
      · rw [if_pos z2] at e1 e2
        cases e1
        cases e2
        refine ⟨m, hj, fun k hk => occ' _ ?_⟩
        obtain ⟨i', hi'⟩ := hL k hk
        exact ⟨i', live_occ T.dum T.rise hi'⟩
      · rw [if_neg z2] at e1 e2
        exact old _ e1 e2
end ST
namespace ST
open PySem PySem.SetTable
section
variable {prog : Program} {w : World} {A : Around} {E : Value → Shared → Prop} {s : Shared} {K : Type} [DecidableEq K] {knd : KeyKind prog w K}
theorem notClass_byValue (n : Nat) {v : Value} (h : carriedByValue v = true) : ofAClassStatement n v = pure false := by
  cases v <;> first | rfl | (cases n <;> rfl) | (simp [carriedByValue] at h)
theorem notClass {ks : List K} {a : Addr} {Q : Bool → Shared → Prop} (hk : IsTupleKey knd s.heap ks a) (h : Q false s) : wpAny (model prog w) A (ofAClassStatement 8 (.ref a)) Q E s := by
  have hT := hk.typeIs
  obtain ⟨o, items, n, ho, _, hd, hi⟩ := hk
  unfold ofAClassStatement
  refine wpAny_bind (wpAny_typeOf hT ?_)
  dsimp only
  rw [if_pos (by decide)]
  refine wpAny_bind (wpAny_pure ?_)
  simp only [Bool.not_true, Bool.false_eq_true, if_false]
  refine wpAny_bind (wpAny_seqItems ho hd ?_)
  refine wpAny_bind ?_
  show wpAny _ _ (forIn items _ _) _ _ s
  rw [← Array.forIn_toList]
  refine wpAny_forIn_list _ (fun rest r s' => r.1 = none ∧ s' = s ∧ ∀ v ∈ rest, carriedByValue v = true) _ ?_ ?_ _ _ ⟨rfl, rfl, hi.byValue⟩
  · rintro v rest r s' ⟨hr, rfl, hall⟩
    rw [notClass_byValue _ (hall v List.mem_cons_self)]
    refine wpAny_bind (wpAny_pure ?_)
    simp only [Bool.false_eq_true, if_false]
    exact wpAny_pure ⟨rfl, rfl, fun u hu' => hall u (List.mem_cons_of_mem _ hu')⟩
  · rintro ⟨r1, r2⟩ s' ⟨hr, rfl, _⟩
    simp only at hr
    subst hr
    exact wpAny_pure h
theorem notSeen {k : List K} {b : Addr} {vs : List Value} {Q : Bool → Shared → Prop} (hb : IsTupleKey knd s.heap k b) (hv : ∀ v ∈ vs, ∃ k' b', v = .ref b' ∧ IsTupleKey knd s.heap k' b') (h : Q false s) : wpAny (model prog w) A (searchCouldBeSeen (.ref b) vs) Q E s := by
  unfold searchCouldBeSeen
  refine wpAny_bind ?_
  refine wpAny_forIn_list _ (fun rest r s' => r.1 = none ∧ s' = s ∧ ∀ v ∈ rest, ∃ k' b', v = .ref b' ∧ IsTupleKey knd s.heap k' b') _ ?_ ?_ _ _ ⟨rfl, rfl, hv⟩
  · rintro v rest r s' ⟨hr, rfl, hall⟩
    obtain ⟨k', b', rfl, hb'⟩ := hall v List.mem_cons_self
    have nx : ∀ v ∈ rest, ∃ k' b', v = .ref b' ∧ IsTupleKey knd s'.heap k' b' := fun u hu' => hall u (List.mem_cons_of_mem _ hu')
    dsimp only
    by_cases c : ((b == b') || (carriedByValue (.ref b) && carriedByValue (.ref b'))) = true
    · rw [if_pos c]
      exact wpAny_pure ⟨rfl, rfl, nx⟩
    · rw [if_neg c]
      refine wpAny_bind (wpAny_eqIsQuiet_tuple hb ?_)
      simp only [Bool.not_true, Bool.false_eq_true, if_false]
      refine wpAny_bind (wpAny_eqIsQuiet_tuple hb' ?_)
      simp only [Bool.not_true, Bool.false_eq_true, if_false]
      refine wpAny_bind (notClass hb ?_)
      simp only [Bool.false_eq_true, if_false]
      refine wpAny_bind (notClass hb' ?_)
      simp only [Bool.false_eq_true, if_false]
      exact wpAny_pure ⟨rfl, rfl, nx⟩
  · rintro ⟨r1, r2⟩ s' ⟨hr, rfl, _⟩
    simp only at hr
    subst hr
    exact wpAny_pure h
structure El (knd : KeyKind prog w K) (h : Heap) (es : Array (Int × Value)) (xs : List (List K × Addr)) : Prop where
  perm : es.toList.Perm (xs.map fun x => (tupleKeyHash knd x.1, Value.ref x.2))
  nd : (xs.map (·.1)).Nodup
  keys : ∀ x ∈ xs, IsTupleKey knd h x.1 x.2
theorem El.get {h : Heap} {es : Array (Int × Value)} {xs : List (List K × Addr)} (e : El knd h es xs) {i : Nat} {p : Int × Value} (hi : es[i]? = some p) : ∃ x ∈ xs, p = (tupleKeyHash knd x.1, Value.ref x.2) := by
  rw [← Array.getElem?_toList] at hi
  have := e.perm.mem_iff.mp (List.mem_of_getElem? hi)
  obtain ⟨x, hx, rfl⟩ := List.mem_map.mp this
  exact ⟨x, hx, rfl⟩
theorem Tab.fits {t : SetTable} {es : Array (Int × Value)} (T : Tab t es) : t.fits es.size = true := by
  unfold SetTable.fits fill
  rw [T.dum, T.size]
  have := T.room
  simp
  exact this
theorem next_stop {t : SetTable} {hashAt : Nat → Int} {h : Int} {m : Nat} (hL : ∀ k, k < m → ∃ i, t.slot (pth t.mask h k).j = .live i) : ∀ (d n : Nat), m - n = d → n ≤ m → ∃ e, n ≤ e ∧ e ≤ m ∧ (∀ k, n ≤ k → k < e → ∃ i, t.slot (pth t.mask h k).j = .live i ∧ hashAt i ≠ h) ∧ (e = m ∨ (e < m ∧ ∃ i, t.slot (pth t.mask h e).j = .live i ∧ hashAt i = h))
  | 0, n, hd, hn => ⟨n, Nat.le_refl _, hn, fun k h1 h2 => by omega, .inl (by omega)⟩
  | d + 1, n, hd, hn => by
    obtain ⟨i, hi⟩ := hL n (by omega)
    by_cases c : hashAt i = h
    · exact ⟨n, Nat.le_refl _, hn, fun k h1 h2 => by omega, .inr ⟨by omega, i, hi, c⟩⟩
    · obtain ⟨e, h1, h2, h3, h4⟩ := next_stop (hashAt := hashAt) hL d (n + 1) (by omega) (by omega)
      refine ⟨e, by omega, h2, fun k hk1 hk2 => ?_, h4⟩
      by_cases z : k = n
      · subst z; exact ⟨i, hi, c⟩
      · exact h3 k (by omega) hk2
theorem search_add {a b : Addr} {o : Obj} {es : Array (Int × Value)} {ep : Nat} {t : SetTable} {xs : List (List K × Addr)} {k : List K} {m : Nat} {Q : SetFound → Shared → Prop} (hu : A.units < cLine) (ho : s.heap.get? a = some o) (hd : o.data = .set es ep t) (T : Tab t es) (L : El knd s.heap es xs) (hb : IsTupleKey knd s.heap k b)
    (hm : m < 10 * turns t.mask) (hE : t.slot (pth t.mask (tupleKeyHash knd k) m).j = .empty) (hL : ∀ c, c < m → ∃ i, t.slot (pth t.mask (tupleKeyHash knd k) c).j = .live i)
    (q1 : k ∈ xs.map (·.1) → Q (.there none) s) (q2 : k ∉ xs.map (·.1) → Q (.free (pth t.mask (tupleKeyHash knd k) m).j false) s) :
    ∀ (fuel n : Nat) (stand : Option Probe), m - n < fuel → n ≤ m → stand.getD (t.probeStart (tupleKeyHash knd k)) = pth t.mask (tupleKeyHash knd k) n →
      (∀ x ∈ xs, x.1 = k → ∃ n' i : Nat, n ≤ n' ∧ n' < m ∧ t.place[i]? = some (pth t.mask (tupleKeyHash knd k) n').j ∧ es[i]? = some (tupleKeyHash knd k, Value.ref x.2)) →
      wpAny (model prog w) A (setSearchFrom a (.ref b) (tupleKeyHash knd k) true fuel stand) Q E s
  | 0, n, stand, h1, _, _, _ => absurd h1 (Nat.not_lt_zero _)
  | fuel + 1, n, stand, h1, h2, h3, h4 => by
    generalize hh : tupleKeyHash knd k = h at *
    obtain ⟨e, he1, he2, he3, he4⟩ := next_stop (t := t) (hashAt := fun i => (es[i]?.map (·.1)).getD 0) hL (m - n) n rfl h2
    obtain ⟨g1, g2⟩ := go_at (t := t) (hashAt := fun i => (es[i]?.map (·.1)).getD 0) (h := h) (m := e) (10 * turns t.mask) n he1 (by omega) he3
    unfold setSearchFrom
    refine wpAny_bind (wpAny_setState_of ho hd T.fits ?_)
    dsimp only
    have hgw : t.gaveWay = false := by unfold SetTable.gaveWay; rcases T.mask with z | z <;> rw [z] <;> rfl
    rw [hgw]
    simp only [Bool.false_eq_true, if_false]
    rw [h3]
    show wpAny _ _ (match probe.go t (fun i => (es[i]?.map (·.1)).getD 0) h (10 * turns t.mask) (pth t.mask h n) with | some met => _ | x => _) _ _ _
    rcases he4 with rfl | ⟨hlt, i, hi, hhi⟩
    · rw [g1 hE]
      dsimp only
      refine wpAny_pure (q2 fun hk => ?_)
      obtain ⟨x, hx, e⟩ := List.mem_map.mp hk
      obtain ⟨n', i, hn1, hn2, hp, hes⟩ := h4 x hx e
      obtain ⟨i', hi', hne⟩ := he3 n' hn1 hn2
      rw [slot_live T.rise hp] at hi'
      cases hi'
      exact hne (by rw [hes]; rfl)
    · rw [g2 i hi hhi]
      dsimp only
      have hpl := live_occ T.dum T.rise hi
      have his : i < es.size := by rw [← T.size]; exact (Array.getElem?_eq_some_iff.mp hpl).1
      obtain ⟨x, hx, ep'⟩ := L.get (Array.getElem?_eq_getElem his)
      have hesi : es[i]? = some (tupleKeyHash knd x.1, Value.ref x.2) := by rw [Array.getElem?_eq_getElem his, ep']
      have hxk := L.keys x hx
      have seen : ∀ v ∈ ((es.filter (·.1 == h)).toList.map (·.2)), ∃ k' b', v = Value.ref b' ∧ IsTupleKey knd s.heap k' b' := fun v hv => by
        obtain ⟨p, hp, rfl⟩ := List.mem_map.mp hv
        have hp' := (Array.mem_toList_iff.mp hp)
        have hp2 := (Array.mem_filter.mp hp').1
        obtain ⟨i', hi'⟩ := Array.mem_iff_getElem?.mp hp2
        obtain ⟨y, hy, rfl⟩ := L.get hi'
        exact ⟨_, _, rfl, L.keys y hy⟩
      by_cases cl : t.led = true
      case' pos =>
        rw [cl]
        simp only [Bool.not_true, Bool.false_eq_true, if_false]
      case' neg =>
        have cl : t.led = false := by simpa using cl
        rw [cl]
        simp only [Bool.not_false, if_true]
        refine wpAny_bind (notSeen hb seen ?_)
        simp only [Bool.false_eq_true, if_false]
      all_goals
        rw [hesi]
        dsimp only
        refine wpAny_bind (wpAny_holding (wpAny_eqBool_tuple hu hxk hb ?_))
        refine wpAny_bind (wpAny_setState_of ho hd T.fits ?_)
        dsimp only
        by_cases c : x.1 = k
        · rw [decide_eq_true c]
          simp only [Bool.and_self, if_true]
          exact wpAny_pure (q1 (List.mem_map.mpr ⟨x, hx, c⟩))
        · rw [decide_eq_false c]
          simp only [Bool.and_false, Bool.false_eq_true, if_false]
          have hsm : t.sameMemory t.moves t.mask = some true := by unfold sameMemory; rw [if_pos (by simp)]
          rw [hsm]
          dsimp only
          rw [if_pos rfl, hi]
          dsimp only
          rw [hesi]
          dsimp only
          refine wpAny_bind (wpAny_isSame_ref_self ?_)
          simp only [if_true]
          refine wpAny_bind (wpAny_pure ?_)
          dsimp only
          subst hh
          refine search_add hu ho hd T L hb hm hE hL q1 q2 fuel (e + 1) _ (by omega) (by omega) rfl fun x' hx' ek => ?_
          obtain ⟨n', i2, hn1, hn2, hp2, hes2⟩ := h4 x' hx' ek
          refine ⟨n', i2, ?_, hn2, hp2, hes2⟩
          rcases Nat.lt_trichotomy n' e with z | z | z
          · obtain ⟨i', hi', hne⟩ := he3 n' hn1 z
            rw [slot_live T.rise hp2] at hi'
            cases hi'
            exact absurd (by show (es[i2]?.map (·.1)).getD 0 = _; rw [hes2]; rfl) hne
          · subst z
            rw [slot_live T.rise hp2] at hi
            cases hi
            rw [hes2] at hesi
            injection hesi with hesi
            injection hesi with _ hesi
            injection hesi with hesi
            have hx2 := L.keys x' hx'
            rw [hesi] at hx2
            exact absurd ((hxk.inj hx2).trans ek) c
          · omega
end
end ST
namespace ST
open PySem PySem.SetTable
abbrev isFree (owner : Array (Option Nat)) (j : Nat) : Prop := owner.getD j (some 0) = none
theorem free_spec {mask : Nat} {h : Int} {owner : Array (Option Nat)} : ∀ (f k n : Nat), pth mask h n = rst mask (ii mask (bits h) k) (bits h / 32 ^ k) → (∀ m, m < n → ¬ isFree owner (pth mask h m).j) → (∃ r, k ≤ r ∧ r < k + f ∧ isFree owner (ii mask (bits h) r)) →
    ∃ j n', layClean.free mask owner f (ii mask (bits h) k) (bits h / 32 ^ k) = some j ∧ (pth mask h n').j = j ∧ isFree owner j ∧ ∀ m, m < n' → ¬ isFree owner (pth mask h m).j
  | 0, k, n, _, _, ⟨r, h1, h2, _⟩ => by omega
  | f + 1, k, n, hn, ho, ⟨r, h1, h2, h3⟩ => by
    have hrun := pth_run hn
    have hre : ii mask (bits h) k ≤ runEnd mask (ii mask (bits h) k) := by unfold runEnd; split <;> omega
    unfold layClean.free
    cases hf : (List.range (runEnd mask (ii mask (bits h) k) + 1 - ii mask (bits h) k)).find? fun c => (owner.getD (ii mask (bits h) k + c) (some 0)).isNone with
    | some c =>
      obtain ⟨hp, ix, hix, e, hb⟩ := List.find?_eq_some_iff_getElem.mp hf
      rw [List.getElem_range] at e
      subst e
      rw [List.length_range] at hix
      have hc := hrun ix (by omega)
      refine ⟨_, n + ix, rfl, by rw [hc], Option.isNone_iff_eq_none.mp hp, fun m hm => ?_⟩
      by_cases z : m < n
      · exact ho m z
      · have hc' := hrun (m - n) (by omega)
        rw [show n + (m - n) = m by omega] at hc'
        rw [hc']
        have := hb (m - n) (by omega)
        rw [List.getElem_range] at this
        intro hfree
        have hfree : owner.getD (ii mask (bits h) k + (m - n)) (some 0) = none := hfree
        rw [hfree] at this
        simp at this
    | none =>
      dsimp only
      have hall := List.find?_eq_none.mp hf
      have hrunocc : ∀ c, c ≤ runEnd mask (ii mask (bits h) k) - ii mask (bits h) k → ¬ isFree owner (ii mask (bits h) k + c) := fun c hc hfree => by
        have := hall c (List.mem_range.mpr (by omega))
        have hfree : owner.getD (ii mask (bits h) k + c) (some 0) = none := hfree
        rw [hfree] at this
        simp at this
      have hrk : r ≠ k := fun e => hrunocc 0 (Nat.zero_le _) (by rw [Nat.add_zero, ← e]; exact h3)
      have ed : bits h / 32 ^ k / 32 = bits h / 32 ^ (k + 1) := by rw [Nat.div_div_eq_div_mul, ← Nat.pow_succ]
      have hnext : pth mask h (n + (runEnd mask (ii mask (bits h) k) - ii mask (bits h) k) + 1) = rst mask (ii mask (bits h) (k + 1)) (bits h / 32 ^ (k + 1)) := by
        show adv mask (pth mask h (n + _)) = _
        rw [hrun _ (Nat.le_refl _)]
        unfold adv
        rw [if_neg (by show ¬ (runEnd mask (ii mask (bits h) k) - ii mask (bits h) k - (runEnd mask (ii mask (bits h) k) - ii mask (bits h) k) > 0); omega)]
        show Probe.mk _ _ _ _ _ = _
        unfold rst leap
        dsimp only
        rw [ed]
        rfl
      have ih := free_spec (mask := mask) (h := h) (owner := owner) f (k + 1) _ hnext (fun m hm => ?_) ⟨r, by omega, by omega, h3⟩
      · have el : leap mask (ii mask (bits h) k) (bits h / 32 ^ k) = (ii mask (bits h) (k + 1), bits h / 32 ^ (k + 1)) := by
          unfold leap
          rw [ed]
          rfl
        rw [el]
        exact ih
      · by_cases z : m < n
        · exact ho m z
        · have hc' := hrun (m - n) (by omega)
          rw [show n + (m - n) = m by omega] at hc'
          rw [hc']
          exact hrunocc _ (by omega)
structure Lay (mask : Nat) (hs : List Int) (owner : Array (Option Nat)) : Prop where
  size : owner.size = mask + 1
  lt : ∀ j c : Nat, owner[j]? = some (some c) → c < hs.length
  inj : ∀ j j' c : Nat, owner[j]? = some (some c) → owner[j']? = some (some c) → j = j'
  all : ∀ (c : Nat) (h : Int), hs[c]? = some h → ∃ j n, owner[j]? = some (some c) ∧ (pth mask h n).j = j ∧ ∀ m, m < n → ∃ c', owner[(pth mask h m).j]? = some (some c')
theorem occ_of {mask : Nat} {owner : Array (Option Nat)} (hsz : owner.size = mask + 1) {j : Nat} (hj : j ≤ mask) (h : ¬ isFree owner j) : ∃ c, owner[j]? = some (some c) := by
  have hlt : j < owner.size := by omega
  have e : owner[j]? = some owner[j] := Array.getElem?_eq_getElem hlt
  cases ho : owner[j] with
  | none => exact absurd (by show owner.getD j (some 0) = none; rw [Array.getD_eq_getD_getElem?, e, ho]; rfl) h
  | some c => exact ⟨c, by rw [e, ho]⟩
theorem Lay.step {mask : Nat} (hm : mask = 7 ∨ mask = 31) {hs : List Int} {owner : Array (Option Nat)} (L : Lay mask hs owner) (hz : hs.length ≤ mask) (h : Int) :
    ∃ j, layClean.free mask owner (turns mask) (bits h % (mask + 1)) (bits h) = some j ∧ Lay mask (hs ++ [h]) (owner.setIfInBounds j (some hs.length)) := by
  -- a free slot there is
  have ex : ∃ j, j ≤ mask ∧ isFree owner j := by
    apply Classical.byContradiction
    intro hc
    have occ : ∀ j, j ≤ mask → ∃ c, owner[j]? = some (some c) := fun j hj => occ_of L.size hj fun hf => hc ⟨j, hj, hf⟩
    have hsub : (List.range (mask + 1)).map (fun j => (owner.getD j none).getD 0) ⊆ List.range hs.length := fun c hcm => by
      obtain ⟨j, hj, rfl⟩ := List.mem_map.mp hcm
      obtain ⟨c, e⟩ := occ j (Nat.le_of_lt_succ (List.mem_range.mp hj))
      rw [Array.getD_eq_getD_getElem?, e]
      exact List.mem_range.mpr (L.lt _ _ e)
    have hnd : ((List.range (mask + 1)).map fun j => (owner.getD j none).getD 0).Nodup := by
      refine List.pairwise_map.mpr ((List.nodup_range (n := mask + 1)).imp_of_mem fun {a b} ha hb hne e => hne ?_)
      obtain ⟨c, ec⟩ := occ a (Nat.le_of_lt_succ (List.mem_range.mp ha))
      obtain ⟨c', ec'⟩ := occ b (Nat.le_of_lt_succ (List.mem_range.mp hb))
      rw [Array.getD_eq_getD_getElem?, Array.getD_eq_getD_getElem?, ec, ec'] at e
      have e : c = c' := e
      subst e
      exact L.inj _ _ _ ec ec'
    have := nodup_lenN hnd hsub
    rw [List.length_map, List.length_range, List.length_range] at this
    omega
  obtain ⟨j0, hj0, hfree0⟩ := ex
  obtain ⟨d, hd, e0⟩ : ∃ d, d ≤ mask ∧ lc mask d (ii mask (bits h) 12) = j0 := by
    have hi := ii_le mask (bits h) 12
    rcases hm with rfl | rfl
    · exact lc_all7 _ hi j0 hj0
    · exact lc_all31 _ hi j0 hj0
  have er : ii mask (bits h) (12 + d) = j0 := by rw [ii_lc (bits_lt h) d 12 (Nat.le_refl _), e0]
  obtain ⟨j, n', hfr, hpj, hfj, hocc⟩ := free_spec (mask := mask) (h := h) (owner := owner) (turns mask) 0 0 (by rw [Nat.pow_zero, Nat.div_one]; rfl) (fun m hm => absurd hm (Nat.not_lt_zero _)) ⟨12 + d, Nat.zero_le _, by unfold turns; omega, by rw [er]; exact hfree0⟩
  rw [Nat.pow_zero, Nat.div_one] at hfr
  have hjm : j ≤ mask := by have := pth_le (mask := mask) h n'; omega
  have hjs : j < owner.size := by rw [L.size]; omega
  have hjn : owner[j]? = some none := by
    have e : owner[j]? = some owner[j] := Array.getElem?_eq_getElem hjs
    have hf : owner.getD j (some 0) = none := hfj
    rw [Array.getD_eq_getD_getElem?, e] at hf
    rw [e]
    congr 1
  have get : ∀ i : Nat, (owner.setIfInBounds j (some hs.length))[i]? = if i = j then some (some hs.length) else owner[i]? := fun i => by
    rw [Array.getElem?_setIfInBounds]
    by_cases c : j = i
    · rw [if_pos c, if_pos hjs, if_pos c.symm]
    · rw [if_neg c, if_neg (Ne.symm c)]
  have keep : ∀ i c : Nat, owner[i]? = some (some c) → (owner.setIfInBounds j (some hs.length))[i]? = some (some c) := fun i c e => by
    rw [get, if_neg (fun z => by rw [z, hjn] at e; cases e)]
    exact e
  refine ⟨j, hfr, ⟨by rw [Array.size_setIfInBounds]; exact L.size, fun i c e => ?_, fun i i' c e e' => ?_, fun c hc e => ?_⟩⟩
  · rw [get] at e
    rw [List.length_append, List.length_singleton]
    split at e
    · cases e; omega
    · have := L.lt i c e; omega
  · rw [get] at e e'
    split at e
    · rename_i z
      cases e
      split at e'
      · rename_i z'; rw [z, z']
      · exact absurd (L.lt _ _ e') (Nat.lt_irrefl _)
    · split at e'
      · cases e'; exact absurd (L.lt _ _ e) (Nat.lt_irrefl _)
      · exact L.inj _ _ _ e e'
  · by_cases z : c < hs.length
    · rw [List.getElem?_append_left z] at e
      obtain ⟨jj, n, e1, e2, e3⟩ := L.all c hc e
      exact ⟨jj, n, keep _ _ e1, e2, fun m hm => let ⟨c', e'⟩ := e3 m hm; ⟨c', keep _ _ e'⟩⟩
    · have hcl : c = hs.length := by
        have := (List.getElem?_eq_some_iff.mp e).1
        rw [List.length_append, List.length_singleton] at this
        omega
      subst hcl
      rw [List.getElem?_append_right (Nat.le_refl _), Nat.sub_self] at e
      obtain rfl : h = hc := by simpa using e
      refine ⟨j, n', by rw [get, if_pos rfl], hpj, fun m hm => ?_⟩
      have hle := pth_le (mask := mask) h m
      obtain ⟨c', e'⟩ := occ_of L.size (by omega) (hocc m hm)
      exact ⟨c', keep _ _ e'⟩
theorem lay_all {mask : Nat} (hm : mask = 7 ∨ mask = 31) : ∀ (rest hs : List Int) (owner : Array (Option Nat)), Lay mask hs owner → hs.length + rest.length ≤ mask + 1 →
    ∃ owner', (rest.foldl (init := some (owner, hs.length)) fun acc h => do
      let (ow, k) ← acc
      let j ← layClean.free mask ow (turns mask) (bits h % (mask + 1)) (bits h)
      pure (ow.setIfInBounds j (some k), k + 1)) = some (owner', hs.length + rest.length) ∧ Lay mask (hs ++ rest) owner'
  | [], hs, owner, L, _ => ⟨owner, rfl, by rw [List.append_nil]; exact L⟩
  | h :: rest, hs, owner, L, hz => by
    rw [List.length_cons] at hz
    obtain ⟨j, ej, L'⟩ := L.step hm (by omega) h
    have hl : (hs ++ [h]).length = hs.length + 1 := by rw [List.length_append]; rfl
    obtain ⟨ow', e, L2⟩ := lay_all hm rest (hs ++ [h]) _ L' (by rw [hl]; omega)
    refine ⟨ow', ?_, by rw [List.append_assoc] at L2; exact L2⟩
    rw [List.foldl_cons]
    rw [hl] at e
    rw [List.length_cons, show hs.length + (rest.length + 1) = hs.length + 1 + rest.length by omega, ← e]
    congr 1
    show (do
      let j ← layClean.free mask owner (turns mask) (bits h % (mask + 1)) (bits h)
      pure (owner.setIfInBounds j (some hs.length), hs.length + 1)) = _
    rw [ej]
    rfl
end ST
namespace ST
open PySem PySem.SetTable
theorem layClean_spec {mask : Nat} (hm : mask = 7 ∨ mask = 31) (hashes : Array Int) (hz : hashes.size ≤ mask) : ∃ owner, layClean mask hashes = some owner ∧ Lay mask hashes.toList owner := by
  have L0 : Lay mask [] (Array.replicate (mask + 1) none) := by
    have no : ∀ j c : Nat, (Array.replicate (mask + 1) (none : Option Nat))[j]? ≠ some (some c) := fun j c e => by
      rw [Array.getElem?_replicate] at e
      split at e <;> cases e
    exact ⟨by rw [Array.size_replicate], fun j c e => absurd e (no j c), fun j j' c e => absurd e (no j c), fun c h e => by simp at e⟩
  obtain ⟨ow, e, L⟩ := lay_all hm hashes.toList [] _ L0 (by rw [Array.length_toList]; simp; omega)
  refine ⟨ow, ?_, L⟩
  unfold layClean
  rw [← Array.foldl_toList]
  have e' := congrArg (Option.map (·.1)) e
  exact e'
def liveOf (mask : Nat) (owner : Array (Option Nat)) : List (Nat × Nat) := (List.range (mask + 1)).filterMap fun j => (owner.getD j none).map (j, ·)
theorem live_mem {mask : Nat} {owner : Array (Option Nat)} (hs : owner.size = mask + 1) {j c : Nat} : (j, c) ∈ liveOf mask owner ↔ owner[j]? = some (some c) := by
  unfold liveOf
  rw [List.mem_filterMap]
  constructor
  · rintro ⟨j', hj', e⟩
    have hlt : j' < owner.size := by rw [hs]; exact List.mem_range.mp hj'
    rw [Array.getD_eq_getD_getElem?, Array.getElem?_eq_getElem hlt] at e
    cases ho : owner[j'] with
    | none => rw [Option.getD_some, ho] at e; cases e
    | some c' =>
      rw [Option.getD_some, ho] at e
      cases e
      rw [Array.getElem?_eq_getElem hlt, ho]
  · intro e
    have hlt := (Array.getElem?_eq_some_iff.mp e).1
    refine ⟨j, List.mem_range.mpr (by omega), ?_⟩
    rw [Array.getD_eq_getD_getElem?, e]
    rfl
theorem live_rise (mask : Nat) (owner : Array (Option Nat)) : (liveOf mask owner).Pairwise fun x y => x.1 < y.1 := by
  unfold liveOf
  refine List.Pairwise.filterMap _ (fun a a' hlt b hb b' hb' => ?_) List.pairwise_lt_range
  have h1 : b.1 = a := by
    cases ho : owner.getD a none with
    | none => rw [ho] at hb; cases hb
    | some c => rw [ho] at hb; cases hb; rfl
  have h2 : b'.1 = a' := by
    cases ho : owner.getD a' none with
    | none => rw [ho] at hb'; cases hb'
    | some c => rw [ho] at hb'; cases hb'; rfl
  rw [h1, h2]
  exact hlt
theorem live_perm {mask : Nat} {owner : Array (Option Nat)} {hs : List Int} (L : Lay mask hs owner) : ((liveOf mask owner).map (·.2)).Perm (List.range hs.length) := by
  refine (List.perm_ext_iff_of_nodup ?_ List.nodup_range).mpr fun c => ?_
  · refine List.pairwise_map.mpr ((live_rise mask owner).imp_of_mem fun {x y} hx hy hlt e => ?_)
    have h1 := (live_mem L.size (j := x.1) (c := x.2)).mp hx
    have h2 := (live_mem L.size (j := y.1) (c := y.2)).mp hy
    rw [← e] at h2
    have := L.inj _ _ _ h1 h2
    omega
  · rw [List.mem_range]
    constructor
    · intro h
      obtain ⟨x, hx, rfl⟩ := List.mem_map.mp h
      exact L.lt _ _ ((live_mem L.size (j := x.1) (c := x.2)).mp hx)
    · intro h
      obtain ⟨j, _, e, _⟩ := L.all c hs[c] (List.getElem?_eq_getElem h)
      exact List.mem_map.mpr ⟨(j, c), (live_mem L.size).mpr e, rfl⟩
theorem filterMap_all {α β : Type} (g : α → Option β) (d : α → β) : ∀ (l : List α), (∀ x ∈ l, g x = some (d x)) → l.filterMap g = l.map d
  | [], _ => rfl
  | x :: l, h => by
    rw [List.filterMap_cons, h x (List.mem_cons_self ..), List.map_cons, filterMap_all g d l fun y hy => h y (List.mem_cons_of_mem _ hy)]
theorem laid_tab {mask : Nat} (hm : mask = 7 ∨ mask = 31) {es : Array (Int × Value)} (hz : es.size ≤ mask) (finger moves : Nat) (led plain : Bool) :
    ∃ t' order, laid mask finger moves led plain (es.map (·.1)) = some (t', order) ∧ Tab t' (order.filterMap (es[·]?)) ∧ t'.mask = mask ∧ (order.filterMap (es[·]?)).toList.Perm es.toList := by
  obtain ⟨owner, e, L⟩ := layClean_spec hm (es.map (·.1)) (by rw [Array.size_map]; exact hz)
  have hlen : (es.map (·.1)).toList.length = es.size := by rw [Array.length_toList, Array.size_map]
  have hperm := live_perm L
  rw [hlen] at hperm
  refine ⟨{ mask, place := ((liveOf mask owner).map (·.1)).toArray, dummies := #[], finger, led, moves, plain }, ((liveOf mask owner).map (·.2)).toArray, by unfold laid; rw [e]; rfl, ?_⟩
  have hlt : ∀ x ∈ liveOf mask owner, x.2 < es.size := fun x hx => List.mem_range.mp (hperm.mem_iff.mp (List.mem_map.mpr ⟨x, hx, rfl⟩))
  let dv : Int × Value := (0, .none)
  have efm : ((((liveOf mask owner).map (·.2)).toArray).filterMap (es[·]?)).toList = (liveOf mask owner).map fun x => es.toList.getD x.2 dv := by
    rw [Array.toList_filterMap]
    show ((liveOf mask owner).map (·.2)).filterMap (es[·]?) = _
    rw [filterMap_all (es[·]?) (fun c => es.toList.getD c dv) _ fun c hc => ?_, List.map_map]
    · rfl
    · obtain ⟨x, hx, rfl⟩ := List.mem_map.mp hc
      rw [Array.getElem?_eq_getElem (hlt x hx), List.getD_eq_getElem?_getD, Array.getElem?_toList, Array.getElem?_eq_getElem (hlt x hx)]
      rfl
  generalize hes' : (((liveOf mask owner).map (·.2)).toArray).filterMap (es[·]?) = es' at *
  have hsz : es'.size = (liveOf mask owner).length := by rw [← Array.length_toList, efm, List.length_map]
  have hll : (liveOf mask owner).length = es.size := by have := hperm.length_eq; rw [List.length_map, List.length_range] at this; exact this
  have hpl : ∀ i j : Nat, (((liveOf mask owner).map (·.1)).toArray)[i]? = some j ↔ ∃ c, (liveOf mask owner)[i]? = some (j, c) := fun i j => by
    rw [List.getElem?_toArray, List.getElem?_map]
    constructor
    · intro h
      cases hx : (liveOf mask owner)[i]? with
      | none => rw [hx] at h; cases h
      | some x => rw [hx] at h; cases h; exact ⟨x.2, rfl⟩
    · rintro ⟨c, h⟩
      rw [h]; rfl
  have hocc : ∀ j c : Nat, owner[j]? = some (some c) → ∃ i : Nat, (((liveOf mask owner).map (·.1)).toArray)[i]? = some j := fun j c ho => by
    obtain ⟨i, hi⟩ := List.mem_iff_getElem?.mp ((live_mem L.size).mpr ho)
    exact ⟨i, (hpl i j).mpr ⟨c, hi⟩⟩
  refine ⟨⟨hm, rfl, fun i i' x y hii e1 e2 => ?_, ?_, fun i j e1 => ?_, ?_, fun i j h v e1 e2 => ?_⟩, rfl, ?_⟩
  · obtain ⟨c, h1⟩ := (hpl i x).mp e1
    obtain ⟨c', h2⟩ := (hpl i' y).mp e2
    obtain ⟨l1, g1⟩ := List.getElem?_eq_some_iff.mp h1
    obtain ⟨l2, g2⟩ := List.getElem?_eq_some_iff.mp h2
    have := List.pairwise_iff_getElem.mp (live_rise mask owner) i i' l1 l2 hii
    rw [g1, g2] at this
    exact this
  · show (((liveOf mask owner).map (·.1)).toArray).size = _
    rw [List.size_toArray, List.length_map, hsz]
  · obtain ⟨c, h1⟩ := (hpl i j).mp e1
    have := (live_mem L.size).mp (List.mem_of_getElem? h1)
    have := (Array.getElem?_eq_some_iff.mp this).1
    rw [L.size] at this
    show j ≤ mask
    omega
  · show es'.size ≤ mask
    omega
  · obtain ⟨c, h1⟩ := (hpl i j).mp e1
    have hm1 := List.mem_of_getElem? h1
    have how := (live_mem L.size).mp hm1
    have hc := hlt _ hm1
    have e2' : (h, v) = es.toList.getD c dv := by
      rw [← Array.getElem?_toList, efm, List.getElem?_map, h1] at e2
      exact (Option.some.inj e2).symm
    have hch : (es.map (·.1)).toList[c]? = some h := by
      rw [Array.getElem?_toList, Array.getElem?_map, Array.getElem?_eq_getElem hc]
      rw [List.getD_eq_getElem?_getD, Array.getElem?_toList, Array.getElem?_eq_getElem hc] at e2'
      have e2' : (h, v) = es[c] := e2'
      rw [← e2']
      rfl
    obtain ⟨j', n, o1, o2, o3⟩ := L.all c h hch
    have := L.inj _ _ _ o1 how
    subst this
    exact ⟨n, o2, fun m hm => let ⟨c', ho⟩ := o3 m hm; hocc _ c' ho⟩
  · rw [efm]
    have h1 : ((liveOf mask owner).map fun x => es.toList.getD x.2 dv) = ((liveOf mask owner).map (·.2)).map fun c => es.toList.getD c dv := by rw [List.map_map]; rfl
    rw [h1]
    refine (hperm.map _).trans ?_
    have h2 : (List.range es.size).map (fun c => es.toList.getD c dv) = es.toList := by
      apply List.ext_getElem?
      intro i
      rw [List.getElem?_map]
      by_cases hi : i < es.size
      · rw [List.getElem?_range hi, Array.getElem?_toList, Array.getElem?_eq_getElem hi]
        show some (es.toList.getD i dv) = _
        rw [List.getD_eq_getElem?_getD, Array.getElem?_toList, Array.getElem?_eq_getElem hi]
        rfl
      · rw [List.getElem?_eq_none (by rw [List.length_range]; omega), List.getElem?_eq_none (by rw [Array.length_toList]; omega)]
        rfl
    rw [h2]
end ST
namespace ST
open PySem PySem.SetTable
section
variable {prog : Program} {w : World} {A : Around} {E : Value → Shared → Prop} {s : Shared} {K : Type} [DecidableEq K] {knd : KeyKind prog w K}
theorem byV_hash (n : Nat) {v : Value} (h : carriedByValue v = true) : ∃ r, hashByValue n v = pure r := by
  cases v <;> first | exact ⟨_, rfl⟩ | (cases n <;> exact ⟨_, rfl⟩) | (simp [carriedByValue] at h)
theorem hashBy {ks : List K} {a : Addr} {Q : Bool → Shared → Prop} (hk : IsTupleKey knd s.heap ks a) (h : ∀ r, Q r s) : wpAny (model prog w) A (hashByValue 8 (.ref a)) Q E s := by
  have hT := hk.typeIs
  obtain ⟨o, items, n, ho, _, hd, hi⟩ := hk
  unfold hashByValue
  refine wpAny_bind (wpAny_specialOf hT F.slot_tuple_hash.lookup ?_)
  dsimp only
  refine wpAny_bind (wpAny_seqItems ho hd ?_)
  refine wpAny_bind ?_
  show wpAny _ _ (forIn items _ _) _ _ s
  rw [← Array.forIn_toList]
  refine wpAny_forIn_list _ (fun rest r s' => (r.1 = none) ∧ s' = s ∧ ∀ v ∈ rest, carriedByValue v = true) _ ?_ ?_ _ _ ⟨rfl, rfl, hi.byValue⟩
  · rintro v rest r s' ⟨hr, rfl, hall⟩
    obtain ⟨b, e⟩ := byV_hash 7 (hall v List.mem_cons_self)
    rw [e]
    refine wpAny_bind (wpAny_pure ?_)
    cases b with
    | true =>
      simp only [Bool.not_true, Bool.false_eq_true, if_false]
      exact wpAny_pure ⟨rfl, rfl, fun u hu' => hall u (List.mem_cons_of_mem _ hu')⟩
    | false =>
      simp only [Bool.not_false, if_true]
      exact wpAny_pure (wpAny_pure (h _))
  · rintro ⟨r1, r2⟩ s' ⟨hr, rfl, _⟩
    simp only at hr
    subst hr
    exact wpAny_pure (h _)
theorem wp_ite_bind {α β : Type} {c : Prop} [Decidable c] {M : Model} {x y : Sem α} {k : α → Sem β} {Q : β → Shared → Prop} (h : wpAny M A ((if c then x else y) >>= k) Q E s) : wpAny M A (if c then x >>= k else y >>= k) Q E s := by
  by_cases hc : c
  · rw [if_pos hc] at h ⊢; exact h
  · rw [if_neg hc] at h ⊢; exact h
theorem byAny {ks : List K} {a : Addr} {Q : Bool → Shared → Prop} (c : Bool) (hk : IsTupleKey knd s.heap ks a) (h : ∀ r, Q r s) : wpAny (model prog w) A (if c = true then hashByValue 8 (.ref a) else pure true) Q E s := by
  cases c with
  | true => rw [if_pos rfl]; exact hashBy hk h
  | false => rw [if_neg Bool.false_ne_true]; exact wpAny_pure (h _)
def SetH (knd : KeyKind prog w K) (h : Heap) (a : Addr) (xs : List (List K × Addr)) : Prop := ∃ o es ep t, h.get? a = some o ∧ o.ExactSet ∧ o.data = .set es ep t ∧ Tab t es ∧ El knd h es xs ∧ (t.mask = 7 → es.size ≤ 4)
theorem El.len {h : Heap} {es : Array (Int × Value)} {xs : List (List K × Addr)} (e : El knd h es xs) : es.size = xs.length := by
  have := e.perm.length_eq
  rw [Array.length_toList, List.length_map] at this
  exact this
theorem key_keep {h h' : Heap} {a b : Addr} {o : Obj} {es : Array (Int × Value)} {ep : Nat} {t : SetTable} {k : List K} (ho : h.get? a = some o) (hd : o.data = .set es ep t) (sb : Heap.SameBut a h h') (hk : IsTupleKey knd h k b) : IsTupleKey knd h' k b := by
  obtain ⟨o', items, n, ho', hc, hd', hi⟩ := hk
  have hne : b ≠ a := fun z => by
    rw [z, ho] at ho'
    obtain rfl := Option.some.inj ho'
    rw [hd] at hd'
    cases hd'
  exact ⟨o', items, n, (sb.2 b hne).trans ho', hc, hd', hi⟩
def reord (es : Array (Int × Value)) (l : Option (SetTable × Array Nat)) : Sem (Array (Int × Value) × SetTable) := do
  let some (t, order) := l | unsupported "internal:set-table-without-room"
  let e2 := order.filterMap (es[·]?)
  if e2.size != es.size then
    unsupported "internal:set-table-lost-an-element"
  pure (e2, t)
theorem relay {a : Addr} {o : Obj} {es : Array (Int × Value)} {ep : Nat} {t : SetTable} {Q : Unit → Shared → Prop} (ho : s.heap.get? a = some o) (hd : o.data = .set es ep t) (hf : t.fits es.size = true) (hz : es.size = 5)
    (h : ∀ es' t', Tab t' es' → t'.mask = 31 → es'.toList.Perm es.toList → Q () { s with heap := s.heap.update a (Obj.putSet es' t') }) : wpAny (model prog w) A (setRelay a (grown 5)) Q E s := by
  obtain ⟨t', order, e1, T', em, hp⟩ := laid_tab (mask := 31) (.inr rfl) (es := es) (by omega) t.finger (t.movedTo 31) t.led t.plain
  have eg : sizeAbove (grown 5) = 32 := by decide +kernel
  have er : t.relaid (es.map (·.1)) (grown 5) = some (t', order) := by unfold relaid; rw [eg]; exact e1
  unfold setRelay
  refine wpAny_bind (wpAny_setState_of ho hd hf ?_)
  dsimp only
  rw [eg, if_neg (by rw [sizeLine_eq]; decide)]
  show wpAny _ _ (reord es (t.relaid (es.map (·.1)) (grown 5)) >>= _) _ _ _
  rw [er]
  have hsz : (order.filterMap (es[·]?)).size = es.size := by have := hp.length_eq; rw [Array.length_toList, Array.length_toList] at this; exact this
  refine wpAny_bind ?_
  unfold reord
  dsimp only
  rw [if_neg (by rw [hsz]; simp)]
  refine wpAny_pure ?_
  dsimp only
  exact wpAny_storeSet_of ho hd (h _ _ T' em hp) (by rw [hsz, hz, sizeLine_eq]; decide)
theorem wp_setAdd {a b : Addr} {k : List K} {xs : List (List K × Addr)} {Q : Bool → Shared → Prop} (hu : A.units < cLine) (S : SetH knd s.heap a xs) (hb : IsTupleKey knd s.heap k b) (hz : xs.length ≤ 17)
    (h : ∀ r h' tk, Heap.SameBut a s.heap h' → SetH knd h' a (if k ∈ xs.map (·.1) then xs else xs ++ [(k, b)]) → Q r { s with heap := h', toks := tk }) : wpAny (model prog w) A (setAdd a (.ref b)) Q E s := by
  obtain ⟨o, es, ep, t, ho, hx, hd, T, L, h4⟩ := S
  have hlen := L.len
  unfold setAdd
  refine wpAny_holding (wpAny_bind (wpAny_pyHash_tuple hu hb ?_))
  generalize s.toks + (k.length + 1) = tk1
  unfold setAddHashed setAddHashedIn
  refine wpAny_holding (wpAny_bind (wpAny_setState_of (s := { s with toks := tk1 }) ho hd T.fits ?_))
  dsimp only
  have hbs : byScan (.ref b) es = false := rfl
  rw [hbs]
  simp only [Bool.false_eq_true, if_false]
  obtain ⟨m, hm, hE, hL⟩ := first_free T.mask T.dum T.rise (by rw [T.size]; exact T.room) (tupleKeyHash knd k)
  refine wpAny_bind ?_
  unfold setSearch
  refine search_add (s := { s with toks := tk1 }) hu ho hd T L hb hm hE hL (fun hk => ?_) (fun hk => ?_) 100000 0 none (by rcases T.mask with z | z <;> rw [z] at hm <;> simp only [turns] at hm <;> omega) (Nat.zero_le _) rfl fun x hxm ek => ?_
  · dsimp only
    refine wpAny_pure (h _ s.heap _ (Heap.SameBut.refl _ _) ?_)
    rw [if_pos hk]
    exact ⟨o, es, ep, t, ho, hx, hd, T, L, h4⟩
  · dsimp only
    refine wpAny_bind (wpAny_setState_of (s := { s with toks := tk1 }) ho hd T.fits ?_)
    dsimp only
    have hroom : es.size + 1 ≤ t.mask := by rcases T.mask with z | z <;> rw [z] <;> (first | (have := h4 z; omega) | omega)
    obtain ⟨T0, hpe⟩ := T.add hroom hE hL (.ref b) true
    have T1 := fun c : Bool => (T.add hroom hE hL (.ref b) c).1
    obtain ⟨t1, p, hput⟩ : ∃ t1 p, t.put (pth t.mask (tupleKeyHash knd k) m).j = (t1, p) := ⟨_, _, rfl⟩
    have hmask : t1.mask = t.mask := by have : (t.put (pth t.mask (tupleKeyHash knd k) m).j).1.mask = t.mask := rfl; rw [hput] at this; exact this
    rw [hput] at T1 hpe ⊢
    dsimp only at T1 hpe ⊢
    refine wp_ite_bind (wpAny_bind (byAny t1.plain (s := { s with toks := tk1 }) hb fun r => ?_))
    have hpl : (if r = true then t1 else { t1 with plain := false }) = { t1 with plain := if r = true then t1.plain else false } := by cases r <;> rfl
    rw [hpl]
    have T2 := T1 (if r = true then t1.plain else false)
    have hmask2 : ({ t1 with plain := if r = true then t1.plain else false } : SetTable).mask = t.mask := hmask
    generalize ({ t1 with plain := if r = true then t1.plain else false } : SetTable) = t2 at *
    have hz2 : (insertAt es p (tupleKeyHash knd k, Value.ref b)).size = es.size + 1 := ins_size _ _ _ hpe
    have hpm := ins_perm es p (tupleKeyHash knd k, Value.ref b) hpe
    generalize insertAt es p (tupleKeyHash knd k, Value.ref b) = es2 at *
    have ho2 : (s.heap.update a (Obj.putSet es2 t2)).get? a = some { o with data := .set es2 (ep + 1) t2 } := by
      have := Heap.get?_update_self (Obj.putSet es2 t2) ho (by rw [putSet_of es2 t2 hd]; rfl)
      rw [putSet_of es2 t2 hd] at this
      exact this
    have sb2 := Heap.SameBut.update s.heap a (Obj.putSet es2 t2)
    have elOf : ∀ (es3 : Array (Int × Value)) (h' : Heap), Heap.SameBut a s.heap h' → es3.toList.Perm es2.toList → El knd h' es3 (xs ++ [(k, b)]) := fun es3 h' sb hp3 => by
      refine ⟨(hp3.trans hpm).trans ?_, ?_, fun x hx' => ?_⟩
      · rw [List.map_append]
        exact ((L.perm.cons _).trans (List.perm_append_singleton _ _).symm)
      · rw [List.map_append, List.nodup_append]
        exact ⟨L.nd, by simp, fun y hy z hz' e => by
          rw [List.map_cons, List.map_nil, List.mem_singleton] at hz'
          rw [hz'] at e
          have e : y = k := e
          exact hk (e ▸ hy)⟩
      · rcases List.mem_append.mp hx' with hx' | hx'
        · exact key_keep ho hd sb (L.keys x hx')
        · rw [List.mem_singleton.mp hx']
          exact key_keep ho hd sb hb
    refine wpAny_bind (wpAny_storeSet_of (s := { s with toks := tk1 }) ho hd ?_ (by rw [hz2, sizeLine_eq]; omega))
    have hfill : t2.fill = es.size + 1 := by unfold fill; rw [T2.dum, T2.size, hz2]; rfl
    by_cases full : t2.tooFull = true
    · have hm7 : t.mask = 7 := by
        unfold tooFull at full
        rw [hfill, hmask2] at full
        have full := of_decide_eq_true full
        rcases T.mask with z | z
        · exact z
        · rw [z] at full; omega
      have h5 : es.size + 1 = 5 := by
        unfold tooFull at full
        rw [hfill, hmask2, hm7] at full
        have full := of_decide_eq_true full
        have := h4 hm7
        omega
      rw [full]
      simp only [Bool.not_false, Bool.and_self, if_true]
      rw [h5]
      refine wpAny_bind (relay (s := { s with heap := s.heap.update a (Obj.putSet es2 t2), toks := tk1 }) ho2 rfl T2.fits (by rw [hz2]; exact h5) fun es3 t3 T3 hm3 hp3 => ?_)
      have ho3 : ((s.heap.update a (Obj.putSet es2 t2)).update a (Obj.putSet es3 t3)).get? a = some { o with data := .set es3 (ep + 1 + 1) t3 } := by
        have := Heap.get?_update_self (Obj.putSet es3 t3) ho2 (by rw [putSet_of es3 t3 (o := { o with data := .set es2 (ep + 1) t2 }) rfl]; rfl)
        rw [putSet_of es3 t3 (o := { o with data := .set es2 (ep + 1) t2 }) rfl] at this
        exact this
      have sb3 := sb2.trans (Heap.SameBut.update _ a (Obj.putSet es3 t3))
      refine wpAny_pure (h _ _ _ sb3 ?_)
      rw [if_neg hk]
      exact ⟨_, es3, _, t3, ho3, hx, rfl, T3, elOf es3 _ sb3 hp3, fun z => by rw [hm3] at z; omega⟩
    · have full : t2.tooFull = false := by simpa using full
      rw [full]
      simp only [Bool.and_false, Bool.false_eq_true, if_false]
      refine wpAny_pure (h _ _ _ sb2 ?_)
      rw [if_neg hk]
      refine ⟨_, es2, _, t2, ho2, hx, rfl, T2, elOf es2 _ sb2 (List.Perm.refl _), fun z => ?_⟩
      unfold tooFull at full
      rw [hfill, z] at full
      have full := of_decide_eq_false full
      omega
  · -- one that is there is found in time
    have hmem : (tupleKeyHash knd x.1, Value.ref x.2) ∈ es.toList := L.perm.mem_iff.mpr (List.mem_map.mpr ⟨x, hxm, rfl⟩)
    obtain ⟨i, hi⟩ := List.mem_iff_getElem?.mp hmem
    rw [Array.getElem?_toList] at hi
    have his : i < t.place.size := by rw [T.size]; exact (Array.getElem?_eq_some_iff.mp hi).1
    obtain ⟨n, hn, hoc⟩ := T.path i _ _ _ (Array.getElem?_eq_getElem his) hi
    rw [ek] at hn hoc hi
    refine ⟨n, i, Nat.zero_le _, ?_, by rw [hn]; exact Array.getElem?_eq_getElem his, hi⟩
    rcases Nat.lt_trichotomy n m with z | z | z
    · exact z
    · subst z
      rw [hn, slot_live T.rise (Array.getElem?_eq_getElem his)] at hE
      cases hE
    · obtain ⟨i', hi', _⟩ := occ_live T.rise (hoc m z)
      rw [hi'] at hE
      cases hE
end
end ST
namespace ST
open PySem PySem.SetTable PySem.Spec PyProof.Rows
def onceK {α β : Type} [DecidableEq α] (acc : List (α × β)) : List (α × β) → List (α × β)
  | [] => acc
  | x :: l => onceK (if x.1 ∈ acc.map (·.1) then acc else acc ++ [x]) l
theorem onceK_take {α β : Type} [DecidableEq α] : ∀ (l acc : List (α × β)) (i : Nat) (x : α × β), l[i]? = some x → onceK acc (l.take (i + 1)) = if x.1 ∈ (onceK acc (l.take i)).map (·.1) then onceK acc (l.take i) else onceK acc (l.take i) ++ [x]
  | [], _, i, x, h => by simp at h
  | y :: l, acc, 0, x, h => by
    obtain rfl : y = x := by simpa using h
    rfl
  | y :: l, acc, i + 1, x, h => by
    rw [List.take_succ_cons, List.take_succ_cons]
    exact onceK_take l _ i x (by simpa using h)
theorem onceK_mem {α β : Type} [DecidableEq α] : ∀ {l acc : List (α × β)} {z : α × β}, z ∈ onceK acc l → z ∈ acc ∨ z ∈ l
  | [], _, _, h => .inl h
  | x :: l, acc, z, h => by
    rcases onceK_mem (l := l) h with h | h
    · split at h
      · exact .inl h
      · rcases List.mem_append.mp h with h | h
        · exact .inl h
        · rw [List.mem_singleton.mp h]; exact .inr (List.mem_cons_self ..)
    · exact .inr (List.mem_cons_of_mem _ h)
theorem onceK_len {α β : Type} [DecidableEq α] : ∀ (l acc : List (α × β)), (onceK acc l).length ≤ acc.length + l.length
  | [], acc => Nat.le_refl _
  | x :: l, acc => by
    have h1 := onceK_len l (if x.1 ∈ acc.map (·.1) then acc else acc ++ [x])
    have h2 : (if x.1 ∈ acc.map (·.1) then acc else acc ++ [x]).length ≤ acc.length + 1 := by
      split
      · omega
      · rw [List.length_append, List.length_singleton]; omega
    rw [List.length_cons]
    show (onceK _ l).length ≤ _
    omega
theorem onceK_nd {α β : Type} [DecidableEq α] : ∀ (l acc : List (α × β)), (acc.map (·.1)).Nodup → ((onceK acc l).length = acc.length + l.length ↔ ((acc ++ l).map (·.1)).Nodup)
  | [], acc, h => by rw [List.append_nil]; exact ⟨fun _ => h, fun _ => rfl⟩
  | x :: l, acc, h => by
    show (onceK (if x.1 ∈ acc.map (·.1) then acc else acc ++ [x]) l).length = _ ↔ _
    by_cases hx : x.1 ∈ acc.map (·.1)
    · rw [if_pos hx]
      have h1 := onceK_len l acc
      constructor
      · intro e
        rw [List.length_cons] at e
        omega
      · intro hn
        rw [List.map_append, List.nodup_append] at hn
        exact absurd rfl (hn.2.2 _ hx _ (List.mem_map.mpr ⟨x, List.mem_cons_self .., rfl⟩))
    · rw [if_neg hx]
      have hn' : ((acc ++ [x]).map (·.1)).Nodup := by
        rw [List.map_append, List.nodup_append]
        exact ⟨h, by simp, fun y hy z hz e => hx (by
          rw [List.map_cons, List.map_nil, List.mem_singleton] at hz
          rw [hz] at e
          have e : y = x.1 := e
          exact e ▸ hy)⟩
      have ih := onceK_nd l (acc ++ [x]) hn'
      rw [List.append_assoc] at ih
      rw [List.length_append, List.length_singleton] at ih
      rw [List.length_cons, show acc.length + (l.length + 1) = acc.length + 1 + l.length by omega]
      exact ih
section
variable {prog : Program} {w : World} {A : Around} {E : Value → Shared → Prop} {s : Shared} {K : Type} [DecidableEq K] {knd : KeyKind prog w K}
theorem SetH.move {h h' : Heap} {a : Addr} {xs : List (List K × Addr)} (S : SetH knd h a xs) (ha : ∀ o, h.get? a = some o → h'.get? a = some o) (hk : ∀ x ∈ xs, IsTupleKey knd h' x.1 x.2) : SetH knd h' a xs := by
  obtain ⟨o, es, ep, t, ho, hx, hd, T, L, h4⟩ := S
  exact ⟨o, es, ep, t, ha o ho, hx, hd, T, ⟨L.perm, L.nd, hk⟩, h4⟩
theorem key_kept {h0 h : Heap} {d it b : Addr} {k : List K} (hi : IsTupleKey knd h0 k b) (hd0 : h0.get? d = none) (hi0 : h0.get? it = none) (kp : ∀ b o, b ≠ d → b ≠ it → h0.get? b = some o → h.get? b = some o) : IsTupleKey knd h k b := by
  obtain ⟨o, its, n, ho, r⟩ := hi
  exact ⟨o, its, n, kp b o (fun z => by rw [z, hd0] at ho; cases ho) (fun z => by rw [z, hi0] at ho; cases ho) ho, r⟩
theorem upd_loop {R : Result → Shared → Prop} {S l I : Addr} {items : Array Value} {ks : List (List K × Addr)} {h0 : Heap} (hh : A.handled = none) (hu : A.units + 1 < cLine) (hP : items.toList = ks.map fun x => Value.ref x.2) (hk0 : ∀ x ∈ ks, IsTupleKey knd h0 x.1 x.2) (hlS : l ≠ S) (hlI : l ≠ I) (hSI : S ≠ I) (hz : ks.length ≤ 18)
    (hS0 : h0.get? S = none) (hI0 : h0.get? I = none) (hR : ∀ h' tk, SetH knd h' S (onceK [] ks) → (∀ b o, b ≠ S → b ≠ I → h0.get? b = some o → h'.get? b = some o) → R (.ok (.ret .none)) { s with heap := h', toks := tk }) :
    ∀ (m i : Nat) (h : Heap) (tk : Nat), items.size - i = m → i ≤ items.size → h.IsListIter I l i → h.IsList l items → SetH knd h S (onceK [] (ks.take i)) → (∀ b o, b ≠ S → b ≠ I → h0.get? b = some o → h.get? b = some o) →
      codeAny (model prog w) A (.builtin "set.update.loop" ⟨[.ref S, .ref I], []⟩) R { s with heap := h, toks := tk } := by
  have hsz : items.size = ks.length := by rw [← Array.length_toList, hP, List.length_map]
  have sub : ∀ i, ∀ x ∈ onceK [] (ks.take i), x ∈ ks := fun i x hx => (onceK_mem hx).elim (fun z => nomatch z) fun z => List.mem_of_mem_take z
  intro m
  induction m with
  | zero =>
    intro i h tk hm hi it li st kp
    refine codeAny_builtin PyProof.Rows.F.entry_set_update_loop ?_; rw [Around.under_plainId PyProof.Rows.F.plain_set_update_loop _]; show wpAny _ A.in1 (pyNext (.ref I) >>= _) _ _ _
    refine wpAny_bind (wpAny_pyNext_list_end hh it li (by simp; omega) fun h' hk' => ?_)
    have e : ks.take i = ks := List.take_of_length_le (by omega)
    rw [e] at st
    exact wpAny_pure (hR h' _ (st.move (fun o ho => hk' S o hSI ho) fun x hx => key_kept (hk0 x ((onceK_mem hx).elim (fun z => nomatch z) id)) hS0 hI0 fun b o n1 n2 e => hk' b o n2 (kp b o n1 n2 e)) fun b o n1 n2 e => hk' b o n2 (kp b o n1 n2 e))
  | succ m ih =>
    intro i h tk hm hi it li st kp
    have hlt : i < items.size := by omega
    have hgk : ks[i]? = some ks[i] := List.getElem?_eq_getElem (by omega)
    have hgi : items[i]? = some (Value.ref ks[i].2) := by rw [← Array.getElem?_toList, hP, List.getElem?_map, hgk]; rfl
    refine codeAny_builtin PyProof.Rows.F.entry_set_update_loop ?_; rw [Around.under_plainId PyProof.Rows.F.plain_set_update_loop _]; show wpAny _ A.in1 (pyNext (.ref I) >>= _) _ _ _
    refine wpAny_bind (wpAny_pyNext_list_item (x := Value.ref ks[i].2) it li hgi fun h1 hI1 hs1 => ?_)
    have kp1 : ∀ b o, b ≠ S → b ≠ I → h0.get? b = some o → h1.get? b = some o := fun b o n1 n2 e => (hs1.2 b n2).trans (kp b o n1 n2 e)
    have st1 : SetH knd h1 S (onceK [] (ks.take i)) := st.move (fun o ho => (hs1.2 S hSI).trans ho) fun x hx => key_kept (hk0 x (sub i x hx)) hS0 hI0 kp1
    have hl17 : (onceK [] (ks.take i)).length ≤ 17 := by
      have e1 := onceK_len (ks.take i) []
      have e2 : (ks.take i).length ≤ i := by rw [List.length_take]; omega
      simp only [List.length_nil] at e1
      omega
    show wpAny _ A.in1 (holding [Value.ref ks[i].2] (setAdd S (.ref ks[i].2)) >>= _) _ _ _
    refine wpAny_bind (wpAny_holding (wp_setAdd (s := { s with heap := h1, toks := tk }) (A := A.in1) (show A.in1.units < cLine from hu) st1 (key_kept (hk0 _ (List.getElem_mem _)) hS0 hI0 kp1) hl17 fun r h2 tk2 sb2 st2 => ?_))
    obtain ⟨ol, hol, rl⟩ := li
    obtain ⟨oi, hoi, ri⟩ := hI1
    refine wpAny_pure ⟨plainId_quiet PyProof.Rows.F.plain_set_update_loop _, ih (i + 1) h2 tk2 (by omega) hlt ⟨oi, (sb2.2 I (Ne.symm hSI)).trans hoi, ri⟩ ⟨ol, (sb2.2 l hlS).trans ((hs1.2 l hlI).trans hol), rl⟩ ?_ fun b o n1 n2 e => (sb2.2 b n1).trans (kp1 b o n1 n2 e)⟩
    rw [onceK_take ks [] i ks[i] hgk]
    by_cases hc : ks[i].1 ∈ (onceK [] (ks.take i)).map (·.1)
    · rw [if_pos hc] at st2 ⊢; exact st2
    · rw [if_neg hc] at st2 ⊢; exact st2
end
end ST
namespace ST
open PySem PySem.SetTable PySem.Spec PyProof.Rows
section
variable {prog : Program} {w : World} {A : Around} {E : Value → Shared → Prop} {s : Shared} {K : Type} [DecidableEq K] {knd : KeyKind prog w K}
abbrev freshSet (led : Bool) : Obj := { cls := .type "set", dict := none, data := .set #[] 0 (.fresh 0 0 led) }
theorem fresh_setH (h : Heap) (a : Addr) (led : Bool) (ho : h.get? a = some (freshSet led)) : SetH knd h a [] := by
  refine ⟨_, #[], 0, _, ho, ⟨rfl, rfl, rfl⟩, rfl, ⟨.inl rfl, rfl, ?_, rfl, ?_, Nat.zero_le _, ?_⟩, ⟨by simp, List.nodup_nil, fun x hx => nomatch hx⟩, fun _ => Nat.zero_le _⟩
  · intro i j x y _ e; simp [SetTable.fresh] at e
  · intro i j e; simp [SetTable.fresh] at e
  · intro i j h v e; simp [SetTable.fresh] at e
set_option maxRecDepth 100000 in
set_option maxHeartbeats 3200000 in
theorem call_set {l : Addr} {items : Array Value} {ks : List (List K × Addr)} {Q : Value → Shared → Prop} (hh : A.handled = none) (hu : A.units + 8 < cLine) (hl : s.heap.IsList l items) (hP : items.toList = ks.map fun x => Value.ref x.2) (hk0 : ∀ x ∈ ks, IsTupleKey knd s.heap x.1 x.2) (hz : ks.length ≤ 18)
    (h : ∀ (h' : Heap) (tk : Nat), SetH knd h' s.heap.objs.size (onceK [] ks) → (∀ b o, s.heap.get? b = some o → h'.get? b = some o) → Q (.ref s.heap.objs.size) { s with heap := h', toks := tk }) : wpAny (model prog w) A (call (.type "set") [.ref l]) Q E s := by
  obtain ⟨c, tl, hmro⟩ := PySem.F.called_set.mro; have hmade := PySem.F.called_set.made; have hsub := PySem.F.called_set.sub
  refine wpAny_call (codeAny_of_tree ?_); show wpAny _ _ (callAny (.type "set") _) _ _ _
  refine wpAny_pure ⟨Code.quiet_builtin _ (by decide +kernel), codeAny_builtin PySem.F.entry_type_call ?_⟩; rw [Around.under_plain (weight_type_call_type "set" [.ref l] []) rfl]
  have h1 := PySem.F.called_set.notType; have h2 := PySem.F.called_set.canCreate; have hct := PySem.F.typeCall_set_1 (.ref l)
  repeat (any_goals (first | assumption | wp_step))
  refine codeAny_mono (code_set_new_1 (.ref l) (E := E) (Q₁ := fun obj s₁ => ∃ led : Bool, obj = .ref s.heap.objs.size ∧ s₁ = { s with heap := s.heap.push (freshSet led) }) fun led => ⟨led, rfl, rfl⟩) fun r s₁ hr => ?_
  cases r with
  | error e => exact hr
  | ok fl =>
    cases fl with
    | ret obj =>
      obtain ⟨led, rfl, rfl⟩ := hr
      have hS : (s.heap.push (freshSet led)).get? s.heap.objs.size = some (freshSet led) := Heap.get?_push_size _ rfl
      have hT : Shared.TypeIs { s with heap := s.heap.push (freshSet led) } (.ref s.heap.objs.size) "set" := ⟨_, hS, rfl⟩
      have hli := PySem.F.called_set.init.lookup; have hbi := PySem.F.called_set.init.bind (.ref s.heap.objs.size)
      repeat (any_goals (first | assumption | wp_step))
      refine codeAny_mono (codeAny_call_builtin (R := wants (fun r s₂ => r = .none ∧ ∃ h' tk, s₂ = { s with heap := h', toks := tk } ∧ SetH knd h' s.heap.objs.size (onceK [] ks) ∧ (∀ b o, s.heap.get? b = some o → h'.get? b = some o)) E) PySem.F.called_set.init.plain PySem.F.entry_set_init (check_set_init_1 hT ?_)) fun r₂ s₂ hr₂ => ?_
      · obtain ⟨ol, hol, hcl, nl, hdl⟩ := hl
        obtain ⟨ocls, odict, odata, oslots⟩ := ol
        simp only at hcl hdl
        subst hcl; subst hdl
        have hol' : (s.heap.push (freshSet led)).get? l = some { cls := .type "list", dict := odict, data := .seq items nl, slots := oslots } := Heap.get?_push_of_some _ hol
        have hsls := PySem.F.sub_list_set; have hslf := PySem.F.sub_list_frozenset; have hne : (Value.type "list" == Value.type "dict") = false := by decide
        have hl1 : (s.heap.push (freshSet led)).IsList l items := ⟨_, hol', rfl, nl, rfl⟩
        unfold Builtin.«set.__init__» noKeywords Builtin.Frozenset.updateFrom
        generalize hPI : pyIter = PI
        wp_walk
        subst hPI
        refine wpAny_pyIter_list hl1 ?_; refine wpAny_bind (wpAny_runValue ?_)
        have hlS : l < s.heap.objs.size := Heap.lt_size hol
        have hh3 : A.in1.in1.in1.handled = none := by simp [hh]
        have e1 : (s.heap.push (freshSet led)).objs.size = s.heap.objs.size + 1 := Heap.size_push ..
        refine upd_loop (A := A.in1.in1) (s := s) (knd := knd) (h0 := s.heap) (ks := ks) (items := items) (l := l) hh3 ?_ hP hk0 (Nat.ne_of_lt hlS) (by rw [e1]; exact Nat.ne_of_lt (Nat.lt_succ_of_lt hlS)) (by rw [e1]; exact Nat.ne_of_lt (Nat.lt_succ_self _)) hz (Heap.get?_none_of_le (Nat.le_refl _)) (Heap.get?_none_of_le (by rw [e1]; exact Nat.le_succ _)) (fun h' tk hD hk => ?_) items.size 0 _ _ (by simp) (Nat.zero_le _) ⟨_, Heap.get?_push_size _ rfl, rfl, rfl⟩ (hl1.push _) ?_ (fun b o _ _ e => Heap.get?_push_of_some _ (Heap.get?_push_of_some _ e))
        · show A.units + 1 + 1 + 1 < cLine
          omega
        · show wpAny _ _ _ _ _ _
          refine wpAny_pure ?_
          show wpAny _ _ (ret Value.none) _ _ _
          exact wpAny_pure ⟨rfl, h', tk, rfl, hD, fun b o e => hk b o (Nat.ne_of_lt (Heap.lt_size e)) (by rw [e1]; exact Nat.ne_of_lt (Nat.lt_succ_of_lt (Heap.lt_size e))) e⟩
        · exact fresh_setH _ _ led (Heap.get?_push_of_some _ hS)
      · cases r₂ with
        | error e => exact hr₂
        | ok fl₂ =>
          cases fl₂ with
          | ret r =>
            obtain ⟨rfl, h', tk, rfl, hS', hk'⟩ := hr₂
            repeat (any_goals (first | assumption | wp_step))
            exact h _ _ hS' hk'
          | _ => exact hr₂.elim
    | _ => exact hr.elim
end
end ST
namespace L2
open PySem PySem.Spec PyProof.Rows
section
variable {X : Cx}
theorem key_ofT {pins : List (Addr × Obj)} {σ : St} {H : Hp} {s : Shared} {a : Addr} {u : List Str} (I : Inv X pins σ H s) (h : SqT X.K H a (u.map V.str)) : (tupleKind (mixKind X.prog X.w)).is s.heap (u.map Sum.inr) a := by
  obtain ⟨its, r, ⟨o, h1, h2, n, h3⟩, _⟩ := I.tuple h
  have e : u.map V.str = ((u.map Sum.inr : List Key)).map kV := by rw [List.map_map]; rfl
  rw [e] at r
  exact ⟨o, its.toArray, n, h1, h2, h3, by simpa using items_are r⟩
def unlike (rs : List (Addr × List Str)) : Nat := (ST.onceK [] (rs.map fun r => ((r.2.map Sum.inr : List Key), r.1))).length
theorem unlike_iff (rs : List (Addr × List Str)) : unlike rs = rs.length ↔ (rs.map (·.2)).Nodup := by
  have h := ST.onceK_nd (rs.map fun r => ((r.2.map Sum.inr : List Key), r.1)) [] List.nodup_nil
  rw [List.length_map, List.length_nil, Nat.zero_add, List.nil_append, List.map_map] at h
  unfold unlike
  rw [h]
  have e : rs.map ((fun x => x.1) ∘ fun r : Addr × List Str => ((r.2.map Sum.inr : List Key), r.1)) = (rs.map (·.2)).map fun u => (u.map Sum.inr : List Key) := by rw [List.map_map]; rfl
  rw [e]
  constructor
  · intro hn
    exact (List.pairwise_map.mp hn).imp fun hne e => hne (by rw [e])
  · intro hn
    exact List.pairwise_map.mpr (hn.imp fun hne e => hne (Co.inrT_inj e))
def tLenSet (K : PySem.W.Frag) (te : TE) : TE := fun σ H Q => tCons te tNil σ H fun vs H1 => ∃ l, ∃ rs : List (Addr × List Str), vs = [.ref l] ∧ SqL K H1 l (rs.map fun r => V.ref r.1) ∧ rs.length ≤ 18 ∧ (∀ r ∈ rs, SqT K H1 r.1 (r.2.map V.str)) ∧ Q (.int (unlike rs)) H1
variable {e : Expr} {te : TE} {p p2 pos pos2 : Pos}
theorem pe_lenSet (hc : X.calm = true) (hu : X.A.units + 8 < cLine) (hg : Gl X "len") (hm : X.mg "len" = none) (hg2 : Gl X "set") (hm2 : X.mg "set" = none) (hE : PE X e te)
    (he2 : starEach [e] X.env = (false, eval e X.env) :: starEach [] X.env := by rfl) (he : starEach [Expr.Call (.Name "set" p2) [e] [] pos2] X.env = [(false, eval (Expr.Call (.Name "set" p2) [e] [] pos2) X.env)] := by rfl) :
    PE X (.Call (.Name "len" p) [.Call (.Name "set" p2) [e] [] pos2] [] pos) (tLenSet X.K te) := by
  intro pins s σ H Q I h
  refine wpAny_Call_Name_kw (ld_blt I hg hm (u := .builtin "len") rfl ?_ (by decide) (by decide))
  refine PyProof.Rows.callWith_builtin1 (e := Expr.Call (.Name "set" p2) [e] [] pos2) (rest := []) ?_ he rfl
  rw [he]
  refine Calls.spliced_cons ?_
  refine wpAny_Call_Name_kw (ld_blt I hg2 hm2 (u := .type "set") rfl ?_ (by decide) (by decide))
  refine PyProof.Rows.callWith_type1 (thn ((pa_cons hE pa_nil he2) pos2 pins s σ H (fun vs H1 => ∃ l, ∃ rs : List (Addr × List Str), vs = [.ref l] ∧ SqL X.K H1 l (rs.map fun r => V.ref r.1) ∧ rs.length ≤ 18 ∧ (∀ r ∈ rs, SqT X.K H1 r.1 (r.2.map V.str)) ∧ Q (.int (unlike rs)) H1) I ?_) fun us s1 ⟨vs, H1, I1, r1, l, rs, ev, hq, hz, hall, q1⟩ => ?_) he2 rfl
  · exact h
  subst ev
  obtain ⟨u, rfl, ru⟩ := vals1 r1
  cases ru
  obtain ⟨its, ri, pl, hzz⟩ := I1.list hq
  have eits : its = rs.map fun r => Value.ref r.1 := by
    clear q1 hall hz hq h pl hzz
    induction rs generalizing its with
    | nil => cases ri; rfl
    | cons r rs ih =>
      cases ri with
      | cons a b => cases a; rw [ih _ b, List.map_cons]
  refine ST.call_set (knd := mixKind X.prog X.w) (ks := rs.map fun r => ((r.2.map Sum.inr : List Key), r.1)) (I.ok.hd hc) hu pl.isList (by rw [eits, List.map_map]; rfl) (fun x hx => ?_) (by rw [List.length_map]; exact hz) fun h' tk hS kp => ?_
  · obtain ⟨r, hr, rfl⟩ := List.mem_map.mp hx
    exact key_ofT I1 (hall r hr)
  refine Calls.spliced_nil ?_
  obtain ⟨o, es, ep, t, ho, hex, hd, T, L, _⟩ := hS
  have hlen := L.len
  have hle := ST.onceK_len (rs.map fun r => ((r.2.map Sum.inr : List Key), r.1)) []
  rw [List.length_nil, List.length_map] at hle
  refine PySem.call_len_set (s := { s1 with heap := h', toks := tk }) ho hex hd T.fits (by rw [hlen]; omega) ?_
  have ev : EP X pins σ Q (Value.int (es.size : Int) (tk + 1)) { s1 with heap := h', toks := tk + 1 + 1 } := ⟨.int (unlike rs), H1, I1.kept (t' := tk + 1 + 1) kp, ⟨tk + 1, by rw [hlen]; rfl⟩, q1⟩
  exact ev
end
end L2
namespace HX
open PySem
section
variable {α : Type} {M : Model} {A : Around} {E : Value → Shared → Prop} {s : Shared} {base : Heap} {env : Env} {outer : List Env} {L e T : Addr} {cls fl : Value}
end
end HX
namespace L2
open PySem PySem.Spec PyProof.Rows
section
variable {P : Program} {w : World} {K : PySem.W.Frag} {mg : Str → Option Value} {base : Heap} {N : List Str} {qual : Str} {scope : Scope} {f : Addr} {cd : Value} {A : Around} {outer : List Env} {s0 : Shared} {H0 : Hp} {E : XK}
end
section
variable {prog : Program} {w : World} {A : Around} {R : Result → Shared → Prop} {s : Shared}
end
section
variable {X : Cx}
end
end L2
namespace Mi
open PySem L2
def sIn (a b : Str) : Bool := !(Builtin.Str.occurrences b a 0 b.length 1).isEmpty
def isWord (x : Str) : Bool := (!decide (V.str x = V.str "")) && ((signs x).map fun c => sIn c "abcdefghijklmnopqrstuvwxyz0123456789").all id
def isName (x : Str) : Bool := if decide ((12 : Int) < (x.length : Int)) = true then false else ((Txt.split x "-").map isWord).all id
def numEnd (n : Int) : Str := Str.empty ++ ("-" : Str) ++ (toString n : Str)
def cutD (x : Str) : Str := if Txt.endswith x "-" = true then Txt.slice x none (some (-1)) else x
def numd (x : Str) (n : Int) : Str := cutD (Txt.slice x none (some (12 - ((numEnd n).length : Int)))) ++ numEnd n
def cand (x : Str) (c : Nat) : Str := if c = 0 then x else numd x ((c : Int) + 1)
def seekF (x : Str) (ts : List Str) : Nat → Nat → Nat
  | 0, c => c
  | f + 1, c => if cand x c ∈ ts then seekF x ts f (c + 1) else c
def unl (x : Str) (ts : List Str) : Str := cand x (seekF x ts (ts.length + 1) 0)
def cands (x : Str) (n : Nat) : List Str := (List.range n).map (cand x)
theorem nodup_le : ∀ (l ts : List Str), l.Nodup → (∀ a ∈ l, a ∈ ts) → l.length ≤ ts.length
  | [], _, _, _ => Nat.zero_le _
  | a :: l, ts, nd, h => by
    have h1 := (List.nodup_cons.mp nd).1
    have ha : a ∈ ts := h a (List.mem_cons_self ..)
    have h2 : ∀ b ∈ l, b ∈ ts.erase a := fun b hb => by
      have hne : b ≠ a := fun e => h1 (e ▸ hb)
      exact (List.mem_erase_of_ne hne).mpr (h b (List.mem_cons_of_mem _ hb))
    have h3 := nodup_le l (ts.erase a) (List.nodup_cons.mp nd).2 h2
    have h4 := List.length_erase_of_mem ha
    have h5 : 0 < ts.length := List.length_pos_of_mem ha
    rw [List.length_cons]
    omega
structure Good (x : Str) : Prop where
  len : x.length ≤ 12
  nd : (cands x 20).Nodup
  nm : ∀ c, c < 20 → isName (cand x c) = true
  sh : ∀ c, c < 20 → (cand x c).length ≤ 12
theorem cands_take (x : Str) (m n : Nat) (h : m ≤ n) : cands x m = (cands x n).take m := by
  unfold cands
  rw [← List.map_take, List.take_range, Nat.min_eq_left h]
theorem room {x : Str} {ts : List Str} (g : Good x) (hL : ts.length ≤ 18) {c : Nat} (hb : ∀ j, j < c → cand x j ∈ ts) (hc : cand x c ∈ ts) (hle : c ≤ ts.length) : c + 1 ≤ ts.length := by
  have nd : (cands x (c + 1)).Nodup := by
    rw [cands_take x (c + 1) 20 (by omega)]
    exact g.nd.sublist (List.take_sublist _ _)
  have := nodup_le (cands x (c + 1)) ts nd fun a ha => by
    obtain ⟨j, hj, rfl⟩ := List.mem_map.mp ha
    have hj' : j < c + 1 := List.mem_range.mp hj
    by_cases e : j = c
    · rw [e]; exact hc
    · exact hb j (by omega)
  simpa [cands] using this
theorem seek_step {x : Str} {ts : List Str} {f c : Nat} (h : cand x c ∈ ts) : seekF x ts (f + 1) c = seekF x ts f (c + 1) := if_pos h
theorem seek_stop {x : Str} {ts : List Str} {f c : Nat} (h : cand x c ∉ ts) : seekF x ts f c = c := by
  cases f with
  | zero => rfl
  | succ f => exact if_neg h
structure Tried (x : Str) (ts : List Str) (c : Nat) : Prop where
  all : ∀ j, j < c → cand x j ∈ ts
  le : c ≤ ts.length
  same : seekF x ts (ts.length + 1) 0 = seekF x ts (ts.length + 1 - c) c
theorem Tried.start (x : Str) (ts : List Str) : Tried x ts 0 := ⟨fun j h => absurd h (Nat.not_lt_zero _), Nat.zero_le _, rfl⟩
theorem Tried.more {x : Str} {ts : List Str} {c : Nat} (g : Good x) (hL : ts.length ≤ 18) (t : Tried x ts c) (h : cand x c ∈ ts) : Tried x ts (c + 1) := by
  have r := room g hL t.all h t.le
  refine ⟨fun j hj => ?_, r, ?_⟩
  · by_cases e : j = c
    · rw [e]; exact h
    · exact t.all j (by omega)
  · rw [t.same]
    have e : ts.length + 1 - c = (ts.length + 1 - (c + 1)) + 1 := by omega
    rw [e]
    exact seek_step h
theorem Tried.done {x : Str} {ts : List Str} {c : Nat} (t : Tried x ts c) (h : cand x c ∉ ts) : cand x c = unl x ts := by
  unfold unl
  rw [t.same, seek_stop h]
def leS (a b : Str) : Bool := !decide (b.cps.toList < a.cps.toList)
def addS (acc c : Str) : Str :=
  if leS "A" c && leS c "Z" then acc ++ Txt.lower c
  else if (leS "a" c && leS c "z") || (leS "0" c && leS c "9") then acc ++ c
  else if decide (V.str c = V.str "&") then acc ++ (" and " : Str)
  else if (!decide (V.str c = V.str "'")) then acc ++ (" " : Str)
  else acc
def whole (cs : List Str) : Str := cs.foldl addS ""
end Mi
namespace Mi
open PySem L2
def dash : Str := "-"
theorem app_cps (a b : Str) : (a ++ b).cps.toList = a.cps.toList ++ b.cps.toList := by
  rw [Str.cps_append, Array.toList_append]
theorem app_length (a b : Str) : (a ++ b).length = a.length + b.length := Str.length_append a b
theorem txt_join (sep : Str) (ts : List Str) : Txt.join sep ts = Str.join sep ts := StrLaws.glued_eq_join sep ts
theorem join_cons (sep a b : Str) (r : List Str) : Str.join sep (a :: b :: r) = a ++ sep ++ Str.join sep (b :: r) := rfl
theorem str_eq {a b : Str} (h : a.cps.toList = b.cps.toList) : a = b := Str.ext' (Array.toList_inj.mp h)
theorem free_prefix {c : Nat} : ∀ {a b s t : List Nat}, c ∉ a → c ∉ b → a ++ c :: s = b ++ c :: t → a = b ∧ s = t
  | [], [], s, t, _, _, e => ⟨rfl, (List.cons.inj e).2⟩
  | [], y :: b, s, t, _, hb, e => by
    have := (List.cons.inj e).1
    exact absurd (by rw [this]; exact List.mem_cons_self ..) hb
  | x :: a, [], s, t, ha, _, e => by
    have := (List.cons.inj e).1
    exact absurd (by rw [← this]; exact List.mem_cons_self ..) ha
  | x :: a, y :: b, s, t, ha, hb, e => by
    obtain ⟨e1, e2⟩ := List.cons.inj e
    obtain ⟨h1, h2⟩ := free_prefix (fun z => ha (List.mem_cons_of_mem _ z)) (fun z => hb (List.mem_cons_of_mem _ z)) e2
    exact ⟨by rw [e1, h1], h2⟩
theorem join_inj (c : Nat) : ∀ (ps qs : List Str), ps ≠ [] → qs ≠ [] → (∀ p ∈ ps, c ∉ p.cps.toList) → (∀ q ∈ qs, c ∉ q.cps.toList) → Str.join ⟨#[c]⟩ ps = Str.join ⟨#[c]⟩ qs → ps = qs
  | [], _, h, _, _, _, _ => absurd rfl h
  | _, [], _, h, _, _, _ => absurd rfl h
  | [p], [q], _, _, _, _, e => by rw [show p = q from e]
  | [p], q :: q2 :: qs, _, _, hp, _, e => by
    have e' : p = q ++ ⟨#[c]⟩ ++ Str.join ⟨#[c]⟩ (q2 :: qs) := e
    have : c ∈ p.cps.toList := by rw [e', app_cps, app_cps]; simp
    exact absurd this (hp p (List.mem_cons_self ..))
  | p :: p2 :: ps, [q], _, _, _, hq, e => by
    have e' : p ++ ⟨#[c]⟩ ++ Str.join ⟨#[c]⟩ (p2 :: ps) = q := e
    have : c ∈ q.cps.toList := by rw [← e', app_cps, app_cps]; simp
    exact absurd this (hq q (List.mem_cons_self ..))
  | p :: p2 :: ps, q :: q2 :: qs, _, _, hp, hq, e => by
    have e' : p ++ ⟨#[c]⟩ ++ Str.join ⟨#[c]⟩ (p2 :: ps) = q ++ ⟨#[c]⟩ ++ Str.join ⟨#[c]⟩ (q2 :: qs) := e
    have e2 := congrArg (fun s : Str => s.cps.toList) e'
    simp only [app_cps, List.append_assoc] at e2
    have e3 : p.cps.toList ++ c :: (Str.join ⟨#[c]⟩ (p2 :: ps)).cps.toList = q.cps.toList ++ c :: (Str.join ⟨#[c]⟩ (q2 :: qs)).cps.toList := by simpa using e2
    obtain ⟨h1, h2⟩ := free_prefix (hp p (List.mem_cons_self ..)) (hq q (List.mem_cons_self ..)) e3
    rw [str_eq h1, join_inj c (p2 :: ps) (q2 :: qs) (by simp) (by simp) (fun z hz => hp z (List.mem_cons_of_mem _ hz)) (fun z hz => hq z (List.mem_cons_of_mem _ hz)) (str_eq h2)]
theorem split_ne (x y : Str) : Txt.split x y ≠ [] := by
  unfold Txt.split
  split
  · simp
  · split
    · simp
    · unfold Builtin.Str.partsBetween
      intro h
      have := congrArg List.length h
      simp at this
theorem dash_eq : dash = ⟨#[45]⟩ := by decide +kernel
theorem split_join (ws : List Str) (hne : ws ≠ []) (h : ∀ t ∈ ws, (45 : Nat) ∉ t.cps.toList) : Txt.split (Str.join dash ws) dash = ws := by
  rw [dash_eq]
  exact join_inj 45 _ _ (split_ne _ _) hne (StrLaws.split_free _ 45) h (StrLaws.join_split _ _)
end Mi
namespace Mi
open PySem L2
def WSL : List Nat := [97,98,99,100,101,102,103,104,105,106,107,108,109,110,111,112,113,114,115,116,117,118,119,120,121,122,48,49,50,51,52,53,54,55,56,57]
theorem ws_list : ("abcdefghijklmnopqrstuvwxyz0123456789" : Str).cps.toList = WSL := by decide +kernel
theorem sIn_one (c : Nat) : sIn ⟨#[c]⟩ "abcdefghijklmnopqrstuvwxyz0123456789" = decide (c ∈ WSL) := by
  unfold sIn
  rw [StrLaws.found_one, ws_list]
structure Nm (x : Str) : Prop where
  ex : ∃ ws : List Str, ws ≠ [] ∧ x = Str.join dash ws ∧ ∀ t ∈ ws, t ≠ "" ∧ ∀ c ∈ t.cps.toList, c ∈ WSL
  len : x.length ≤ 12
theorem no45 : (45 : Nat) ∉ WSL := by decide
theorem isWord_of {t : Str} (h1 : t ≠ "") (h2 : ∀ c ∈ t.cps.toList, c ∈ WSL) : isWord t = true := by
  unfold isWord
  rw [Bool.and_eq_true]
  refine ⟨?_, ?_⟩
  · rw [Bool.not_eq_true', decide_eq_false_iff_not]
    intro e
    exact h1 (by cases e; rfl)
  · rw [List.all_eq_true]
    intro b hb
    obtain ⟨s, hs, rfl⟩ := List.mem_map.mp hb
    unfold signs at hs
    obtain ⟨c, hc, rfl⟩ := List.mem_map.mp hs
    show sIn ⟨#[c]⟩ _ = true
    rw [sIn_one, decide_eq_true_eq]
    exact h2 c hc
theorem Nm.isName {x : Str} (h : Nm x) : isName x = true := by
  obtain ⟨ws, hne, rfl, hw⟩ := h.ex
  unfold Mi.isName
  have hl := h.len
  rw [if_neg (by rw [decide_eq_true_eq]; omega)]
  have e : Txt.split (Str.join dash ws) "-" = ws := split_join ws hne fun t ht hc => no45 ((hw t ht).2 45 hc)
  rw [e, List.all_eq_true]
  intro b hb
  obtain ⟨t, ht, rfl⟩ := List.mem_map.mp hb
  exact isWord_of (hw t ht).1 (hw t ht).2
theorem Nm.one {x : Str} (h1 : x ≠ "") (h2 : ∀ c ∈ x.cps.toList, c ∈ WSL) (h3 : x.length ≤ 12) : Nm x :=
  ⟨⟨[x], by simp, rfl, fun t ht => by rw [List.mem_singleton.mp ht]; exact ⟨h1, h2⟩⟩, h3⟩
end Mi
namespace Mi
open PySem L2
abbrev L (x : Str) : List Nat := x.cps.toList
def okF : Bool → List Nat → Bool
  | d, [] => !d
  | d, c :: r => if c = 45 then (!d && okF true r) else (decide (c ∈ WSL) && okF false r)
theorem ok_ne {l : List Nat} (h : okF true l = true) : l ≠ [] := fun e => by subst e; simp [okF] at h
theorem ok_app : ∀ (l m : List Nat) (d : Bool), okF d l = true → okF true m = true → okF d (l ++ 45 :: m) = true
  | [], m, d, h, hm => by
    have : d = false := by simpa [okF] using h
    subst this
    show (if (45 : Nat) = 45 then (!false && okF true m) else _) = true
    rw [if_pos rfl, hm]; rfl
  | c :: r, m, d, h, hm => by
    have step : okF d (c :: r) = if c = 45 then (!d && okF true r) else (decide (c ∈ WSL) && okF false r) := rfl
    rw [step] at h
    show (if c = 45 then (!d && okF true (r ++ 45 :: m)) else (decide (c ∈ WSL) && okF false (r ++ 45 :: m))) = true
    by_cases hc : c = 45
    · rw [if_pos hc, Bool.and_eq_true] at h ⊢
      exact ⟨h.1, ok_app r m true h.2 hm⟩
    · rw [if_neg hc, Bool.and_eq_true] at h ⊢
      exact ⟨h.1, ok_app r m false h.2 hm⟩
theorem ok_snoc : ∀ (l : List Nat) (d : Bool) (c : Nat), okF d l = true → c ∈ WSL → okF d (l ++ [c]) = true
  | [], d, c, h, hc => by
    have hc45 : c ≠ 45 := fun e => no45 (e ▸ hc)
    show (if c = 45 then _ else (decide (c ∈ WSL) && okF false [])) = true
    rw [if_neg hc45, decide_eq_true hc]; rfl
  | a :: r, d, c, h, hc => by
    have step : okF d (a :: r) = if a = 45 then (!d && okF true r) else (decide (a ∈ WSL) && okF false r) := rfl
    rw [step] at h
    show (if a = 45 then (!d && okF true (r ++ [c])) else (decide (a ∈ WSL) && okF false (r ++ [c]))) = true
    by_cases ha : a = 45
    · rw [if_pos ha, Bool.and_eq_true] at h ⊢
      exact ⟨h.1, ok_snoc r true c h.2 hc⟩
    · rw [if_neg ha, Bool.and_eq_true] at h ⊢
      exact ⟨h.1, ok_snoc r false c h.2 hc⟩
theorem ok_last : ∀ (l : List Nat) (d : Bool), okF d l = true → l.getLast? ≠ some 45
  | [], _, _, e => by simp at e
  | [a], d, h, e => by
    have : a = 45 := by simpa using e
    subst this
    simp [okF] at h
  | a :: b :: r, d, h, e => by
    rw [List.getLast?_cons_cons] at e
    have step : okF d (a :: b :: r) = if a = 45 then (!d && okF true (b :: r)) else (decide (a ∈ WSL) && okF false (b :: r)) := rfl
    rw [step] at h
    by_cases ha : a = 45
    · rw [if_pos ha, Bool.and_eq_true] at h
      exact ok_last (b :: r) true h.2 e
    · rw [if_neg ha, Bool.and_eq_true] at h
      exact ok_last (b :: r) false h.2 e
def jnL : List (List Nat) → List Nat
  | [] => []
  | [t] => t
  | t :: u :: r => t ++ 45 :: jnL (u :: r)
theorem ok_parts : ∀ (l : List Nat) (d : Bool), okF d l = true → ∃ t ws, l = jnL (t :: ws) ∧ (∀ c ∈ t, c ∈ WSL) ∧ (d = true → t ≠ []) ∧ ∀ u ∈ ws, u ≠ [] ∧ ∀ c ∈ u, c ∈ WSL
  | [], d, h => ⟨[], [], rfl, by simp, fun e => by subst e; simp [okF] at h, by simp⟩
  | c :: r, d, h => by
    have step : okF d (c :: r) = if c = 45 then (!d && okF true r) else (decide (c ∈ WSL) && okF false r) := rfl
    rw [step] at h
    by_cases hc : c = 45
    · rw [if_pos hc, Bool.and_eq_true] at h
      obtain ⟨t, ws, e, h1, h2, h3⟩ := ok_parts r true h.2
      subst hc
      refine ⟨[], t :: ws, by rw [e]; rfl, by simp, fun z => by rw [z] at h; simp at h, fun u hu => ?_⟩
      rcases List.mem_cons.mp hu with rfl | hu
      · exact ⟨h2 rfl, h1⟩
      · exact h3 u hu
    · rw [if_neg hc, Bool.and_eq_true] at h
      obtain ⟨t, ws, e, h1, h2, h3⟩ := ok_parts r false h.2
      refine ⟨c :: t, ws, ?_, ?_, fun _ => by simp, h3⟩
      · rw [e]
        cases ws <;> rfl
      · intro a ha
        rcases List.mem_cons.mp ha with rfl | ha
        · exact of_decide_eq_true h.1
        · exact h1 a ha
def mkS (l : List Nat) : Str := ⟨l.toArray⟩
theorem L_mkS (l : List Nat) : L (mkS l) = l := by simp [mkS, L]
theorem join_mkS : ∀ ws : List (List Nat), L (Str.join dash (ws.map mkS)) = jnL ws
  | [] => by
    show L (Str.join dash []) = []
    decide +kernel
  | [t] => by
    show L (mkS t) = t
    exact L_mkS t
  | t :: u :: r => by
    have ih := join_mkS (u :: r)
    show L (Str.join dash (mkS t :: mkS u :: r.map mkS)) = t ++ 45 :: jnL (u :: r)
    rw [join_cons]
    have ih' : L (Str.join dash (mkS u :: r.map mkS)) = jnL (u :: r) := ih
    show ((mkS t ++ dash) ++ Str.join dash (mkS u :: r.map mkS)).cps.toList = _
    rw [app_cps, app_cps]
    show L (mkS t) ++ L dash ++ L (Str.join dash (mkS u :: r.map mkS)) = _
    rw [ih', L_mkS]
    have : L dash = [45] := by decide +kernel
    rw [this]
    simp
structure Gd (x : Str) : Prop where
  ok : okF true (L x) = true
  len : x.length ≤ 12
theorem Gd.nm {x : Str} (g : Gd x) : Nm x := by
  obtain ⟨t, ws, e, h1, h2, h3⟩ := ok_parts _ _ g.ok
  refine ⟨⟨(t :: ws).map mkS, by simp, ?_, fun u hu => ?_⟩, g.len⟩
  · apply str_eq
    show L x = L (Str.join dash ((t :: ws).map mkS))
    rw [join_mkS, e]
  · obtain ⟨v, hv, rfl⟩ := List.mem_map.mp hu
    have key : v ≠ [] ∧ ∀ c ∈ v, c ∈ WSL := by
      rcases List.mem_cons.mp hv with rfl | hv
      · exact ⟨h2 rfl, h1⟩
      · exact h3 v hv
    refine ⟨fun z => key.1 ?_, fun c hc => key.2 c ?_⟩
    · have : L (mkS v) = L "" := by rw [z]
      rw [L_mkS] at this
      rw [this]
      decide +kernel
    · have : c ∈ L (mkS v) := hc
      rwa [L_mkS] at this
theorem len_L (x : Str) : (L x).length = x.length := by simp [L, Str.length]
theorem rstrip_L (w : Str) : L (Txt.rstripChars w "-") = ((L w).reverse.dropWhile fun c => c == 45).reverse := by
  have hd : ∀ c, (("-" : Str).cps.contains c) = (c == 45) := fun c => by
    have : ("-" : Str).cps = #[45] := by decide +kernel
    rw [this]
    by_cases h : c = 45 <;> simp [h]
  have hf : (("-" : Str).cps.contains) = fun c => c == 45 := funext hd
  unfold Txt.rstripChars
  rw [PyProof.Rows.stripBy_eq, hf]
  have e0 : stripLo (fun c => c == 45) false w = 0 := rfl
  rw [e0]
  have e1 : stripHi (fun c => c == 45) true w 0 = w.length - ((L w).reverse.takeWhile fun c => c == 45).length := by
    unfold stripHi
    rw [if_pos rfl, List.drop_zero]
  rw [e1, PyProof.Rows.strSub_mk]
  show ((L w).drop 0).take (w.length - ((L w).reverse.takeWhile fun c => c == 45).length - 0) = _
  rw [List.drop_zero, Nat.sub_zero]
  have e2 := List.takeWhile_append_dropWhile (p := fun c => c == 45) (l := (L w).reverse)
  have e3 : L w = ((L w).reverse.dropWhile fun c => c == 45).reverse ++ ((L w).reverse.takeWhile fun c => c == 45).reverse := by
    rw [← List.reverse_append, e2, List.reverse_reverse]
  have e4 : w.length - ((L w).reverse.takeWhile fun c => c == 45).length = ((L w).reverse.dropWhile fun c => c == 45).reverse.length := by
    have := congrArg List.length e2
    rw [List.length_append, List.length_reverse, len_L] at this
    rw [List.length_reverse]
    omega
  rw [e4]
  have key : ∀ l A B : List Nat, l = A ++ B → l.take A.length = A := fun l A B h => by rw [h, List.take_left]
  exact key _ _ _ e3
theorem rstrip_cut {l : List Nat} {d : Bool} (h : okF d l = true) : (l.reverse.dropWhile fun c => c == 45).reverse = l ∧ ((l ++ [45]).reverse.dropWhile fun c => c == 45).reverse = l := by
  have key : (l.reverse.dropWhile fun c => c == 45) = l.reverse := by
    cases hr : l.reverse with
    | nil => rfl
    | cons a r =>
      have hl : l.getLast? = some a := by
        rw [List.getLast?_eq_head?_reverse, hr]
        rfl
      have ha : a ≠ 45 := fun e => ok_last l d h (by rw [hl, e])
      rw [List.dropWhile_cons_of_neg (by simpa using ha)]
  refine ⟨by rw [key, List.reverse_reverse], ?_⟩
  rw [List.reverse_append]
  show (List.dropWhile (fun c => c == 45) (45 :: l.reverse)).reverse = l
  rw [List.dropWhile_cons_of_pos (by rfl), key, List.reverse_reverse]
end Mi
namespace Mi
open PySem L2
theorem isWord_to {t : Str} (h : isWord t = true) : t ≠ "" ∧ ∀ c ∈ t.cps.toList, c ∈ WSL := by
  unfold isWord at h
  rw [Bool.and_eq_true, Bool.not_eq_true', decide_eq_false_iff_not, List.all_eq_true] at h
  refine ⟨fun e => h.1 (by rw [e]), fun c hc => ?_⟩
  have := h.2 (sIn ⟨#[c]⟩ "abcdefghijklmnopqrstuvwxyz0123456789") (List.mem_map.mpr ⟨⟨#[c]⟩, by unfold signs; exact List.mem_map.mpr ⟨c, hc, rfl⟩, rfl⟩)
  have this' : sIn ⟨#[c]⟩ "abcdefghijklmnopqrstuvwxyz0123456789" = true := this
  rw [sIn_one, decide_eq_true_eq] at this'
  exact this'
theorem isName_nm {x : Str} (h : isName x = true) : Nm x := by
  unfold Mi.isName at h
  split at h
  · cases h
  · rename_i hl
    rw [decide_eq_true_eq] at hl
    rw [List.all_eq_true] at h
    refine ⟨⟨Txt.split x "-", split_ne x "-", (StrLaws.join_split x dash).symm, fun t ht => isWord_to (h (isWord t) (List.mem_map.mpr ⟨t, ht, rfl⟩))⟩, by omega⟩
def isTitle (x : Str) : Bool := decide (1 ≤ x.length) && decide (x.length ≤ 30) && !decide ((L x).head? = some 32) && !decide ((L x).getLast? = some 32)
theorem drop_all_iff (p : Nat → Bool) (l : List Nat) (h : l ≠ []) : ((l.takeWhile p).length = 0 ∧ ((l.drop 0).reverse.takeWhile p).length = 0) ↔ (∀ a, l.head? = some a → p a = false) ∧ ∀ a, l.getLast? = some a → p a = false := by
  have one : ∀ m : List Nat, (m.takeWhile p).length = 0 ↔ ∀ a, m.head? = some a → p a = false := fun m => by
    cases m with
    | nil => simp
    | cons a r =>
      rw [List.takeWhile_cons]
      cases hp : p a <;> simp [hp]
  rw [one, one, List.drop_zero, List.head?_reverse]
theorem strip_same (x : Str) (h : 1 ≤ x.length) : decide (V.str x = V.str (Txt.stripChars x " ")) = (!decide ((L x).head? = some 32) && !decide ((L x).getLast? = some 32)) := by
  have hb : ∀ c, ((" " : Str).cps.contains c) = (c == 32) := fun c => by
    have : (" " : Str).cps = #[32] := by decide +kernel
    rw [this]
    by_cases h : c = 32 <;> simp [h]
  have hf : ((" " : Str).cps.contains) = fun c => c == 32 := funext hb
  have hlen : (L x).length = x.length := len_L x
  have hne : L x ≠ [] := fun e => by rw [e] at hlen; simp at hlen; omega
  have key := drop_all_iff (fun c => c == 32) (L x) hne
  have e1 : Txt.stripChars x " " = Builtin.Str.strSub x (stripLo (fun c => c == 32) true x) (stripHi (fun c => c == 32) true x (stripLo (fun c => c == 32) true x)) := by
    unfold Txt.stripChars
    rw [PyProof.Rows.stripBy_eq, hf]
  have e2 : stripLo (fun c => c == 32) true x = ((L x).takeWhile fun c => c == 32).length := rfl
  rw [e1, e2]
  have e3 : ∀ lo, stripHi (fun c => c == 32) true x lo = x.length - (((L x).drop lo).reverse.takeWhile fun c => c == 32).length := fun lo => by
    unfold stripHi
    rw [if_pos rfl]
  rw [e3]
  by_cases c : ((L x).takeWhile fun c => c == 32).length = 0 ∧ (((L x).drop 0).reverse.takeWhile fun c => c == 32).length = 0
  · obtain ⟨a1, a2⟩ := key.mp c
    rw [c.1, c.2]
    have : Builtin.Str.strSub x 0 (x.length - 0) = x := by
      rw [PyProof.Rows.strSub_mk]
      apply str_eq
      show ((L x).drop 0).take (x.length - 0 - 0) = L x
      rw [List.drop_zero, List.take_of_length_le (by rw [hlen]; omega)]
    rw [this]
    have b1 : ¬ (L x).head? = some 32 := fun e => by have := a1 32 e; simp at this
    have b2 : ¬ (L x).getLast? = some 32 := fun e => by have := a2 32 e; simp at this
    rw [decide_eq_true rfl, decide_eq_false b1, decide_eq_false b2]
    rfl
  · have hlt : ∀ lo hi : Nat, (0 < lo ∨ hi < x.length) → ¬ V.str x = V.str (Builtin.Str.strSub x lo hi) := fun lo hi hh e => by
      have e' : x = Builtin.Str.strSub x lo hi := by injection e
      have := congrArg (fun z => (L z).length) e'
      rw [PyProof.Rows.strSub_mk] at this
      have this' : (L x).length = (((L x).drop lo).take (hi - lo)).length := this
      rw [List.length_take, List.length_drop, hlen] at this'
      omega
    rw [decide_eq_false]
    · have : ¬ ((∀ a, (L x).head? = some a → (fun c => c == 32) a = false) ∧ ∀ a, (L x).getLast? = some a → (fun c => c == 32) a = false) := fun z => c (key.mpr z)
      by_cases b1 : (L x).head? = some 32
      · rw [decide_eq_true b1]; rfl
      · by_cases b2 : (L x).getLast? = some 32
        · rw [decide_eq_true b2, decide_eq_false b1]; rfl
        · exfalso
          apply this
          refine ⟨fun a ha => ?_, fun a ha => ?_⟩
          · show (a == 32) = false
            rw [beq_eq_false_iff_ne]; intro e; exact b1 (e ▸ ha)
          · show (a == 32) = false
            rw [beq_eq_false_iff_ne]; intro e; exact b2 (e ▸ ha)
    · apply hlt
      by_cases c0 : ((L x).takeWhile fun c => c == 32).length = 0
      · have c1 : (((L x).drop 0).reverse.takeWhile fun c => c == 32).length ≠ 0 := fun z => c ⟨c0, z⟩
        rw [c0]
        exact .inr (by omega)
      · exact .inl (by omega)
end Mi
namespace Co
open PySem L2 Mi
abbrev spWord : Sp := sp1 (fun x => x.length ≤ 1000) fun x => .bl (isWord x)
def nmV : V → Bool
  | .str x => isName x
  | _ => false
def ttV : V → Bool
  | .str x => isTitle x
  | _ => false
def adL (xs : List V) : Bool := decide (1 ≤ xs.length) && decide (xs.length ≤ 4) && (xs.map nmV).all id
def spNameV (K : PySem.W.Frag) : Sp := fun vs H Q _ => ∃ v, vs = [v] ∧ Thg0 K H v ∧ ∀ H', Same H H' → Q (.bl (nmV v)) H'
def spTitleV (K : PySem.W.Frag) : Sp := fun vs H Q _ => ∃ v, vs = [v] ∧ Thg0 K H v ∧ ∀ H', Same H H' → Q (.bl (ttV v)) H'
def spAddr (K : PySem.W.Frag) : Sp := fun vs H Q _ => ∃ v, vs = [v] ∧ ((∃ a xs, v = .ref a ∧ SqT K H a xs ∧ xs.length ≤ 1000 ∧ (∀ x ∈ xs, Thg0 K H x) ∧ ∀ H', Same H H' → Q (.bl (adL xs)) H') ∨ (NoT H v ∧ ∀ H', Same H H' → Q (.bl false) H'))
end Co
namespace Mi
open PySem L2
theorem slash_eq : ("/" : Str) = ⟨#[47]⟩ := by decide +kernel
theorem blank_eq : (" " : Str) = ⟨#[32]⟩ := by decide +kernel
theorem join_has (sep : Str) (c : Nat) : ∀ (ws : List Str), c ∈ (Str.join sep ws).cps.toList → c ∈ sep.cps.toList ∨ ∃ t ∈ ws, c ∈ t.cps.toList
  | [], h => by
    have e : (Str.join sep []).cps.toList = [] := rfl
    rw [e] at h
    simp at h
  | [t], h => .inr ⟨t, List.mem_singleton.mpr rfl, h⟩
  | t :: u :: r, h => by
    rw [join_cons, app_cps, app_cps, List.mem_append, List.mem_append] at h
    rcases h with (h | h) | h
    · exact .inr ⟨t, List.mem_cons_self .., h⟩
    · exact .inl h
    · rcases join_has sep c (u :: r) h with h | ⟨v, hv, h⟩
      · exact .inl h
      · exact .inr ⟨v, List.mem_cons_of_mem _ hv, h⟩
theorem name_signs {x : Str} (h : isName x = true) {c : Nat} (hc : c ∈ x.cps.toList) : c ∈ WSL ∨ c = 45 := by
  obtain ⟨ws, _, e, hw⟩ := (isName_nm h).ex
  rw [e] at hc
  rcases join_has dash c ws hc with h | ⟨t, ht, h⟩
  · right
    rw [dash_eq] at h
    simpa using h
  · exact .inl ((hw t ht).2 c h)
def okA (u : List Str) : Bool := decide (1 ≤ u.length) && decide (u.length ≤ 4) && (u.map isName).all id
theorem okA_iff {u : List Str} : okA u = true ↔ 1 ≤ u.length ∧ u.length ≤ 4 ∧ ∀ t ∈ u, isName t = true := by
  unfold okA
  rw [Bool.and_eq_true, Bool.and_eq_true, decide_eq_true_eq, decide_eq_true_eq, List.all_eq_true]
  constructor
  · rintro ⟨⟨h1, h2⟩, h3⟩
    exact ⟨h1, h2, fun t ht => h3 _ (List.mem_map.mpr ⟨t, ht, rfl⟩)⟩
  · rintro ⟨h1, h2, h3⟩
    refine ⟨⟨h1, h2⟩, fun b hb => ?_⟩
    obtain ⟨t, ht, rfl⟩ := List.mem_map.mp hb
    exact h3 t ht
theorem name_len {x : Str} (h : isName x = true) : x.length ≤ 12 := (isName_nm h).len
def adX (u : List Str) : Str := Txt.join "/" u
def lnX (r : Rl) : Str := adX r.1 ++ " " ++ adX r.2
theorem adX_signs {u : List Str} (h : okA u = true) {c : Nat} (hc : c ∈ (adX u).cps.toList) : c ∈ WSL ∨ c = 45 ∨ c = 47 := by
  unfold adX at hc
  rw [txt_join] at hc
  rcases join_has _ c u hc with h' | ⟨t, ht, h'⟩
  · rw [slash_eq] at h'
    exact .inr (.inr (by simpa using h'))
  · rcases name_signs ((okA_iff.mp h).2.2 t ht) h' with h | h
    · exact .inl h
    · exact .inr (.inl h)
theorem adX_no {u : List Str} (h : okA u = true) {c : Nat} (h1 : c ∉ WSL) (h2 : c ≠ 45) (h3 : c ≠ 47) : c ∉ (adX u).cps.toList := fun hc => by
  rcases adX_signs h hc with z | z | z
  · exact h1 z
  · exact h2 z
  · exact h3 z
theorem lnX_no {r : Rl} (h1 : okA r.1 = true) (h2 : okA r.2 = true) : (10 : Nat) ∉ (lnX r).cps.toList := by
  unfold lnX
  rw [app_cps, app_cps, List.mem_append, List.mem_append]
  rintro ((h | h) | h)
  · exact adX_no h1 (by decide) (by decide) (by decide) h
  · rw [blank_eq] at h; simp at h
  · exact adX_no h2 (by decide) (by decide) (by decide) h
def GoodR (R : List Rl) : Prop := ∀ r ∈ R, okA r.1 = true ∧ okA r.2 = true
theorem GoodR.no {R : List Rl} (h : GoodR R) : ∀ t ∈ R.map lnX, (10 : Nat) ∉ t.cps.toList := fun t ht => by
  obtain ⟨r, hr, rfl⟩ := List.mem_map.mp ht
  exact lnX_no (h r hr).1 (h r hr).2
theorem len_blank : (" " : Str).length = 1 := by decide +kernel
end Mi
namespace Co
open PySem L2 Mi
theorem ifN {c A B : Prop} [Decidable c] (hc : c) (h : B) : if (!decide c) = true then A else B := by
  rw [decide_eq_true hc]
  exact iteF h
theorem ifY {c A B : Prop} [Decidable c] (hc : ¬ c) (h : A) : if (!decide c) = true then A else B := by
  rw [decide_eq_false hc]
  exact iteT h
inductive Thing where
  | oth
  | txt (x : Str)
  | tup (ts : List Thing)
mutual
def IsTh (K : PySem.W.Frag) (H : Hp) : Thing → V → Prop
  | .oth, v => v = .non ∨ (∃ i, v = .int i) ∨ (∃ b, v = .bl b) ∨ ∃ a xs, v = .ref a ∧ H a = some (.lst xs)
  | .txt x, v => v = .str x ∧ x.length ≤ 1000
  | .tup ts, v => ∃ a xs, v = .ref a ∧ SqT K H a xs ∧ xs.length ≤ 1000 ∧ AreTh K H ts xs
def AreTh (K : PySem.W.Frag) (H : Hp) : List Thing → List V → Prop
  | [], xs => xs = []
  | t :: ts, xs => ∃ y ys, xs = y :: ys ∧ IsTh K H t y ∧ AreTh K H ts ys
end
mutual
theorem IsTh.same {K : PySem.W.Frag} {H H' : Hp} (s : Same H H') : ∀ {t : Thing} {x : V}, IsTh K H t x → IsTh K H' t x
  | .oth, _, h => by
    rcases h with h | h | h | ⟨a, xs, e, h⟩
    · exact .inl h
    · exact .inr (.inl h)
    · exact .inr (.inr (.inl h))
    · exact .inr (.inr (.inr ⟨a, xs, e, s _ _ h⟩))
  | .txt _, _, h => h
  | .tup _, _, ⟨a, xs, e, h, hl, hx⟩ => ⟨a, xs, e, s.tup h, hl, AreTh.same s hx⟩
theorem AreTh.same {K : PySem.W.Frag} {H H' : Hp} (s : Same H H') : ∀ {ts : List Thing} {xs : List V}, AreTh K H ts xs → AreTh K H' ts xs
  | [], _, h => h
  | _ :: _, _, ⟨y, ys, e, h1, h2⟩ => ⟨y, ys, e, IsTh.same s h1, AreTh.same s h2⟩
end
theorem AreTh.length {K : PySem.W.Frag} {H : Hp} : ∀ {ts : List Thing} {xs : List V}, AreTh K H ts xs → xs.length = ts.length
  | [], _, h => by rw [show _ = [] from h]; rfl
  | _ :: _, _, ⟨y, ys, e, _, h2⟩ => by rw [e, List.length_cons, List.length_cons, AreTh.length h2]
theorem AreTh.zip {K : PySem.W.Frag} {H : Hp} : ∀ {ts : List Thing} {xs : List V}, AreTh K H ts xs → ∃ rs : List (V × Thing), rs.map (·.1) = xs ∧ rs.map (·.2) = ts ∧ ∀ r ∈ rs, IsTh K H r.2 r.1
  | [], _, h => ⟨[], (show _ = [] from h).symm, rfl, fun r hr => nomatch hr⟩
  | t :: _, _, ⟨y, ys, e, h1, h2⟩ => by
    obtain ⟨rs, e1, e2, e3⟩ := AreTh.zip h2
    refine ⟨(y, t) :: rs, by rw [e, List.map_cons, e1], by rw [List.map_cons, e2], fun r hr => ?_⟩
    rcases List.mem_cons.mp hr with rfl | hr
    · exact h1
    · exact e3 r hr
theorem AreTh.of {K : PySem.W.Frag} {H : Hp} {α : Type} (f : α → Thing) (g : α → V) : ∀ (L : List α), (∀ x ∈ L, IsTh K H (f x) (g x)) → AreTh K H (L.map f) (L.map g)
  | [], _ => rfl
  | x :: L, h => ⟨g x, L.map g, rfl, h x (List.mem_cons_self ..), AreTh.of f g L fun y hy => h y (List.mem_cons_of_mem _ hy)⟩
theorem IsTh.noT {K : PySem.W.Frag} {H : Hp} {v : V} : ∀ {t : Thing}, IsTh K H t v → (∀ ts, t ≠ .tup ts) → NoT H v
  | .oth, h, _ => by
    rcases h with h | h | h | h
    · exact .inr (.inl h)
    · exact .inr (.inr (.inl h))
    · exact .inr (.inr (.inr (.inl h)))
    · exact .inr (.inr (.inr (.inr h)))
  | .txt x, h, _ => .inl ⟨x, h.1, h.2⟩
  | .tup ts, _, h => absurd rfl (h ts)
theorem IsTh.thg0 {K : PySem.W.Frag} {H : Hp} {v : V} : ∀ {t : Thing}, IsTh K H t v → Thg0 K H v
  | .oth, h => (IsTh.noT (K := K) (t := .oth) h (fun _ e => nomatch e)).thg
  | .txt _, h => (IsTh.noT (K := K) h (fun _ e => nomatch e)).thg
  | .tup _, ⟨a, xs, e, h, _, _⟩ => .inr (.inr (.inr (.inr (.inl ⟨a, xs, e, h⟩))))
def nmT : Thing → Bool
  | .txt x => isName x
  | _ => false
theorem nmT_eq {K : PySem.W.Frag} {H : Hp} {v : V} : ∀ {t : Thing}, IsTh K H t v → nmV v = nmT t
  | .oth, h => by
    rcases h with rfl | ⟨i, rfl⟩ | ⟨b, rfl⟩ | ⟨a, xs, rfl, _⟩ <;> rfl
  | .txt _, h => by rw [h.1]; rfl
  | .tup _, ⟨a, xs, e, _⟩ => by rw [e]; rfl
def okT : Thing → Bool
  | .tup ts => decide (1 ≤ ts.length) && decide (ts.length ≤ 4) && (ts.map nmT).all id
  | _ => false
theorem adL_eq {K : PySem.W.Frag} {H : Hp} {ts : List Thing} {xs : List V} (h : AreTh K H ts xs) : adL xs = okT (.tup ts) := by
  unfold adL okT
  rw [h.length]
  have : xs.map nmV = ts.map nmT := by
    obtain ⟨rs, rfl, rfl, e3⟩ := h.zip
    rw [List.map_map, List.map_map]
    exact List.map_congr_left fun r hr => nmT_eq (e3 r hr)
  rw [this]
theorem AreTh.thg0 {K : PySem.W.Frag} {H : Hp} {ts : List Thing} {xs : List V} (h : AreTh K H ts xs) : ∀ x ∈ xs, Thg0 K H x := by
  obtain ⟨rs, rfl, _, e3⟩ := h.zip
  intro x hx
  obtain ⟨r, hr, rfl⟩ := List.mem_map.mp hx
  exact (e3 r hr).thg0
theorem addr_at {K : PySem.W.Frag} {H : Hp} {v : V} {t : Thing} {Q : VK} {E : XK} (h : IsTh K H t v) (q : ∀ H', Same H H' → Q (.bl (okT t)) H') : spAddr K [v] H Q E := by
  refine ⟨v, rfl, ?_⟩
  cases t with
  | oth => exact .inr ⟨IsTh.noT (K := K) (t := .oth) h (fun _ e => nomatch e), q⟩
  | txt x => exact .inr ⟨IsTh.noT (K := K) (t := .txt x) h (fun _ e => nomatch e), q⟩
  | tup ts =>
    obtain ⟨a, xs, e, hq, hl, hx⟩ := h
    refine .inl ⟨a, xs, e, hq, hl, hx.thg0, ?_⟩
    rw [adL_eq hx]
    exact q
def txtT : Thing → Str
  | .txt x => x
  | _ => ""
def keyT : Thing → List Str
  | .tup ts => ts.map txtT
  | _ => []
def fstT : Thing → Thing
  | .tup (a :: _) => a
  | _ => .oth
def rowT : Thing → Bool
  | .tup [a, b] => okT a && okT b
  | _ => false
def areT : Thing → Bool
  | .tup ts => (ts.map rowT).all id && decide ((ts.map fun t => keyT (fstT t)).Nodup)
  | _ => false
theorem okT_strs {K : PySem.W.Frag} {H : Hp} {v : V} {t : Thing} (h : IsTh K H t v) (ok : okT t = true) : ∃ a, v = .ref a ∧ SqT K H a ((keyT t).map V.str) ∧ okA (keyT t) = true := by
  cases t with
  | oth => cases ok
  | txt x => cases ok
  | tup ts =>
    obtain ⟨a, xs, e, hq, hl, hx⟩ := h
    unfold okT at ok
    rw [Bool.and_eq_true, Bool.and_eq_true, decide_eq_true_eq, decide_eq_true_eq, List.all_eq_true] at ok
    have hn : ∀ t ∈ ts, nmT t = true := fun t ht => ok.2 _ (List.mem_map.mpr ⟨t, ht, rfl⟩)
    have exs : xs = (ts.map txtT).map V.str := by
      obtain ⟨rs, rfl, rfl, e3⟩ := hx.zip
      rw [List.map_map, List.map_map]
      refine List.map_congr_left fun r hr => ?_
      have h1 := e3 r hr
      have h2 := hn r.2 (List.mem_map.mpr ⟨r, hr, rfl⟩)
      obtain ⟨v, t⟩ := r
      cases t with
      | oth => cases h2
      | txt x => exact h1.1
      | tup _ => cases h2
    refine ⟨a, e, by rw [show keyT (.tup ts) = ts.map txtT from rfl, ← exs]; exact hq, okA_iff.mpr ⟨by show 1 ≤ (ts.map txtT).length; rw [List.length_map]; exact ok.1.1, by show (ts.map txtT).length ≤ 4; rw [List.length_map]; exact ok.1.2, fun x hx => ?_⟩⟩
    obtain ⟨t, ht, rfl⟩ := List.mem_map.mp (show x ∈ ts.map txtT from hx)
    have h2 := hn t ht
    cases t with
    | oth => cases h2
    | txt x => exact h2
    | tup _ => cases h2
def adD (u : List Str) : Thing := .tup (u.map Thing.txt)
theorem keyT_ad (u : List Str) : keyT (adD u) = u := by
  show (u.map Thing.txt).map txtT = u
  rw [List.map_map]
  exact List.map_id'' (fun _ => rfl) u
theorem okT_ad (u : List Str) : okT (adD u) = okA u := by
  unfold okT adD okA
  simp only
  rw [List.length_map, List.map_map]
  rfl
theorem isTh_ad {K : PySem.W.Frag} {H : Hp} {a : Addr} {u : List Str} (h : SqT K H a (u.map V.str)) (hl : u.length ≤ 1000) (hs : ∀ t ∈ u, t.length ≤ 1000) : IsTh K H (adD u) (.ref a) :=
  ⟨a, _, rfl, h, by rw [List.length_map]; exact hl, AreTh.of Thing.txt V.str u fun x hx => ⟨rfl, hs x hx⟩⟩
def rlD (r : Rl) : Thing := .tup [adD r.1, adD r.2]
theorem rowT_rl (r : Rl) : rowT (rlD r) = (okA r.1 && okA r.2) := by
  show (okT (adD r.1) && okT (adD r.2)) = _
  rw [okT_ad, okT_ad]
theorem areT_rls {R : List Rl} (h : GoodR R) : areT (.tup (R.map rlD)) = decide ((R.map (·.1)).Nodup) := by
  have e1 : ((R.map rlD).map rowT).all id = true := by
    rw [List.all_eq_true]
    intro b hb
    obtain ⟨t, ht, rfl⟩ := List.mem_map.mp hb
    obtain ⟨r, hr, rfl⟩ := List.mem_map.mp ht
    show rowT (rlD r) = true
    rw [rowT_rl, (h r hr).1, (h r hr).2]
    rfl
  have e2 : (R.map rlD).map (fun t => keyT (fstT t)) = R.map (·.1) := by
    rw [List.map_map]
    exact List.map_congr_left fun r _ => keyT_ad r.1
  show (((R.map rlD).map rowT).all id && decide (((R.map rlD).map fun t => keyT (fstT t)).Nodup)) = _
  rw [e1]
  simp only [e2, Bool.true_and]
theorem okA_len {u : List Str} (h : okA u = true) : u.length ≤ 1000 ∧ ∀ t ∈ u, t.length ≤ 1000 := by
  obtain ⟨_, h2, h3⟩ := okA_iff.mp h
  exact ⟨by omega, fun t ht => by have := name_len (h3 t ht); omega⟩
theorem isTh_rl {K : PySem.W.Frag} {H : Hp} {x : Rx} (h : RlH H x) (h1 : okA x.2.2.2.1 = true) (h2 : okA x.2.2.2.2 = true) : IsTh K H (rlD x.2.2.2) (.ref x.1) :=
  ⟨x.1, _, rfl, SqT.of h.1, (show 2 ≤ 1000 by decide), _, _, rfl, isTh_ad (SqT.of h.2.1) (okA_len h1).1 (okA_len h1).2, _, _, rfl, isTh_ad (SqT.of h.2.2) (okA_len h2).1 (okA_len h2).2, rfl⟩
theorem isTh_rls {K : PySem.W.Frag} {H : Hp} {p : Addr} {rs : List Rx} (hp : SqT K H p (rrefs rs)) (hin : RlsIn H rs) (hg : GoodR (rs.map (·.2.2.2))) (hl : rs.length ≤ 1000) : IsTh K H (.tup ((rs.map (·.2.2.2)).map rlD)) (.ref p) := by
  refine ⟨p, _, rfl, hp, by unfold rrefs; rw [List.length_map]; exact hl, ?_⟩
  rw [List.map_map]
  exact AreTh.of _ _ rs fun x hx => isTh_rl (hin x hx) (hg _ (List.mem_map.mpr ⟨x, hx, rfl⟩)).1 (hg _ (List.mem_map.mpr ⟨x, hx, rfl⟩)).2
theorem rows_keys {K : PySem.W.Frag} {H : Hp} : ∀ {rs : List (V × Thing)}, (∀ r ∈ rs, IsTh K H r.2 r.1) → (∀ r ∈ rs, rowT r.2 = true) →
    ∃ qs : List (Addr × V × Addr × List Str), (qs.map fun q => V.ref q.1) = rs.map (·.1) ∧ (∀ q ∈ qs, SqT K H q.1 [.ref q.2.2.1, q.2.1] ∧ SqT K H q.2.2.1 (q.2.2.2.map V.str)) ∧ (qs.map fun q => q.2.2.2) = rs.map fun r => keyT (fstT r.2)
  | [], _, _ => ⟨[], rfl, (fun q hq => nomatch hq), rfl⟩
  | (v, t) :: rs, h1, h2 => by
    obtain ⟨qs, e1, e2, e3⟩ := rows_keys (fun r hr => h1 r (List.mem_cons_of_mem _ hr)) (fun r hr => h2 r (List.mem_cons_of_mem _ hr))
    have th := h1 (v, t) (List.mem_cons_self ..)
    have ok := h2 (v, t) (List.mem_cons_self ..)
    dsimp only at th ok
    cases t with
    | oth => cases ok
    | txt x => cases ok
    | tup ts =>
      cases ts with
      | nil => cases ok
      | cons t1 r => cases r with
        | nil => cases ok
        | cons t2 r => cases r with
          | cons _ _ => cases ok
          | nil =>
            obtain ⟨p, xs, rfl, hq, hl, x, _, rfl, th1, y, _, rfl, th2, e⟩ := th
            have e' : _ = [] := e
            subst e'
            have ok' : (okT t1 && okT t2) = true := ok
            rw [Bool.and_eq_true] at ok'
            obtain ⟨a, rfl, ha, _⟩ := okT_strs th1 ok'.1
            refine ⟨(p, y, a, keyT t1) :: qs, by rw [List.map_cons, List.map_cons, e1], fun q hq' => ?_, by rw [List.map_cons, List.map_cons, e3]; rfl⟩
            rcases List.mem_cons.mp hq' with rfl | hq'
            · exact ⟨hq, ha⟩
            · exact e2 q hq'
def spRow (K : PySem.W.Frag) : Sp := fun vs H Q _ => ∃ v t, vs = [v] ∧ IsTh K H t v ∧ ∀ H', Same H H' → Q (.bl (rowT t)) H'
def spAre (K : PySem.W.Frag) : Sp := fun vs H Q _ => ∃ v t, vs = [v] ∧ IsTh K H t v ∧ (∀ ts, t = .tup ts → (∀ x ∈ ts, rowT x = true) → ts.length ≤ 18) ∧ ∀ H', Same H H' → Q (.bl (areT t)) H'
end Co
namespace Co
open PySem L2 Mi
structure DRp (n : Nat) (Pr : List Str → Prop) (H : Hp) (kvs : List (List Key × V)) (us : List (List Str)) : Prop where
  keys : kvs.map (·.1) = us.map fun t => t.map Sum.inr
  nd : us.Nodup
  len : us.length ≤ n
  short : ∀ u ∈ us, Pr u
  vals : ∀ z ∈ kvs, ∃ q v, z.2 = .ref q ∧ TupA H q v ∧ Pr v
theorem DRp.ts {n : Nat} {Pr : List Str → Prop} {H H' : Hp} {kvs : List (List Key × V)} {us : List (List Str)} (h : DRp n Pr H kvs us) (t : TS' H H') : DRp n Pr H' kvs us := ⟨h.keys, h.nd, h.len, h.short, fun z hz => let ⟨q, v, e, hq, hl⟩ := h.vals z hz; ⟨q, v, e, t _ _ hq, hl⟩⟩
theorem DRp.put {n : Nat} {Pr : List Str → Prop} {H : Hp} {kvs : List (List Key × V)} {us : List (List Str)} (h : DRp n Pr H kvs us) {u v : List Str} {q : Addr} (hu : Pr u) (hq : TupA H q v) (hv : Pr v) : ∃ us', DRp (n + 1) Pr H (putK kvs (u.map Sum.inr) (.ref q)) us' := by
  refine ⟨_, putKT_keys h.keys, ?_, ?_, fun x hx => ?_, fun z hz => ?_⟩
  · split
    · exact h.nd
    · rename_i hn
      rw [List.nodup_append]
      exact ⟨h.nd, by simp, fun y hy z hz e => hn (by rw [List.mem_singleton.mp hz] at e; exact e ▸ hy)⟩
  · have := h.len
    split
    · omega
    · rw [List.length_append, List.length_singleton]; omega
  · split at hx
    · exact h.short x hx
    · rcases List.mem_append.mp hx with hx | hx
      · exact h.short x hx
      · rw [List.mem_singleton.mp hx]; exact hu
  · rcases putK_val hz with e | ⟨y, hy, e⟩
    · exact ⟨q, v, e, hq, hv⟩
    · obtain ⟨q', v', e', r⟩ := h.vals y hy
      exact ⟨q', v', e.symm.trans e', r⟩
end Co
namespace L2
open PySem PySem.Spec PyProof.Rows
def rAddS : R2 := fun x y H Q => ∃ i j, x = .str i ∧ y = .str j ∧ i.length + j.length ≤ sizeLine ∧ Q (.str (i ++ j)) H
theorem op_addS {X : Cx} : OpR X (binaryOp .Add) rAddS := op_add_str
end L2
namespace Co
open PySem L2 Mi
def eltsT : Expr → List Expr
  | .Tuple es _ _ => es
  | _ => []
def isTupE : Expr → Bool
  | .Tuple _ _ _ => true
  | _ => false
end Co
namespace HD
open PySem
open Sem (wp)
section
variable {prog : Program} {w : World} {A : Around} {E : Value → Shared → Prop} {s : Shared}
theorem meets_lenR (d : Addr) (hd : (d == sysModules) = false) :
    MeetsIn prog w (Builtin.«dict.__len__» ⟨[.ref d], []⟩) (fun _ R s => ∃ o es ep, s.heap.get? d = some o ∧ o.data = .dict es ep ∧ R (.ok (.ret (.int es.size s.toks))) { s with toks := s.toks + 1 }) :=
  .of_wp fun A R s ⟨o, es, ep, ho, hdat, h⟩ => by
    show wpAny _ _ (dictSize d >>= _) _ _ s
    unfold dictSize
    refine wpAny_bind (wpAny_bind (wpAny_dictEntries ho hdat (wpAny_pure ?_)))
    show wpAny _ _ (Builtin.Dict.pendingCount d >>= _) _ _ s
    refine wpAny_bind (wpAny_pendingCount_other hd ?_)
    refine wpAny_ret_mkInt ?_
    rw [Nat.add_zero]; exact h
theorem len_bodyR {d : Addr} {o : Obj} {es : Array DictEntry} {ep : Nat} {Q : Value → Shared → Prop} (hd : (d == sysModules) = false) (ho : s.heap.get? d = some o) (hc : o.cls = .type "dict") (hdat : o.data = .dict es ep) (hfit : (es.size : Int) < 2 ^ 63)
    (h : Q (.int es.size (s.toks + 1)) { s with toks := s.toks + 1 + 1 }) : wpAny (model prog w) A (Builtin.«len» ⟨[.ref d], []⟩) (fun fin s' => ∃ r, fin = .done (.ret r) ∧ Q r s') E s := by
  have ty : s.TypeIs (.ref d) "dict" := ⟨o, ho, hc⟩
  unfold Builtin.«len»
  refine wpAny_bind (m := oneArg "len" _) (wpAny_pure ?_)
  refine wpAny_bind (m := callSpecial? (.ref d) (Str.ofString "__len__")) (wpAny_callSpecial?_slot (name := Str.ofString "__len__") ty F.slot_dict_len
    (call_meetsIn F.slot_dict_len ty F.entry_dict_len (F.args_dict_len_1 _) (meets_lenR d hd) ⟨o, es, ep, ho, hdat, ?_⟩))
  show wpAny _ _ _ _ _ { s with toks := s.toks + 1 }
  refine wpAny_bind (wpAny_holding (wpAny_pure ?_))
  refine wpAny_bind (wpAny_letGo ?_)
  show wpAny _ _ (if ((es.size : Nat) : Int) < 0 then _ else _) _ _ _
  rw [if_neg (by omega)]
  show wpAny _ _ (if ((es.size : Nat) : Int) ≥ 2 ^ 63 then _ else _) _ _ _
  rw [if_neg (by omega)]
  exact wpAny_bind (wpAny_mkInt (wpAny_pure ⟨_, rfl, h⟩))
theorem call_lenR {d : Addr} {o : Obj} {es : Array DictEntry} {ep : Nat} {Q : Value → Shared → Prop} (hd : (d == sysModules) = false) (ho : s.heap.get? d = some o) (hc : o.cls = .type "dict") (hdat : o.data = .dict es ep) (hfit : (es.size : Int) < 2 ^ 63)
    (h : Q (.int es.size (s.toks + 1)) { s with toks := s.toks + 1 + 1 }) : wpAny (model prog w) A (call (.builtin "len") [.ref d]) Q E s :=
  Calls.call_function_entry kind_len plain_len entry_len (args_len1 _) (len_bodyR hd ho hc hdat hfit h)
end
end HD
namespace L2
open PySem PySem.Spec PyProof.Rows
theorem call_lenDT {X : Cx} : CallR X (.builtin "len") (fun xs H Q => ∃ p kvs, xs = [.ref p] ∧ H p = some (.dT kvs) ∧ Q (.int kvs.length) H) := by
  intro pins s σ H xs us Q I r h
  obtain ⟨p, kvs, rfl, hp, q⟩ := h
  obtain ⟨u, rfl, rx⟩ := vals1 r
  cases rx
  obtain ⟨z, y, xs, kt, o, es, ep, h1, h2, h3, h4, h5⟩ := (show ObjOk X.prog X.w H s.heap p (.dT kvs) from I.hok p _ hp)
  have hlen : es.size = kvs.length := by rw [size_of_entries h4, ← Paired.length kt]
  refine HD.call_lenR y h1 h2.1 h3 (by rw [hlen]; rw [sizeLine_eq] at z; omega) ?_
  have ev : EP X pins σ Q (Value.int (es.size : Int) (s.toks + 1)) { s with toks := s.toks + 1 + 1 } := ⟨.int kvs.length, H, I.tok _, ⟨_, by rw [hlen]⟩, q⟩
  exact ev
end L2
namespace Co
open PySem L2 Mi
structure Kp (H H' : Hp) : Prop where
  ts : TS' H H'
  ls : ∀ b xs, H b = some (.lst xs) → ∃ ys, H' b = some (.lst ys)
theorem Kp.refl (H : Hp) : Kp H H := ⟨fun _ _ e => e, fun _ xs e => ⟨xs, e⟩⟩
theorem Kp.trans {H H1 H2 : Hp} (a : Kp H H1) (b : Kp H1 H2) : Kp H H2 := ⟨a.ts.trans b.ts, fun c xs e => by obtain ⟨ys, e1⟩ := a.ls c xs e; exact b.ls c ys e1⟩
theorem Kp.same {H H' : Hp} (s : Same H H') : Kp H H' := ⟨s.ts, fun _ xs e => ⟨xs, s _ _ e⟩⟩
theorem Kp.stp {H H' : Hp} {t : Addr} {zs zs' : List V} (h : H t = some (.lst zs)) (s : Stp t H H') (h' : H' t = some (.lst zs')) : Kp H H' :=
  ⟨s.ts h, fun b xs e => by
    by_cases hb : b = t
    · exact ⟨zs', hb ▸ h'⟩
    · exact ⟨xs, s b _ hb e⟩⟩
theorem Kp.upd {H : Hp} {t : Addr} {zs zs' : List V} (h : H t = some (.lst zs)) : Kp H (upd H t (.lst zs')) :=
  ⟨TS'.lst h, fun b xs e => by
    by_cases hb : b = t
    · exact ⟨zs', by rw [hb]; exact upd_same⟩
    · exact ⟨xs, by rw [upd_ne hb]; exact e⟩⟩
mutual
def IsTr (H : Hp) : Thing → V → Prop
  | .oth, v => v = .non ∨ (∃ i, v = .int i) ∨ (∃ b, v = .bl b) ∨ ∃ a xs, v = .ref a ∧ H a = some (.lst xs)
  | .txt x, v => v = .str x ∧ x.length ≤ 1000
  | .tup ts, v => ∃ a xs, v = .ref a ∧ H a = some (.tup xs) ∧ xs.length ≤ 1000 ∧ AreTr H ts xs
def AreTr (H : Hp) : List Thing → List V → Prop
  | [], xs => xs = []
  | t :: ts, xs => ∃ y ys, xs = y :: ys ∧ IsTr H t y ∧ AreTr H ts ys
end
mutual
theorem IsTr.kp {H H' : Hp} (s : Kp H H') : ∀ {t : Thing} {x : V}, IsTr H t x → IsTr H' t x
  | .oth, _, h => by
    rcases h with h | h | h | ⟨a, xs, e, h⟩
    · exact .inl h
    · exact .inr (.inl h)
    · exact .inr (.inr (.inl h))
    · obtain ⟨ys, h'⟩ := s.ls _ _ h
      exact .inr (.inr (.inr ⟨a, ys, e, h'⟩))
  | .txt _, _, h => h
  | .tup _, _, ⟨a, xs, e, h, hl, hx⟩ => ⟨a, xs, e, s.ts _ _ h, hl, AreTr.kp s hx⟩
theorem AreTr.kp {H H' : Hp} (s : Kp H H') : ∀ {ts : List Thing} {xs : List V}, AreTr H ts xs → AreTr H' ts xs
  | [], _, h => h
  | _ :: _, _, ⟨y, ys, e, h1, h2⟩ => ⟨y, ys, e, IsTr.kp s h1, AreTr.kp s h2⟩
end
mutual
theorem IsTr.th {K : PySem.W.Frag} {H : Hp} : ∀ {t : Thing} {x : V}, IsTr H t x → IsTh K H t x
  | .oth, _, h => h
  | .txt _, _, h => h
  | .tup _, _, ⟨a, xs, e, h, hl, hx⟩ => ⟨a, xs, e, SqT.of h, hl, AreTr.th hx⟩
theorem AreTr.th {K : PySem.W.Frag} {H : Hp} : ∀ {ts : List Thing} {xs : List V}, AreTr H ts xs → AreTh K H ts xs
  | [], _, h => h
  | _ :: _, _, ⟨y, ys, e, h1, h2⟩ => ⟨y, ys, e, IsTr.th h1, AreTr.th h2⟩
end
theorem AreTr.length {H : Hp} : ∀ {ts : List Thing} {xs : List V}, AreTr H ts xs → xs.length = ts.length
  | [], _, h => by rw [show _ = [] from h]; rfl
  | _ :: _, _, ⟨y, ys, e, _, h2⟩ => by rw [e, List.length_cons, List.length_cons, AreTr.length h2]
theorem AreTr.zip {H : Hp} : ∀ {ts : List Thing} {xs : List V}, AreTr H ts xs → ∃ rs : List (V × Thing), rs.map (·.1) = xs ∧ rs.map (·.2) = ts ∧ ∀ r ∈ rs, IsTr H r.2 r.1
  | [], _, h => ⟨[], (show _ = [] from h).symm, rfl, fun r hr => nomatch hr⟩
  | t :: _, _, ⟨y, ys, e, h1, h2⟩ => by
    obtain ⟨rs, e1, e2, e3⟩ := AreTr.zip h2
    refine ⟨(y, t) :: rs, by rw [e, List.map_cons, e1], by rw [List.map_cons, e2], fun r hr => ?_⟩
    rcases List.mem_cons.mp hr with rfl | hr
    · exact h1
    · exact e3 r hr
theorem AreTr.unzip {H : Hp} : ∀ (rs : List (V × Thing)), (∀ r ∈ rs, IsTr H r.2 r.1) → AreTr H (rs.map (·.2)) (rs.map (·.1))
  | [], _ => rfl
  | r :: rs, h => ⟨r.1, rs.map (·.1), rfl, h r (List.mem_cons_self ..), AreTr.unzip rs fun y hy => h y (List.mem_cons_of_mem _ hy)⟩
theorem rows_keysT {H : Hp} : ∀ {rs : List (V × Thing)}, (∀ r ∈ rs, IsTr H r.2 r.1) → (∀ r ∈ rs, rowT r.2 = true) →
    ∃ qs : List (Addr × V × Addr × List Str), (qs.map fun q => V.ref q.1) = rs.map (·.1) ∧ (∀ q ∈ qs, H q.1 = some (.tup [.ref q.2.2.1, q.2.1]) ∧ TupA H q.2.2.1 q.2.2.2) ∧ (qs.map fun q => q.2.2.2) = rs.map fun r => keyT (fstT r.2)
  | [], _, _ => ⟨[], rfl, (fun q hq => nomatch hq), rfl⟩
  | (v, t) :: rs, h1, h2 => by
    obtain ⟨qs, e1, e2, e3⟩ := rows_keysT (fun r hr => h1 r (List.mem_cons_of_mem _ hr)) (fun r hr => h2 r (List.mem_cons_of_mem _ hr))
    have th := h1 (v, t) (List.mem_cons_self ..)
    have ok := h2 (v, t) (List.mem_cons_self ..)
    dsimp only at th ok
    cases t with
    | oth => cases ok
    | txt x => cases ok
    | tup ts =>
      cases ts with
      | nil => cases ok
      | cons t1 r => cases r with
        | nil => cases ok
        | cons t2 r => cases r with
          | cons _ _ => cases ok
          | nil =>
            obtain ⟨p, xs, rfl, hq, hl, x, _, rfl, th1, y, _, rfl, th2, e⟩ := th
            have e' : _ = [] := e
            subst e'
            have ok' : (okT t1 && okT t2) = true := ok
            rw [Bool.and_eq_true] at ok'
            obtain ⟨a, ea, ha⟩ : ∃ a, x = .ref a ∧ TupA H a (keyT t1) := by
              cases t1 with
              | oth => exact nomatch ok'.1
              | txt x => exact nomatch ok'.1
              | tup us =>
                obtain ⟨a, zs, ea, hz, _, hzs⟩ := th1
                refine ⟨a, ea, ?_⟩
                have h3 := ok'.1
                unfold okT at h3
                rw [Bool.and_eq_true, List.all_eq_true] at h3
                have hn : ∀ t ∈ us, nmT t = true := fun t ht => h3.2 _ (List.mem_map.mpr ⟨t, ht, rfl⟩)
                have ez : zs = (us.map txtT).map V.str := by
                  obtain ⟨ws, rfl, rfl, e5⟩ := hzs.zip
                  rw [List.map_map, List.map_map]
                  refine List.map_congr_left fun r hr => ?_
                  have k1 := e5 r hr
                  have k2 := hn r.2 (List.mem_map.mpr ⟨r, hr, rfl⟩)
                  obtain ⟨v, t⟩ := r
                  cases t with
                  | oth => cases k2
                  | txt x => exact k1.1
                  | tup _ => cases k2
                show H a = some (.tup ((us.map txtT).map V.str))
                rw [← ez]
                exact hz
            subst ea
            refine ⟨(p, y, a, keyT t1) :: qs, by rw [List.map_cons, List.map_cons, e1], fun q hq' => ?_, by rw [List.map_cons, List.map_cons, e3]; rfl⟩
            rcases List.mem_cons.mp hq' with rfl | hq'
            · exact ⟨hq, ha⟩
            · exact e2 q hq'
theorem compF_genR {α : Type} {J : It} {rs : List α} (gv : α → V) {te : TE} {fr : St} {H1 : Hp} {QD : Hp → Prop} (Rl : α → V → Hp → Prop) (mono : ∀ x v H H', TS' H H' → Rl x v H → Rl x v H') (D : Addr) (hD : H1 D = none) (T : Tells J H1 (rs.map gv)) (hz : rs.length < sizeLine)
    (he : ∀ r H R, r ∈ rs → Same H1 H → (∀ v H', Same H H' → Rl r v H' → R v H') → te (some (gv r) :: fr) H R)
    (hd : ∀ H' ys, Same H1 H' → H' D = some (.lst ys) → Paired (fun r v => Rl r v H') rs ys → QD H') :
    ∃ W : Nat → Nat → List V → Hp → Prop, (∃ m, W 0 m [] (upd H1 D (.lst []))) ∧ ∀ i m ys H2, W i m ys H2 → H2 D = some (.lst ys) ∧
      ((J.stop i H2 ∧ QD H2) ∨ (J.go i H2 ∧ ∀ x H3, J.yld i H2 x H3 → ∀ pre : St, pre.length = 1 → gName 0 x (pre ++ fr) H3 fun σ4 H4 => (∃ pre' : St, pre'.length = 1 ∧ σ4 = pre' ++ fr) ∧
        tTrue σ4 H4 fun b H5 => if b = true then te σ4 H5 (fun y H6 => H6 D = some (.lst ys) ∧ ys.length < sizeLine ∧ ∃ m', m' < m ∧ W (i + 1) m' (ys ++ [y]) (upd H6 D (.lst (ys ++ [y])))) else ∃ m', m' < m ∧ W (i + 1) m' ys H5)) := by
  refine ⟨fun i m ys H2 => m = rs.length - i ∧ i ≤ rs.length ∧ Paired (fun r v => Rl r v H2) (rs.take i) ys ∧ H2 D = some (.lst ys) ∧ Same H1 H2, ⟨rs.length, by simp, Nat.zero_le _, by rw [List.take_zero]; exact .nil, upd_same, Same.new hD _⟩, ?_⟩
  rintro i m ys H2 ⟨rfl, hi, hp2, hD2, sm⟩
  refine ⟨hD2, ?_⟩
  by_cases hlt : i < rs.length
  · refine .inr ⟨T.go H2 i sm (by rw [List.length_map]; exact hlt), fun x H3 y pre hpre => ?_⟩
    obtain ⟨rfl, hx⟩ := T.yld H2 i x H3 sm y
    rw [List.getElem?_map, List.getElem?_eq_getElem hlt] at hx
    cases hx
    have hm : rs[i] ∈ rs := List.getElem_mem hlt
    obtain ⟨a0, rfl⟩ : ∃ a0, pre = [a0] := by
      cases pre with
      | nil => simp at hpre
      | cons a0 r => cases r with
        | nil => exact ⟨a0, rfl⟩
        | cons _ _ => simp at hpre
    refine ⟨⟨[some (gv rs[i])], rfl, rfl⟩, ?_⟩
    unfold tTrue
    dsimp only
    refine iteT (he rs[i] H3 _ hm sm fun v H6 s6 hv => ?_)
    have hD6 := s6 _ _ hD2
    have t6 : TS' H6 (upd H6 D (.lst (ys ++ [v]))) := TS'.lst hD6
    have hl : ys.length ≤ i := by
      rw [← Paired.length hp2, List.length_take]
      omega
    refine ⟨hD6, by omega, rs.length - (i + 1), by omega, rfl, hlt, ?_, upd_same, ?_⟩
    · rw [List.take_add_one, List.getElem?_eq_getElem hlt]
      exact (hp2.mono fun a b h => mono _ _ _ _ (s6.ts.trans t6) h).snoc (mono _ _ _ _ t6 hv)
    · intro b o e
      have hb : b ≠ D := ne_of_none e hD
      rw [upd_ne hb]
      exact s6 _ _ (sm _ _ e)
  · have e : i = rs.length := by omega
    subst e
    rw [List.take_length] at hp2
    have hst := T.stop H2 sm
    rw [List.length_map] at hst
    exact .inl ⟨hst, hd H2 ys sm hD2 hp2⟩
theorem mergeT_len : ∀ (more acc : List (List Key × V)), (acc.map (·.1)).Nodup → (mergeT acc more).length ≤ acc.length + more.length ∧ ((mergeT acc more).length = acc.length + more.length ↔ ((acc ++ more).map (·.1)).Nodup)
  | [], acc, h => by
    show acc.length ≤ acc.length + 0 ∧ (acc.length = acc.length + 0 ↔ _)
    rw [List.append_nil]
    exact ⟨Nat.le_refl _, fun _ => h, fun _ => rfl⟩
  | m :: more, acc, h => by
    show (mergeT (putK acc m.1 m.2) more).length ≤ _ ∧ ((mergeT (putK acc m.1 m.2) more).length = _ ↔ _)
    by_cases hk : m.1 ∈ acc.map (·.1)
    · have el : (putK acc m.1 m.2).length = acc.length := by
        unfold putK
        rw [if_pos (by simpa using hk), List.length_map]
      have ek : (putK acc m.1 m.2).map (·.1) = acc.map (·.1) := by
        unfold putK
        rw [if_pos (by simpa using hk), List.map_map]
        refine List.map_congr_left fun z _ => ?_
        show (if z.1 = m.1 then (z.1, m.2) else z).1 = z.1
        split <;> rfl
      obtain ⟨i1, i2⟩ := mergeT_len more (putK acc m.1 m.2) (by rw [ek]; exact h)
      rw [el] at i1 i2
      rw [List.length_cons]
      refine ⟨by omega, fun e => by omega, fun nd => ?_⟩
      rw [List.map_append, List.nodup_append] at nd
      exact absurd rfl (nd.2.2 _ hk m.1 (by rw [List.map_cons]; exact List.mem_cons_self ..))
    · have ep : putK acc m.1 m.2 = acc ++ [(m.1, m.2)] := by
        unfold putK
        rw [if_neg (by simpa using hk)]
      have nd' : ((acc ++ [(m.1, m.2)]).map (·.1)).Nodup := by
        rw [List.map_append, List.nodup_append]
        refine ⟨h, by simp, fun y hy z hz e => hk ?_⟩
        have ez : z = m.1 := by simpa using hz
        rw [← ez, ← e]
        exact hy
      obtain ⟨i1, i2⟩ := mergeT_len more (acc ++ [(m.1, m.2)]) nd'
      rw [ep]
      rw [List.length_append, List.length_singleton] at i1 i2
      rw [List.length_cons]
      refine ⟨by omega, ?_⟩
      have e2 : acc ++ m :: more = (acc ++ [(m.1, m.2)]) ++ more := by rw [List.append_assoc]; rfl
      rw [e2, ← i2]
      constructor <;> intro e <;> omega
end Co
namespace LW
open PySem L2 Mi Co
def top (i : Nat) : Stmt := PySem.Challenge.pw_pagenames_k34_whole_things_bent.main.body.getD i (.Pass ⟨0, 0, 0, 0⟩)
abbrev sWord : Stmt := top 4
abbrev sName : Stmt := top 5
abbrev sTitle : Stmt := top 6
abbrev sAddr : Stmt := top 9
abbrev sRow : Stmt := top 11
abbrev sAre : Stmt := top 12
abbrev sDraw : Stmt := top 14
abbrev sPick : Stmt := top 15
abbrev sMName : Stmt := top 16
abbrev sLName : Stmt := top 17
abbrev sLTitle : Stmt := top 18
abbrev sLAddr : Stmt := top 19
abbrev sLAre : Stmt := top 20
abbrev sTexts : Stmt := top 21
abbrev sBent : Stmt := top 22
abbrev sHold : Stmt := top 23
abbrev sLaw : Stmt := top 24
end LW
namespace LW
open PySem L2 Mi Co
section
variable {P : Program} {w : World} {K : PySem.W.Frag} {mg : Str → Option Value} {base : Heap} {f : Addr} {fd : FuncData}
theorem scWord : FnScope ["text"] ["text"] (defScope sWord) := ⟨rfl, rfl, rfl, by decide +kernel, rfl, by decide +kernel, by decide +kernel⟩
theorem ok_word {k : Nat} (F : Fun K "is_word" "is_word" sWord f fd) (G : Blt mg) (hw : WS mg) : FnOk P w K mg base CX0 (k + 1) f fd ["text"] spWord := by
  refine F.ok scWord (fun vs H Q E h => ?_) (fun cdv A outer s H vs Q E hr h => ?_)
  · obtain ⟨x, rfl, _⟩ := h
    rfl
  obtain ⟨x, rfl, hx, q⟩ := h
  obtain ⟨tw, ws⟩ := hw
  refine ⟨_, pss_one (ps_ret (pe_and (pe_cmpR op_ne (pv 0) pe_str (nomark _)) (pe_one (pe_callB (call_all rfl) rfl G.all boot_all
    (pa_cons (pe_comp rfl (by decide +kernel) (by decide +kernel) rfl (by decide +kernel) (by decide +kernel) (pi_str (pv 0))
      (fun C s' H' fp => pe_cmpR op_in_str (pv 0) (pe_glob rfl ws (v := .str "abcdefghijklmnopqrstuvwxyz0123456789") ⟨_, rfl⟩) rfl)) pa_nil))))), ?_⟩
  refine ⟨_, rfl, rfl, _, rfl, ?_⟩
  refine ite2 (fun c => ?_) (fun c => ?_)
  · refine ⟨_, rfl, x, rfl, ?_⟩
    refine fun D hD => comp_str (z := x) (te := tOp (fun x y H Q => ∃ i j, x = .str i ∧ y = .str j ∧ Q (.bl (!(Builtin.Str.occurrences j i 0 j.length 1).isEmpty)) H) (tVar 0) (tC (.str "abcdefghijklmnopqrstuvwxyz0123456789"))) (f := fun c => .bl (sIn c "abcdefghijklmnopqrstuvwxyz0123456789")) D hD (bigl _ (by omega)) (fun y H1 R hy hR => ?_) (fun H1 sm hl => ?_)
    · exact ⟨_, rfl, _, _, rfl, rfl, hR H1 (Same.refl _)⟩
    · refine ⟨D, (signs x).map (fun c => sIn c "abcdefghijklmnopqrstuvwxyz0123456789"), rfl, SqL.of (by rw [hl, List.map_map]; rfl), ?_⟩
      have e : isWord x = ((signs x).map fun c => sIn c "abcdefghijklmnopqrstuvwxyz0123456789").all id := by unfold isWord; rw [c, Bool.true_and]
      have : Q (.bl (isWord x)) H1 := q H1 sm
      rw [e] at this
      exact this
  · have e : isWord x = false := by unfold isWord; rw [Bool.eq_false_iff.mpr c, Bool.false_and]
    have : Q (.bl (isWord x)) H := q H (Same.refl H)
    rw [e] at this
    exact this
end
end LW
namespace LW
open PySem L2 Mi Co
section
variable {P : Program} {w : World} {K : PySem.W.Frag} {mg : Str → Option Value} {base : Heap} {f : Addr} {fd : FuncData}
theorem scName : FnScope ["thing"] ["thing"] (defScope sName) := ⟨rfl, rfl, rfl, by decide +kernel, rfl, by decide +kernel, by decide +kernel⟩
theorem ok_name {k : Nat} (F : Fun K "is_name" "is_name" sName f fd) (G : Blt mg) (hln : IsInt mg "LONGEST_NAME" 12) (hW : Has P w K mg base "is_word" k ["text"] spWord) : FnOk P w K mg base CX0 (k + 1) f fd ["thing"] (spNameV K) := by
  refine F.ok scName (fun vs H Q E h => ?_) (fun cdv A outer s H vs Q E hr h => ?_)
  · obtain ⟨x, rfl, _⟩ := h
    rfl
  obtain ⟨v, rfl, th, q⟩ := h
  obtain ⟨tl, ln⟩ := hln
  refine ⟨_, pss_cons (ps_if (PW.pt (pw_or (pt_not (pt_val (pe_callB call_isS rfl G.isi boot_isinstance (pa_cons (pv 0) (pa_cons (pe_bltn rfl G.str boot_str (v := .ty "str") rfl) pa_nil)))))
      (pw_or1 (pt_cmpR op_gt (pe_callB call_len_str rfl G.len PySem.boot_len (pa_cons (pv 0) pa_nil)) (pe_glob rfl ln (v := .int 12) ⟨_, rfl⟩) (nomark _)))))
      (pss_one (ps_ret pe_bl)) pss_nil)
    (pss_one (ps_ret (pe_callB (call_all rfl) rfl G.all boot_all (pa_cons (pe_comp rfl (by decide +kernel) (by decide +kernel) rfl (by decide +kernel) (by decide +kernel)
      (pi_list (pe_bm PySem.F.plainAttrs_str PySem.F.slot_str_split PySem.F.type_str_split mt_split1 (pv 0) (pa_cons pe_str pa_nil)))
      (fun C s' H' fp => pe_callH hW hr rfl (pa_cons (pv 0) pa_nil))) pa_nil)))), ?_⟩
  refine ⟨_, rfl, v, rfl, th, _, rfl, ?_⟩
  have no : isS v = false → nmV v = false := fun e => by cases v <;> first | rfl | cases e
  cases hs : isS v with
  | false =>
    have := q H (Same.refl H)
    rw [no hs] at this
    exact iteT this
  | true =>
    obtain ⟨x, rfl⟩ : ∃ x, v = .str x := by cases v <;> first | exact ⟨_, rfl⟩ | cases hs
    have hx : x.length ≤ 1000 := by
      rcases th with ⟨y, e, h⟩ | h | ⟨i, h⟩ | ⟨b, h⟩ | ⟨a, xs, h, _⟩ | ⟨a, xs, h, _⟩
      · cases e; exact h
      all_goals cases h
    refine iteF ⟨_, rfl, x, rfl, big _ (by omega), _, _, rfl, rfl, _, rfl, ?_⟩
    refine ite2 (fun c => ?_) (fun c => ?_)
    · have e : isName x = false := by unfold isName; rw [if_pos c]
      have : Q (.bl (isName x)) H := q H (Same.refl H)
      rw [e] at this
      exact this
    · refine ⟨_, rfl, rfl, x, _, rfl, rfl, rfl, by omega, fun D hD => ?_⟩
      refine ⟨D, rfl, ⟨_, SqL.of upd_same⟩, ?_⟩
      have sl := split_len x "-"
      refine fun D2 hD2 => comp_list (te := tCall spWord [] E0 (tCons (tVar 0) tNil)) (f := fun v => match v with | .str y => .bl (isWord y) | _ => .non) D2 hD2 (SqL.of upd_same) (bigl _ (by rw [List.length_map]; omega)) (fun v H1 R hv hR => ?_) (fun H1 sm hl => ?_)
      · obtain ⟨y, hy, rfl⟩ := List.mem_map.mp hv
        exact ⟨_, rfl, y, rfl, Nat.le_trans (split_part x _ y hy) (by omega), fun H2 sm => hR H2 sm⟩
      · refine ⟨D2, (Txt.split x "-").map isWord, rfl, SqL.of (by rw [hl, List.map_map, List.map_map]; rfl), ?_⟩
        have e : isName x = ((Txt.split x "-").map isWord).all id := by unfold isName; rw [if_neg c]
        have : Q (.bl (isName x)) H1 := q H1 ((Same.new hD _).trans sm)
        rw [e] at this
        exact this
end
end LW
namespace LW
open PySem L2 Mi Co
section
variable {P : Program} {w : World} {K : PySem.W.Frag} {mg : Str → Option Value} {base : Heap} {f : Addr} {fd : FuncData}
theorem one_eq (c : Nat) : decide (V.str ⟨#[c]⟩ = V.str " ") = decide (c = 32) := by
  have e : (" " : Str) = ⟨#[32]⟩ := by decide +kernel
  rw [e]
  by_cases h : c = 32
  · subst h; simp
  · have : ¬ V.str ⟨#[c]⟩ = V.str ⟨#[32]⟩ := fun z => h (by injection z with z; injection z with z; injection z with z; injection z)
    rw [decide_eq_false this, decide_eq_false h]
theorem scTitle : FnScope ["thing"] ["thing"] (defScope sTitle) := ⟨rfl, rfl, rfl, by decide +kernel, rfl, by decide +kernel, by decide +kernel⟩
theorem ok_title {k : Nat} (F : Fun K "is_title" "is_title" sTitle f fd) (G : Blt mg) (hlt : IsInt mg "LONGEST_TITLE" 30) : FnOk P w K mg base CX0 (k + 1) f fd ["thing"] (spTitleV K) := by
  refine F.ok scTitle (fun vs H Q E h => ?_) (fun cdv A outer s H vs Q E hr h => ?_)
  · obtain ⟨x, rfl, _⟩ := h
    rfl
  obtain ⟨v, rfl, th, q⟩ := h
  obtain ⟨tl, lt⟩ := hlt
  refine ⟨_, pss_cons (ps_if (PW.pt (pw_or (pt_not (pt_val (pe_callB call_isS rfl G.isi boot_isinstance (pa_cons (pv 0) (pa_cons (pe_bltn rfl G.str boot_str (v := .ty "str") rfl) pa_nil)))))
      (pw_or1 (pt_not (pt_chain op_le op_le pe_int (pe_callB call_len_str rfl G.len PySem.boot_len (pa_cons (pv 0) pa_nil)) (pe_glob rfl lt (v := .int 30) ⟨_, rfl⟩))))))
      (pss_one (ps_ret pe_bl)) pss_nil)
    (pss_one (ps_ret (pe_and (pe_cmpR op_ne (pe_ix ix_str (pv 0) pe_int (fun _ _ => rfl)) pe_str (nomark _))
      (pe_one (pe_cmpR op_ne (pe_ix ix_str (pv 0) (pe_un un_neg pe_int) (fun _ _ => rfl)) pe_str (nomark _)))))), ?_⟩
  refine ⟨_, rfl, v, rfl, th, _, rfl, ?_⟩
  have no : isS v = false → ttV v = false := fun e => by cases v <;> first | rfl | cases e
  cases hs : isS v with
  | false =>
    have := q H (Same.refl H)
    rw [no hs] at this
    exact iteT this
  | true =>
    obtain ⟨x, rfl⟩ : ∃ x, v = .str x := by cases v <;> first | exact ⟨_, rfl⟩ | cases hs
    have hx : x.length ≤ 1000 := by
      rcases th with ⟨y, e, h⟩ | h | ⟨i, h⟩ | ⟨b, h⟩ | ⟨a, xs, h, _⟩ | ⟨a, xs, h, _⟩
      · cases e; exact h
      all_goals cases h
    have q' : Q (.bl (isTitle x)) H := q H (Same.refl H)
    have hL := len_L x
    refine iteF ⟨_, rfl, x, rfl, big _ (by omega), _, _, rfl, rfl, _, rfl, ?_⟩
    refine ite2 (fun c1 => ?_) (fun c1 => ?_)
    · have c1' : (1 : Int) ≤ (x.length : Int) := of_decide_eq_true c1
      refine ⟨_, _, rfl, rfl, _, rfl, ?_⟩
      show if (!decide ((x.length : Int) ≤ 30)) = true then _ else _
      by_cases c2 : x.length ≤ 30
      · rw [decide_eq_true (show (x.length : Int) ≤ 30 by omega)]
        refine iteF ?_
        have hne : L x ≠ [] := fun e => by rw [e] at hL; simp at hL; omega
        have e0 : (L x)[0]? = some ((L x).head hne) := by rw [← List.head?_eq_getElem?, List.head?_eq_some_head]
        have e1 : atI (L x) (-(1 : Int)) = some ((L x).getLast hne) := by
          have := atI_last (L x).dropLast ((L x).getLast hne)
          rw [List.dropLast_concat_getLast] at this
          exact this
        have h1 : (L x).head? = some ((L x).head hne) := List.head?_eq_some_head hne
        have h2 : (L x).getLast? = some ((L x).getLast hne) := List.getLast?_eq_some_getLast hne
        unfold isTitle at q'
        rw [decide_eq_true (show 1 ≤ x.length by omega), decide_eq_true c2, h1, h2] at q'
        refine ⟨_, rfl, x, 0, _, rfl, rfl, big _ (by omega), atI_nat (j := 0) e0, rfl, ?_⟩
        refine ⟨_, rfl, ?_⟩
        rw [one_eq]
        refine ite2 (fun c3 => ?_) (fun c3 => ?_)
        · refine ⟨_, rfl, _, rfl, x, _, _, rfl, rfl, big _ (by omega), e1, rfl, ?_⟩
          rw [one_eq]
          have c3' : (L x).head hne ≠ 32 := by simpa using c3
          simpa [c3'] using q'
        · have c3' : (L x).head hne = 32 := by simpa using c3
          simpa [c3'] using q'
      · rw [decide_eq_false (show ¬ (x.length : Int) ≤ 30 by omega)]
        refine iteT ?_
        unfold isTitle at q'
        rw [decide_eq_false c2] at q'
        have q2 : Q (.bl false) H := by simpa using q'
        exact q2
    · have c1' : ¬ (1 : Int) ≤ (x.length : Int) := fun z => c1 (decide_eq_true z)
      refine ⟨_, rfl, ?_⟩
      refine iteT ?_
      unfold isTitle at q'
      rw [decide_eq_false (show ¬ 1 ≤ x.length by omega)] at q'
      have q2 : Q (.bl false) H := by simpa using q'
      exact q2
end
end LW
namespace LW
open PySem L2 Mi Co
section
variable {P : Program} {w : World} {K : PySem.W.Frag} {mg : Str → Option Value} {base : Heap} {f : Addr} {fd : FuncData}
theorem scAddr : FnScope ["thing"] ["thing"] (defScope sAddr) := ⟨rfl, rfl, rfl, by decide +kernel, rfl, by decide +kernel, by decide +kernel⟩
theorem ok_addr {k : Nat} (F : Fun K "is_address" "is_address" sAddr f fd) (G : Blt mg) (hmn : IsInt mg "MOST_NAMES" 4) (hN : Has P w K mg base "is_name" k ["thing"] (spNameV K)) : FnOk P w K mg base CX0 (k + 1) f fd ["thing"] (spAddr K) := by
  refine F.ok scAddr (fun vs H Q E h => ?_) (fun cdv A outer s H vs Q E hr h => ?_)
  · obtain ⟨x, rfl, _⟩ := h
    rfl
  obtain ⟨v, rfl, h⟩ := h
  obtain ⟨tl, mn⟩ := hmn
  refine ⟨_, pss_cons (ps_if (PW.pt (pw_or (pt_not (pt_val (pe_callB call_isT rfl G.isi boot_isinstance (pa_cons (pv 0) (pa_cons (pe_bltn rfl G.tuple boot_tuple (v := .ty "tuple") rfl) pa_nil)))))
      (pw_or1 (pt_not (pt_chain op_le op_le pe_int (pe_callB call_len_seq rfl G.len PySem.boot_len (pa_cons (pv 0) pa_nil)) (pe_glob rfl mn (v := .int 4) ⟨_, rfl⟩))))))
      (pss_one (ps_ret pe_bl)) pss_nil)
    (pss_one (ps_ret (pe_callB (call_all rfl) rfl G.all boot_all (pa_cons (pe_compF (xs := ["part"]) (ys := []) (js := []) rfl (by decide +kernel) (by decide +kernel) rfl (by decide +kernel) trivial
      (pi_tup (pv 0)) (fun _ _ _ _ _ => pg_name (i := 0) (show (["part"] : List Str).Nodup by decide +kernel) rfl (Or.inl rfl) (.inr rfl)) (fun _ _ _ _ _ => pts_nil)
      (fun cl C s' H' fp => pe_callH hN hr rfl (pa_cons (pv 0) pa_nil))) pa_nil)))), ?_⟩
  rcases h with ⟨a, xs, rfl, hq, hl, hth, q⟩ | ⟨no, q⟩
  · refine ⟨_, rfl, _, rfl, .inl ⟨a, xs, rfl, hq, _, rfl, ?_⟩⟩
    refine iteF ⟨_, rfl, a, xs, rfl, .inr hq, _, _, rfl, rfl, _, rfl, ?_⟩
    refine ite2 (fun c1 => ?_) (fun c1 => ?_)
    · have c1' : (1 : Int) ≤ (xs.length : Int) := of_decide_eq_true c1
      refine ⟨_, _, rfl, rfl, _, rfl, ?_⟩
      show if (!decide ((xs.length : Int) ≤ 4)) = true then _ else _
      by_cases c2 : xs.length ≤ 4
      · rw [decide_eq_true (show (xs.length : Int) ≤ 4 by omega)]
        refine iteF ⟨_, rfl, a, rfl, ⟨_, hq⟩, ?_⟩
        refine fun D hD => compF_all (xs := xs) (tt := tTrue) (te := tCall (spNameV K) [] E0 (tCons (tVar 0) tNil)) (fr := []) (f := fun v => .bl (nmV v)) (p := fun _ => true) D hD (tells_tup hq) (bigl _ (by omega)) ?_ ?_ ?_
        · intro y H1 R hy _ hR
          exact hR H1 (Same.refl H1)
        · intro y H1 R hy _ s1 hR
          exact ⟨_, rfl, y, rfl, (hth y hy).same s1, fun H2 s2 => hR H2 s2⟩
        · intro H1 s1 hl1
          refine ⟨D, xs.map nmV, rfl, SqL.of (by rw [hl1, List.filter_eq_self.mpr (fun _ _ => rfl), List.map_map]; rfl), ?_⟩
          have : Q (.bl (adL xs)) H1 := q H1 s1
          unfold adL at this
          rw [decide_eq_true (show 1 ≤ xs.length by omega), decide_eq_true c2] at this
          exact this
      · rw [decide_eq_false (show ¬ (xs.length : Int) ≤ 4 by omega)]
        refine iteT ?_
        have : Q (.bl (adL xs)) H := q H (Same.refl H)
        unfold adL at this
        rw [decide_eq_false c2] at this
        have q2 : Q (.bl false) H := by simpa using this
        exact q2
    · have c1' : ¬ (1 : Int) ≤ (xs.length : Int) := fun z => c1 (decide_eq_true z)
      refine ⟨_, rfl, iteT ?_⟩
      have : Q (.bl (adL xs)) H := q H (Same.refl H)
      unfold adL at this
      rw [decide_eq_false (show ¬ 1 ≤ xs.length by omega)] at this
      have q2 : Q (.bl false) H := by simpa using this
      exact q2
  · exact ⟨_, rfl, _, rfl, .inr ⟨no, _, rfl, iteT (q H (Same.refl H))⟩⟩
end
end LW
namespace LW
open PySem L2 Mi Co
section
variable {P : Program} {w : World} {K : PySem.W.Frag} {mg : Str → Option Value} {base : Heap} {f : Addr} {fd : FuncData}
theorem scRow : FnScope ["thing"] ["thing"] (defScope sRow) := ⟨rfl, rfl, rfl, by decide +kernel, rfl, by decide +kernel, by decide +kernel⟩
theorem ok_row {k : Nat} (F : Fun K "is_row" "is_row" sRow f fd) (G : Blt mg) (hAddr : Has P w K mg base "is_address" k ["thing"] (spAddr K)) : FnOk P w K mg base CX0 (k + 1) f fd ["thing"] (spRow K) := by
  refine F.ok scRow (fun vs H Q E h => ?_) (fun cdv A outer s H vs Q E hr h => ?_)
  · obtain ⟨v, t, rfl, _⟩ := h
    rfl
  obtain ⟨v, t, rfl, th, q⟩ := h
  refine ⟨_, (pss_one (ps_ret (pe_and (pe_callB call_isT rfl G.isi boot_isinstance (pa_cons (pv 0) (pa_cons (pe_bltn rfl G.tuple boot_tuple (v := .ty "tuple") rfl) pa_nil))) (pe_and (pe_cmpR op_eq (pe_callB call_len_seq rfl G.len PySem.boot_len (pa_cons (pv 0) pa_nil)) pe_int (nomark _)) (pe_and (pe_callH hAddr hr rfl (pa_cons (pe_ix ix_tup (pv 0) pe_int fun _ _ => rfl) pa_nil)) (pe_one (pe_callH hAddr hr rfl (pa_cons (pe_ix ix_tup (pv 0) pe_int fun _ _ => rfl) pa_nil)))))))), ?_⟩
  refine ⟨_, rfl, v, rfl, ?_⟩
  have no : (∀ ts, t ≠ .tup ts) → (∀ H', Same H H' → Q (.bl false) H') := fun hn H' s' => by
    have := q H' s'
    cases t with
    | oth => exact this
    | txt x => exact this
    | tup ts => exact absurd rfl (hn ts)
  cases t with
  | oth => exact .inr ⟨IsTh.noT (K := K) (t := .oth) th (fun _ e => nomatch e), _, rfl, iteF (no (fun _ e => nomatch e) H (Same.refl H))⟩
  | txt x => exact .inr ⟨IsTh.noT (K := K) (t := .txt x) th (fun _ e => nomatch e), _, rfl, iteF (no (fun _ e => nomatch e) H (Same.refl H))⟩
  | tup ts =>
    obtain ⟨a, xs, rfl, hq, hl, hx⟩ := th
    refine .inl ⟨a, xs, rfl, hq, _, rfl, iteT ⟨_, rfl, a, xs, rfl, .inr hq, rfl, _, rfl, ?_⟩⟩
    by_cases h2 : xs.length = 2
    · obtain ⟨x, y, rfl⟩ : ∃ x y, xs = [x, y] := by
        cases xs with
        | nil => simp at h2
        | cons x r => cases r with
          | nil => simp at h2
          | cons y r => cases r with
            | nil => exact ⟨x, y, rfl⟩
            | cons _ _ => simp at h2
      obtain ⟨t1, t2, rfl⟩ : ∃ t1 t2, ts = [t1, t2] := by
        have := hx.length
        cases ts with
        | nil => simp at this
        | cons x r => cases r with
          | nil => simp at this
          | cons y r => cases r with
            | nil => exact ⟨x, y, rfl⟩
            | cons _ _ => simp at this
      obtain ⟨_, _, e1, th1, _, _, e2, th2, _⟩ := hx
      cases e1
      cases e2
      refine iteY rfl ⟨_, rfl, a, [x, y], 0, x, rfl, rfl, hq, rfl, ?_⟩
      dsimp only [tNil, List.cons_append, List.nil_append, List.append_nil]
      refine addr_at th1 fun H1 s1 => ⟨_, rfl, ?_⟩
      have q' : ∀ H', Same H H' → Q (.bl (okT t1 && okT t2)) H' := q
      cases h1 : okT t1 with
      | false => exact iteF (by have := q' H1 s1; rw [h1, Bool.false_and] at this; exact this)
      | true =>
        refine iteT ⟨_, rfl, a, [x, y], 1, y, rfl, rfl, s1.tup hq, rfl, ?_⟩
        dsimp only [tNil, List.cons_append, List.nil_append, List.append_nil]
        refine addr_at (th2.same s1) fun H2 s2 => ?_
        have := q' H2 (s1.trans s2)
        rw [h1, Bool.true_and] at this
        exact this
    · refine iteN (fun e => h2 ?_) ?_
      · injection e with e; omega
      · have := q H (Same.refl H)
        have hr2 : rowT (.tup ts) = false := by
          have := hx.length
          cases ts with
          | nil => rfl
          | cons x r => cases r with
            | nil => rfl
            | cons y r => cases r with
              | nil => exact absurd (this.trans rfl) h2
              | cons _ _ => rfl
        rw [hr2] at this
        exact this
theorem scAre : FnScope ["thing"] ["thing"] (defScope sAre) := ⟨rfl, rfl, rfl, by decide +kernel, rfl, by decide +kernel, by decide +kernel⟩
theorem ndRb0 : (["row"] : List Str).Nodup := by decide +kernel
theorem ndRb1 : (["row"] : List Str).Nodup := by decide +kernel
theorem ok_are {k : Nat} (F : Fun K "are_rows" "are_rows" sAre f fd) (G : Blt mg) (hset : mg "set" = none) (hRow : Has P w K mg base "is_row" k ["thing"] (spRow K)) : FnOk P w K mg base CX0 (k + 1) f fd ["thing"] (spAre K) := by
  refine F.ok scAre (fun vs H Q E h => ?_) (fun cdv A outer s H vs Q E hr h => ?_)
  · obtain ⟨v, t, rfl, _⟩ := h
    rfl
  obtain ⟨v, t, rfl, th, h18, q⟩ := h
  refine ⟨_, (pss_cons (ps_if (PW.pt (pw_or (pt_not (pt_val (pe_callB call_isT rfl G.isi boot_isinstance (pa_cons (pv 0) (pa_cons (pe_bltn rfl G.tuple boot_tuple (v := .ty "tuple") rfl) pa_nil))))) (pw_or1 (pt_not (pt_val (pe_callB (call_all rfl) rfl G.all boot_all (pa_cons (pe_compF (te := (tCall (spRow K) [] E0 (tCons (tVar 0) tNil))) (xs := ["row"]) (ys := []) (js := []) rfl (by decide +kernel) (by decide +kernel) rfl (by decide +kernel) trivial
      (pi_tup (pv 0)) (fun _ _ _ _ _ => (pg_name (i := 0) ndRb0 rfl (Or.inl rfl) (.inr rfl))) (fun _ _ _ _ _ => pts_nil) (fun _ _ _ _ _ => (pe_callH hRow hr rfl (pa_cons (pv 0) pa_nil)))) pa_nil))))))) (pss_one (ps_ret pe_bl)) pss_nil)
    (pss_one (ps_ret (pe_cmpR op_eq (pe_lenSet rfl (hu8 hr) rfl G.len rfl hset (pe_compF (te := (tOp (rIxT K) (tVar 0) (tC (.int 0)))) (xs := ["row"]) (ys := []) (js := []) rfl (by decide +kernel) (by decide +kernel) rfl (by decide +kernel) trivial
      (pi_tup (pv 0)) (fun _ _ _ _ _ => (pg_name (i := 0) ndRb1 rfl (Or.inl rfl) (.inr rfl))) (fun _ _ _ _ _ => pts_nil) (fun _ _ _ _ _ => (pe_ix ix_tup (pv 0) pe_int fun _ _ => rfl)))) (pe_callB call_len_seq rfl G.len PySem.boot_len (pa_cons (pv 0) pa_nil)) (nomark _))))), ?_⟩
  refine ⟨_, rfl, v, rfl, ?_⟩
  have no : (∀ ts, t ≠ .tup ts) → (∀ H', Same H H' → Q (.bl false) H') := fun hn H' s' => by
    have := q H' s'
    cases t with
    | oth => exact this
    | txt x => exact this
    | tup ts => exact absurd rfl (hn ts)
  cases t with
  | oth => exact .inr ⟨IsTh.noT (K := K) (t := .oth) th (fun _ e => nomatch e), _, rfl, iteT (no (fun _ e => nomatch e) H (Same.refl H))⟩
  | txt x => exact .inr ⟨IsTh.noT (K := K) (t := .txt x) th (fun _ e => nomatch e), _, rfl, iteT (no (fun _ e => nomatch e) H (Same.refl H))⟩
  | tup ts =>
    obtain ⟨a, xs, rfl, hq, hl, hx⟩ := th
    obtain ⟨rs, rfl, rfl, hrs⟩ := hx.zip
    refine .inl ⟨a, _, rfl, hq, _, rfl, iteF ⟨_, rfl, a, rfl, ⟨_, hq⟩, fun D hD => ?_⟩⟩
    refine compF_gen (rs := rs) (fun r => r.1) (fun r => .bl (rowT r.2)) (fun _ => true) D hD (tells_tup hq) (bigl _ (by rw [List.length_map] at hl; omega)) ?_ ?_ ?_
    · intro r H1 R hr' _ hR
      exact hR H1 (Same.refl H1)
    · intro r H1 R hr' _ s1 hR
      exact ⟨_, rfl, r.1, r.2, rfl, (hrs r hr').same s1, fun H2 s2 => hR H2 s2⟩
    · intro H1 s1 hD1
      rw [List.filter_eq_self.mpr (fun _ _ => rfl)] at hD1
      refine ⟨D, rs.map fun r => rowT r.2, rfl, SqL.of (by rw [hD1, List.map_map]; rfl), ?_⟩
      have q' : ∀ H', Same H H' → Q (.bl ((((rs.map (·.2)).map rowT).all id) && decide (((rs.map (·.2)).map fun t => keyT (fstT t)).Nodup))) H' := q
      rw [List.map_map, List.map_map] at q'
      have e1 : (rs.map (rowT ∘ fun x => x.2)) = rs.map fun r => rowT r.2 := rfl
      rw [e1] at q'
      refine ⟨_, rfl, ?_⟩
      cases h1 : (rs.map fun r => rowT r.2).all id with
      | false => exact iteT (by have := q' H1 s1; rw [h1, Bool.false_and] at this; exact this)
      | true =>
        rw [h1] at q'
        have hrow : ∀ r ∈ rs, rowT r.2 = true := fun r hr' => by
          rw [List.all_eq_true] at h1
          exact h1 _ (List.mem_map.mpr ⟨r, hr', rfl⟩)
        have h18' := h18 _ rfl (fun x hx' => by obtain ⟨r, hr', rfl⟩ := List.mem_map.mp hx'; exact hrow r hr')
        rw [List.length_map] at h18'
        obtain ⟨qs, e2, e3, e4⟩ := rows_keys hrs hrow
        have lq : qs.length = rs.length := by have := congrArg List.length e2; rw [List.length_map, List.length_map] at this; exact this
        rw [← e2] at hq
        have hq1 := s1.tup hq
        refine iteF ⟨_, rfl, a, rfl, ⟨_, hq1⟩, fun D2 hD2 => ?_⟩
        refine compF_gen (rs := qs) (fun r => .ref r.1) (fun r => .ref r.2.2.1) (fun _ => true) D2 hD2 (tells_tup hq1) (bigl _ (by omega)) ?_ ?_ ?_
        · intro r H2 R hr' _ hR
          exact hR H2 (Same.refl H2)
        · intro r H2 R hr' _ s2 hR
          exact ⟨_, rfl, _, _, 0, _, rfl, rfl, (s1.trans s2).tup (e3 r hr').1, rfl, hR H2 (Same.refl H2)⟩
        · intro H2 s2 hD2'
          rw [List.filter_eq_self.mpr (fun _ _ => rfl)] at hD2'
          have s12 := s1.trans s2
          refine ⟨D2, qs.map fun q => (q.2.2.1, q.2.2.2), rfl, SqL.of (by rw [hD2', List.map_map]; rfl), by rw [List.length_map]; omega, fun r hr' => ?_, _, rfl, a, _, rfl, .inr (s12.tup hq), rfl, ?_⟩
          · obtain ⟨q0, hq0, rfl⟩ := List.mem_map.mp hr'
            exact s12.tup (e3 q0 hq0).2
          · have := q' H2 s12
            rw [Bool.true_and] at this
            have ue := unlike_iff (qs.map fun q => (q.2.2.1, q.2.2.2))
            rw [List.map_map] at ue
            have ue' : unlike (qs.map fun q => (q.2.2.1, q.2.2.2)) = qs.length ↔ (rs.map fun r => keyT (fstT r.2)).Nodup := by
              rw [← e4]
              rw [List.length_map] at ue
              exact ue
            have e5 : decide (V.int (unlike (qs.map fun q => (q.2.2.1, q.2.2.2)) : Nat) = V.int ((qs.map fun q => V.ref q.1).length : Nat)) = decide (List.map ((fun t => keyT (fstT t)) ∘ fun x => x.2) rs).Nodup := by
              rw [decide_eq_decide, List.length_map]
              constructor
              · intro e
                injection e with e
                exact ue'.mp (by omega)
              · intro e
                rw [ue'.mpr e]
            have q2 : Q (.bl (decide (V.int (unlike (qs.map fun q => (q.2.2.1, q.2.2.2)) : Nat) = V.int ((qs.map fun q => V.ref q.1).length : Nat)))) H2 := by rw [e5]; exact this
            exact q2
end
end LW
namespace LW
open PySem L2 Mi Co
section
variable {P : Program} {w : World} {K : PySem.W.Frag} {mg : Str → Option Value} {base : Heap} {f : Addr} {fd : FuncData}
theorem scDraw : FnScope ["_law_script", "_law_town", "_law_many", "_law_k", "_law_cell", "_law_number", "_law_more"] ["_law_script", "_law_town", "_law_many"] (defScope sDraw) := ⟨rfl, rfl, rfl, by decide +kernel, rfl, by decide +kernel, by decide +kernel⟩
theorem ok_draw {k : Nat} (F : Fun K "_law_draw" "_law_draw" sDraw f fd) (G : Blt mg) : FnOk P w K mg base CX0 (k + 1) f fd ["_law_script", "_law_town", "_law_many"] (spDraw K) := by
  refine F.ok scDraw (fun vs H Q E h => ?_) (fun cdv A outer s H vs Q E hr h => ?_)
  · obtain ⟨a, t, ns, zs, m, rfl, _⟩ := h
    rfl
  obtain ⟨a, t, ns, zs, m, rfl, hS, h63, hT, hz, hm, q⟩ := h
  refine ⟨_, pss_cons (ps_expr (pe_bm PySem.F.plainAttrs_list PySem.F.slot_list_append PySem.F.type_list_append mt_append (pv 1) (pa_cons pe_int pa_nil)))
    (pss_cons (ps_set (i := 3) scDraw.nd rfl (Or.inl rfl) (pe_callB call_len_seq rfl G.len PySem.boot_len (pa_cons (pv 1) pa_nil)))
    (pss_cons (ps_set (i := 4) scDraw.nd rfl (Or.inl rfl) pe_int)
    (pss_cons (ps_if (pt_truth (pv 0) (fun _ => rfl)) (pss_one (ps_set (i := 4) scDraw.nd rfl (Or.inl rfl) (pe_ix ix_list (pv 0) (pe_op op_mod (pv 3) (pe_callB call_len_seq rfl G.len PySem.boot_len (pa_cons (pv 0) pa_nil))) (fun _ _ => rfl)))) pss_nil)
    (pss_cons (ps_set (i := 5) scDraw.nd rfl (Or.inl rfl) (pe_op op_mod (pe_op op_add (pv 4) (pe_op op_mul pe_int (pv 3))) pe_int))
    (pss_cons (ps_set (i := 5) scDraw.nd rfl (Or.inl rfl) (pe_op op_mod (pe_op op_mul (pe_op op_mod (pe_op op_mul (pv 5) (pv 5)) pe_int) pe_int) pe_int))
    (pss_cons (ps_set (i := 6) scDraw.nd rfl (Or.inl rfl) (pe_op op_mod (pe_op op_mul (pe_op op_mod (pe_op op_mul (pv 5) (pv 5)) pe_int) pe_int) pe_int))
    (pss_one (ps_ret (pe_op op_mod (pe_op op_add (pe_op op_mul (pe_op op_fdiv (pv 5) pe_int) pe_int) (pe_op op_fdiv (pv 6) pe_int)) (pv 2)))))))))), ?_⟩
  refine ⟨_, rfl, .inl ⟨rfl, _, SqL.of hT⟩, t, zs, _, rfl, rfl, hT, bigl _ (by omega), ?_⟩
  have hT' : (upd H t (.lst (zs ++ [V.int 0])) : Hp) t = some (.lst (zs ++ [V.int 0])) := upd_same
  have st : Stp t H (upd H t (.lst (zs ++ [V.int 0]))) := Stp.upd _
  have hS' := hS.stp hT st
  refine ⟨_, rfl, t, _, rfl, .inl (SqL.of hT'), ?_⟩
  refine ⟨_, rfl, _, .inl ⟨_, hS'.sq, rfl⟩, ?_⟩
  have rest : ∀ e : Int, Q (.int (e % m)) (upd H t (.lst (zs ++ [V.int 0]))) := fun e =>
    q _ _ (Int.emod_nonneg _ (by omega)) (Int.emod_lt_of_pos _ hm) hT' st
  refine ite2 (fun c => ?_) (fun c => ?_)
  · have hne : ns ≠ [] := fun e => by subst e; simp at c
    have hlen : 0 < (ns.map V.int).length := by rw [List.length_map]; exact List.length_pos_iff.mpr hne
    obtain ⟨v, hv⟩ := at_mod hne (((zs ++ [V.int 0]).length : Nat) : Int)
    refine ⟨_, rfl, _, rfl, _, rfl, a, _, rfl, .inl hS'.sq, _, _, rfl, rfl, by omega, a, _, _, _, rfl, rfl, hS'.sq, hv, ?_⟩
    refine ⟨_, rfl, _, rfl, _, _, rfl, rfl, .inl ⟨by decide, by decide⟩, _, _, rfl, rfl, _, _, rfl, rfl, (show (0 : Int) < 4294967291 by decide), ?_⟩
    refine ⟨_, rfl, _, rfl, _, _, rfl, rfl, .inl ⟨by omega, by omega⟩, _, _, rfl, rfl, (show (0 : Int) < 4294967279 by decide), _, _, rfl, rfl, .inl ⟨by omega, by omega⟩, _, _, rfl, rfl, (show (0 : Int) < 4294967291 by decide), ?_⟩
    refine ⟨_, rfl, _, rfl, _, _, rfl, rfl, .inl ⟨by omega, by omega⟩, _, _, rfl, rfl, (show (0 : Int) < 4294967279 by decide), _, _, rfl, rfl, .inl ⟨by omega, by omega⟩, _, _, rfl, rfl, (show (0 : Int) < 4294967291 by decide), ?_⟩
    exact ⟨_, rfl, _, _, rfl, rfl, ⟨by decide, by decide⟩, _, _, rfl, rfl, .inl ⟨by omega, by omega⟩, _, rfl, _, _, rfl, rfl, ⟨by decide, by decide⟩, _, _, rfl, rfl, _, rfl, _, _, rfl, rfl, hm, rest _⟩
  · refine ⟨_, rfl, _, rfl, _, _, rfl, rfl, .inl ⟨by decide, by decide⟩, _, _, rfl, rfl, _, _, rfl, rfl, (show (0 : Int) < 4294967291 by decide), ?_⟩
    refine ⟨_, rfl, _, rfl, _, _, rfl, rfl, .inl ⟨by omega, by omega⟩, _, _, rfl, rfl, (show (0 : Int) < 4294967279 by decide), _, _, rfl, rfl, .inl ⟨by omega, by omega⟩, _, _, rfl, rfl, (show (0 : Int) < 4294967291 by decide), ?_⟩
    refine ⟨_, rfl, _, rfl, _, _, rfl, rfl, .inl ⟨by omega, by omega⟩, _, _, rfl, rfl, (show (0 : Int) < 4294967279 by decide), _, _, rfl, rfl, .inl ⟨by omega, by omega⟩, _, _, rfl, rfl, (show (0 : Int) < 4294967291 by decide), ?_⟩
    exact ⟨_, rfl, _, _, rfl, rfl, ⟨by decide, by decide⟩, _, _, rfl, rfl, .inl ⟨by omega, by omega⟩, _, rfl, _, _, rfl, rfl, ⟨by decide, by decide⟩, _, _, rfl, rfl, _, rfl, _, _, rfl, rfl, hm, rest _⟩
end
end LW
namespace LW
open PySem L2 Mi Co
section
variable {P : Program} {w : World} {K : PySem.W.Frag} {mg : Str → Option Value} {base : Heap} {f : Addr} {fd : FuncData}
theorem scPick : FnScope ["_law_script", "_law_town", "_law_some"] ["_law_script", "_law_town", "_law_some"] (defScope sPick) := ⟨rfl, rfl, rfl, by decide +kernel, rfl, by decide +kernel, by decide +kernel⟩
theorem ok_pick {k : Nat} (F : Fun K "_law_pick" "_law_pick" sPick f fd) (G : Blt mg) (hD : Has P w K mg base "_law_draw" k ["_law_script", "_law_town", "_law_many"] (spDraw K)) : FnOk P w K mg base CX0 (k + 1) f fd ["_law_script", "_law_town", "_law_some"] (spPick K) := by
  refine F.ok scPick (fun vs H Q E h => ?_) (fun cdv A outer s H vs Q E hr h => ?_)
  · obtain ⟨a, t, ns, zs, _, _, _, _, ⟨l, xs, rfl, _⟩ | ⟨z, rfl, _⟩⟩ := h <;> rfl
  obtain ⟨a, t, ns, zs, hS, h63, hT, hz, h⟩ := h
  refine ⟨_, pss_one (ps_ret (pe_ix ix_seq (pv 2) (pe_callH hD hr rfl (pa_cons (pv 0) (pa_cons (pv 1) (pa_cons (pe_callB (call_len_seq.or call_len_str) rfl G.len PySem.boot_len (pa_cons (pv 2) pa_nil)) pa_nil)))) (fun _ _ => rfl))), ?_⟩
  rcases h with ⟨l, xs, rfl, hl, hne, hx, q⟩ | ⟨z, rfl, hz0, hz1, q⟩
  · refine ⟨_, rfl, _, rfl, _, rfl, _, rfl, .inl ⟨l, _, rfl, .inl (SqL.of hl), a, t, ns, zs, _, rfl, hS, h63, hT, hz, by omega, fun r H' h0 h1 hT' st => ?_⟩⟩
    obtain ⟨v, hv, hm⟩ := at_place h0 h1
    exact .inl ⟨l, xs, r, v, rfl, rfl, SqL.of (st l _ hne hl), hv, q v H' hm hT' st⟩
  · refine ⟨_, rfl, _, rfl, _, rfl, _, rfl, .inr ⟨z, rfl, big _ (by omega), a, t, ns, zs, _, rfl, hS, h63, hT, hz, by omega, fun r H' h0 h1 hT' st => ?_⟩⟩
    have hl : z.cps.toList.length = z.length := by simp [Str.length]
    obtain ⟨v, hv, hm⟩ := at_place (xs := z.cps.toList) h0 (by rw [hl]; exact h1)
    exact .inr (.inr ⟨z, r, v, rfl, rfl, big _ (by omega), hv, q v H' hm hT' st⟩)
end
end LW
namespace LW
open PySem L2 Mi Co
section
variable {P : Program} {w : World} {K : PySem.W.Frag} {mg : Str → Option Value} {base : Heap} {f : Addr} {fd : FuncData}
theorem scLAddr : FnScope ["_law_thing"] ["_law_thing"] (defScope sLAddr) := ⟨rfl, rfl, rfl, by decide +kernel, rfl, by decide +kernel, by decide +kernel⟩
theorem ok_laddr {k : Nat} (F : Fun K "_law_is_address" "_law_is_address" sLAddr f fd) (G : Blt mg) (hN : Has P w K mg base "_law_is_name" k ["_law_thing"] (spNameV K)) : FnOk P w K mg base CX0 (k + 1) f fd ["_law_thing"] (spAddr K) := by
  refine F.ok scLAddr (fun vs H Q E h => ?_) (fun cdv A outer s H vs Q E hr h => ?_)
  · obtain ⟨x, rfl, _⟩ := h
    rfl
  obtain ⟨v, rfl, h⟩ := h
  refine ⟨_, pss_one (ps_ret (pe_and (pe_callB call_isT rfl G.isi boot_isinstance (pa_cons (pv 0) (pa_cons (pe_bltn rfl G.tuple boot_tuple (v := .ty "tuple") rfl) pa_nil)))
      (pe_and (pe_chain op_le op_le pe_int (pe_callB call_len_seq rfl G.len PySem.boot_len (pa_cons (pv 0) pa_nil)) pe_int)
      (pe_one (pe_callB (call_all rfl) rfl G.all boot_all (pa_cons (pe_compF (xs := ["_law_one"]) (ys := []) (js := []) rfl (by decide +kernel) (by decide +kernel) rfl (by decide +kernel) trivial
      (pi_tup (pv 0)) (fun _ _ _ _ _ => pg_name (i := 0) (show (["_law_one"] : List Str).Nodup by decide +kernel) rfl (Or.inl rfl) (.inr rfl)) (fun _ _ _ _ _ => pts_nil)
      (fun cl C s' H' fp => pe_callH hN hr rfl (pa_cons (pv 0) pa_nil))) pa_nil)))))), ?_⟩
  rcases h with ⟨a, xs, rfl, hq, hl, hth, q⟩ | ⟨no, q⟩
  · refine ⟨_, rfl, _, rfl, .inl ⟨a, xs, rfl, hq, _, rfl, ?_⟩⟩
    refine iteT ⟨_, rfl, a, xs, rfl, .inr hq, _, _, rfl, rfl, _, rfl, ?_⟩
    refine ite2 (fun c1 => ?_) (fun c1 => ?_)
    · have c1' : (1 : Int) ≤ (xs.length : Int) := of_decide_eq_true c1
      refine ⟨_, _, rfl, rfl, _, rfl, ?_⟩
      by_cases c2 : xs.length ≤ 4
      · refine iteY (show (xs.length : Int) ≤ 4 by omega) ⟨_, rfl, a, rfl, ⟨_, hq⟩, ?_⟩
        refine fun D hD => compF_all (xs := xs) (tt := tTrue) (te := tCall (spNameV K) [] E0 (tCons (tVar 0) tNil)) (fr := []) (f := fun v => .bl (nmV v)) (p := fun _ => true) D hD (tells_tup hq) (bigl _ (by omega)) ?_ ?_ ?_
        · intro y H1 R hy _ hR
          exact hR H1 (Same.refl H1)
        · intro y H1 R hy _ s1 hR
          exact ⟨_, rfl, y, rfl, (hth y hy).same s1, fun H2 s2 => hR H2 s2⟩
        · intro H1 s1 hl1
          refine ⟨D, xs.map nmV, rfl, SqL.of (by rw [hl1, List.filter_eq_self.mpr (fun _ _ => rfl), List.map_map]; rfl), ?_⟩
          have : Q (.bl (adL xs)) H1 := q H1 s1
          unfold adL at this
          rw [decide_eq_true (show 1 ≤ xs.length by omega), decide_eq_true c2] at this
          exact this
      · refine iteN (show ¬ (xs.length : Int) ≤ 4 by omega) ?_
        have : Q (.bl (adL xs)) H := q H (Same.refl H)
        unfold adL at this
        rw [decide_eq_false c2] at this
        have q2 : Q (.bl false) H := by simpa using this
        exact q2
    · have c1' : ¬ (1 : Int) ≤ (xs.length : Int) := fun z => c1 (decide_eq_true z)
      refine ⟨_, rfl, iteF ?_⟩
      have : Q (.bl (adL xs)) H := q H (Same.refl H)
      unfold adL at this
      rw [decide_eq_false (show ¬ 1 ≤ xs.length by omega)] at this
      have q2 : Q (.bl false) H := by simpa using this
      exact q2
  · exact ⟨_, rfl, _, rfl, .inr ⟨no, _, rfl, iteF (q H (Same.refl H))⟩⟩
end
end LW
namespace LW
open PySem L2 Mi Co
theorem pt_mono {X : Cx} {e : Expr} {t u : TT} (h : PT X e t) (hi : ∀ σ H Q, u σ H Q → t σ H Q) : PT X e u := fun pins s σ H Q I q => h pins s σ H Q I (hi σ H Q q)
theorem drop_tw (p : Nat → Bool) : ∀ l : List Nat, l.drop (l.takeWhile p).length = l.dropWhile p
  | [] => rfl
  | c :: l => by
    rw [List.takeWhile_cons, List.dropWhile_cons]
    cases h : p c with
    | true => simp only [if_true, List.length_cons, List.drop_succ_cons]; exact drop_tw p l
    | false => simp
theorem mem_tw (p : Nat → Bool) : ∀ {l : List Nat} {c : Nat}, c ∈ l.takeWhile p → p c = true
  | [], _, h => by simp at h
  | x :: l, c, h => by
    rw [List.takeWhile_cons] at h
    cases hx : p x with
    | false => rw [hx] at h; simp at h
    | true =>
      rw [hx, if_pos rfl] at h
      rcases List.mem_cons.mp h with rfl | h
      · exact hx
      · exact mem_tw p h
theorem dw_head (p : Nat → Bool) : ∀ {l : List Nat} {c : Nat} {r : List Nat}, l.dropWhile p = c :: r → p c = false
  | [], _, _, h => by simp at h
  | x :: l, c, r, h => by
    rw [List.dropWhile_cons] at h
    cases hx : p x with
    | false =>
      rw [hx] at h
      have h' : x :: l = c :: r := h
      injection h' with h1 _
      rw [← h1]
      exact hx
    | true => rw [hx, if_pos rfl] at h; exact dw_head p h
theorem strip_nil (p : Nat → Bool) (l : List Nat) : ((l.drop (l.takeWhile p).length).take (l.length - ((l.drop (l.takeWhile p).length).reverse.takeWhile p).length - (l.takeWhile p).length) = []) ↔ l.all p = true := by
  rw [drop_tw]
  cases hd : l.dropWhile p with
  | nil =>
    refine ⟨fun _ => ?_, fun _ => by simp⟩
    rw [List.all_eq_true]
    intro c hc
    have := List.takeWhile_append_dropWhile (p := p) (l := l)
    rw [hd, List.append_nil] at this
    rw [← this] at hc
    exact mem_tw p hc
  | cons c r =>
    have hc : p c = false := dw_head p hd
    have hl : l.length = (l.takeWhile p).length + (r.length + 1) := by
      have := congrArg List.length (List.takeWhile_append_dropWhile (p := p) (l := l))
      rw [hd, List.length_append, List.length_cons] at this
      omega
    have hw : ((c :: r).reverse.takeWhile p).length ≤ r.length := by
      rw [List.reverse_cons]
      by_cases ha : r.reverse.all p = true
      · rw [List.takeWhile_append_of_pos (fun x hx => List.all_eq_true.mp ha x hx)]
        rw [List.takeWhile_cons, hc]
        simp
      · have h1 : ((r.reverse ++ [c]).takeWhile p).length ≤ (r.reverse ++ [c]).length := List.Sublist.length_le (List.takeWhile_sublist p)
        by_cases h2 : ((r.reverse ++ [c]).takeWhile p).length ≤ r.length
        · exact h2
        · rw [List.length_append, List.length_reverse, List.length_singleton] at h1
          have e : (r.reverse ++ [c]).takeWhile p = r.reverse ++ [c] := List.Sublist.eq_of_length (List.takeWhile_sublist p) (by rw [List.length_append, List.length_reverse, List.length_singleton]; omega)
          have : c ∈ (r.reverse ++ [c]).takeWhile p := by rw [e]; simp
          rw [mem_tw p this] at hc
          cases hc
    constructor
    · intro h
      exfalso
      have := congrArg List.length h
      rw [List.length_take, List.length_cons] at this
      simp only [List.length_nil] at this
      omega
    · intro h
      rw [List.all_eq_true] at h
      have hm : c ∈ l := by
        have : c ∈ l.dropWhile p := by rw [hd]; exact List.mem_cons_self ..
        exact (List.dropWhile_sublist p).subset this
      rw [h c hm] at hc
      cases hc
theorem strip_ws (t : Str) : decide (V.str (Txt.stripChars t "abcdefghijklmnopqrstuvwxyz0123456789") = V.str "") = t.cps.toList.all fun c => decide (c ∈ WSL) := by
  have hf : (("abcdefghijklmnopqrstuvwxyz0123456789" : Str).cps.contains) = fun c => decide (c ∈ WSL) := funext fun c => by
    rw [← ws_list, Bool.eq_iff_iff, decide_eq_true_eq, Array.contains_iff_mem, Array.mem_toList_iff]
  have e1 : Txt.stripChars t "abcdefghijklmnopqrstuvwxyz0123456789" = Builtin.Str.strSub t (stripLo (fun c => decide (c ∈ WSL)) true t) (stripHi (fun c => decide (c ∈ WSL)) true t (stripLo (fun c => decide (c ∈ WSL)) true t)) := by
    unfold Txt.stripChars
    rw [PyProof.Rows.stripBy_eq, hf]
  have e2 : stripLo (fun c => decide (c ∈ WSL)) true t = ((L t).takeWhile fun c => decide (c ∈ WSL)).length := rfl
  have e3 : ∀ lo, stripHi (fun c => decide (c ∈ WSL)) true t lo = t.length - (((L t).drop lo).reverse.takeWhile fun c => decide (c ∈ WSL)).length := fun lo => by
    unfold stripHi
    rw [if_pos rfl]
  rw [e1, e2, e3, PyProof.Rows.strSub_mk, Bool.eq_iff_iff, decide_eq_true_eq]
  have key := strip_nil (fun c => decide (c ∈ WSL)) (L t)
  rw [len_L] at key
  unfold L at key
  rw [← key]
  constructor
  · intro e
    injection e with e
    exact congrArg (fun z => z.cps.toList) e
  · intro e
    exact congrArg V.str (str_eq e)
theorem isWord_is (t : Str) (h : t ≠ "") : isWord t = t.cps.toList.all fun c => decide (c ∈ WSL) := by
  cases hw : isWord t with
  | true =>
    have := (isWord_to hw).2
    symm
    rw [List.all_eq_true]
    intro c hc
    exact decide_eq_true (this c hc)
  | false =>
    cases ha : t.cps.toList.all fun c => decide (c ∈ WSL) with
    | false => rfl
    | true =>
      rw [List.all_eq_true] at ha
      have e : isWord t = true := by
        unfold isWord
        rw [Bool.and_eq_true, Bool.not_eq_true', decide_eq_false_iff_not, List.all_eq_true]
        refine ⟨fun e => h (by injection e), fun b hb => ?_⟩
        obtain ⟨x, hx, rfl⟩ := List.mem_map.mp hb
        unfold signs at hx
        obtain ⟨c, hc, rfl⟩ := List.mem_map.mp hx
        show sIn ⟨#[c]⟩ _ = true
        rw [sIn_one]
        exact ha c hc
      rw [e] at hw
      cases hw
def uRow (K : PySem.W.Frag) (i : Nat) : TT := fun σ H Q => ∃ v t, σ[i]? = some (some v) ∧ IsTh K H t v ∧ ∀ H', Same H H' → Q (!rowT t) H'
section
variable {P : Program} {w : World} {K : PySem.W.Frag} {mg : Str → Option Value} {base : Heap} {f : Addr} {fd : FuncData}
theorem scLName : FnScope ["_law_thing", "_law_words"] ["_law_thing"] (defScope sLName) := ⟨rfl, rfl, rfl, by decide +kernel, rfl, by decide +kernel, by decide +kernel⟩
theorem ndA0 : (["_law_word"] : List Str).Nodup := by decide +kernel
theorem ok_lname {k : Nat} (F : Fun K "_law_is_name" "_law_is_name" sLName f fd) (G : Blt mg) : FnOk P w K mg base CX0 (k + 1) f fd ["_law_thing"] (spNameV K) := by
  refine F.ok scLName (fun vs H Q E h => ?_) (fun cdv A outer s H vs Q E hr h => ?_)
  · obtain ⟨x, rfl, _⟩ := h
    rfl
  obtain ⟨v, rfl, th, q⟩ := h
  refine ⟨_, (pss_cons (ps_if (PW.pt (pw_or (pt_not (pt_val (pe_callB call_isS rfl G.isi boot_isinstance (pa_cons (pv 0) (pa_cons (pe_bltn rfl G.str boot_str (v := .ty "str") rfl) pa_nil))))) (pw_or1 (pt_not (pt_chain op_le op_le pe_int (pe_callB call_len_str rfl G.len PySem.boot_len (pa_cons (pv 0) pa_nil)) pe_int))))) (pss_one (ps_ret pe_bl)) pss_nil)
    (pss_cons (ps_set (i := 1) scLName.nd rfl (Or.inl rfl) (pe_bm PySem.F.plainAttrs_str PySem.F.slot_str_split PySem.F.type_str_split mt_split1 (pv 0) (pa_cons pe_str pa_nil)))
    (pss_one (ps_ret (pe_callB (call_all rfl) rfl G.all boot_all (pa_cons (pe_compF (te := (tAndV (tOp rNe (tVar 0) (tC (.str ""))) (tOp rEq (tBM K "str" rStrip (tVar 0) (tCons (tC (.str "abcdefghijklmnopqrstuvwxyz0123456789")) tNil)) (tC (.str ""))))) (xs := ["_law_word"]) (ys := []) (js := []) rfl (by decide +kernel) (by decide +kernel) rfl (by decide +kernel) trivial
      (pi_list (pv 1)) (fun _ _ _ _ _ => (pg_name (i := 0) ndA0 rfl (Or.inl rfl) (.inr rfl))) (fun _ _ _ _ _ => pts_nil) (fun _ _ _ _ _ => (pe_and (pe_cmpR op_ne (pv 0) pe_str (nomark _)) (pe_one (pe_cmpR op_eq (pe_bm PySem.F.plainAttrs_str PySem.F.slot_str_strip PySem.F.type_str_strip mt_strip (pv 0) (pa_cons pe_str pa_nil)) pe_str (nomark _)))))) pa_nil)))))), ?_⟩
  refine ⟨_, rfl, v, rfl, th, _, rfl, ?_⟩
  have no : isS v = false → nmV v = false := fun e => by cases v <;> first | rfl | cases e
  cases hs : isS v with
  | false =>
    have := q H (Same.refl H)
    rw [no hs] at this
    exact iteT this
  | true =>
    obtain ⟨x, rfl⟩ : ∃ x, v = .str x := by cases v <;> first | exact ⟨_, rfl⟩ | cases hs
    have hx : x.length ≤ 1000 := by
      rcases th with ⟨y, e, h⟩ | h | ⟨i, h⟩ | ⟨b, h⟩ | ⟨a, xs, h, _⟩ | ⟨a, xs, h, _⟩
      · cases e; exact h
      all_goals cases h
    have q' : ∀ H', Same H H' → Q (.bl (isName x)) H' := q
    refine iteF ⟨_, rfl, x, rfl, big _ (by omega), _, _, rfl, rfl, _, rfl, ?_⟩
    by_cases c1 : 1 ≤ x.length
    · refine iteY (show (1 : Int) ≤ (x.length : Int) by omega) ⟨_, _, rfl, rfl, _, rfl, ?_⟩
      by_cases c2 : x.length ≤ 12
      · refine ifN (show (x.length : Int) ≤ 12 by omega) ?_
        have sl := split_len x "-"
        refine ⟨_, rfl, rfl, x, _, rfl, rfl, rfl, by omega, fun D hD => ?_⟩
        have s0 := Same.new hD (.lst ((Txt.split x "-").map V.str))
        have hD0 : (upd H D (.lst ((Txt.split x "-").map V.str)) : Hp) D = some (.lst ((Txt.split x "-").map V.str)) := upd_same
        generalize (upd H D (.lst ((Txt.split x "-").map V.str)) : Hp) = H0 at *
        refine ⟨_, rfl, D, rfl, ⟨_, SqL.of hD0⟩, fun D2 hD2 => ?_⟩
        refine compF_gen (rs := Txt.split x "-") V.str (fun t => .bl (isWord t)) (fun _ => true) D2 hD2 (tells_list (SqL.of hD0)) (bigl _ (by omega)) ?_ ?_ ?_
        · intro r H1 R hr' _ hR
          exact hR H1 (Same.refl H1)
        · intro t H1 R ht' _ s1 hR
          have hR' := hR H1 (Same.refl H1)
          have tl := split_part x "-" t ht'
          refine ⟨_, rfl, rfl, _, rfl, ?_⟩
          by_cases h0 : t = ""
          · subst h0
            have e : isWord "" = false := by decide +kernel
            rw [e] at hR'
            exact ifN rfl hR'
          · refine ifY (fun e => h0 (by injection e)) ⟨_, rfl, rfl, t, _, rfl, rfl, big _ (by omega), rfl, ?_⟩
            rw [isWord_is t h0, ← strip_ws t] at hR'
            exact hR'
        · intro H1 s1 hD1
          rw [List.filter_eq_self.mpr (fun _ _ => rfl)] at hD1
          refine ⟨D2, (Txt.split x "-").map isWord, rfl, SqL.of (by rw [hD1, List.map_map]; rfl), ?_⟩
          have e : isName x = ((Txt.split x "-").map isWord).all id := by unfold isName; rw [if_neg (by rw [decide_eq_true_eq]; omega)]
          have := q' H1 (s0.trans s1)
          rw [e] at this
          exact this
      · refine ifY (show ¬ (x.length : Int) ≤ 12 by omega) ?_
        have e : isName x = false := by unfold isName; rw [if_pos (by rw [decide_eq_true_eq]; omega)]
        have := q' H (Same.refl H)
        rw [e] at this
        exact this
    · refine iteN (show ¬ (1 : Int) ≤ (x.length : Int) by omega) ⟨_, rfl, iteT ?_⟩
      have e0 : x = "" := str_eq (List.eq_nil_of_length_eq_zero (by have := len_L x; unfold L at this; omega))
      have e : isName x = false := by rw [e0]; decide +kernel
      have := q' H (Same.refl H)
      rw [e] at this
      exact this
theorem scLTitle : FnScope ["_law_thing"] ["_law_thing"] (defScope sLTitle) := ⟨rfl, rfl, rfl, by decide +kernel, rfl, by decide +kernel, by decide +kernel⟩
theorem ok_ltitle {k : Nat} (F : Fun K "_law_is_title" "_law_is_title" sLTitle f fd) (G : Blt mg) : FnOk P w K mg base CX0 (k + 1) f fd ["_law_thing"] (spTitleV K) := by
  refine F.ok scLTitle (fun vs H Q E h => ?_) (fun cdv A outer s H vs Q E hr h => ?_)
  · obtain ⟨x, rfl, _⟩ := h
    rfl
  obtain ⟨v, rfl, th, q⟩ := h
  refine ⟨_, (pss_one (ps_ret (pe_and (pe_callB call_isS rfl G.isi boot_isinstance (pa_cons (pv 0) (pa_cons (pe_bltn rfl G.str boot_str (v := .ty "str") rfl) pa_nil))) (pe_and (pe_chain op_le op_le pe_int (pe_callB call_len_str rfl G.len PySem.boot_len (pa_cons (pv 0) pa_nil)) pe_int) (pe_one (pe_cmpR op_eq (pe_bm PySem.F.plainAttrs_str PySem.F.slot_str_strip PySem.F.type_str_strip mt_strip (pv 0) (pa_cons pe_str pa_nil)) (pv 0) (nomark _))))))), ?_⟩
  refine ⟨_, rfl, v, rfl, th, _, rfl, ?_⟩
  have no : isS v = false → ttV v = false := fun e => by cases v <;> first | rfl | cases e
  cases hs : isS v with
  | false =>
    have := q H (Same.refl H)
    rw [no hs] at this
    exact iteF this
  | true =>
    obtain ⟨x, rfl⟩ : ∃ x, v = .str x := by cases v <;> first | exact ⟨_, rfl⟩ | cases hs
    have hx : x.length ≤ 1000 := by
      rcases th with ⟨y, e, h⟩ | h | ⟨i, h⟩ | ⟨b, h⟩ | ⟨a, xs, h, _⟩ | ⟨a, xs, h, _⟩
      · cases e; exact h
      all_goals cases h
    have q' : Q (.bl (isTitle x)) H := q H (Same.refl H)
    refine iteT ⟨_, rfl, x, rfl, big _ (by omega), _, _, rfl, rfl, _, rfl, ?_⟩
    refine ite2 (fun c1 => ?_) (fun c1 => ?_)
    · have c1' : (1 : Int) ≤ (x.length : Int) := of_decide_eq_true c1
      refine ⟨_, _, rfl, rfl, _, rfl, ?_⟩
      by_cases c2 : x.length ≤ 30
      · refine iteY (show (x.length : Int) ≤ 30 by omega) ?_
        refine ⟨_, rfl, rfl, x, _, rfl, rfl, big _ (by omega), _, rfl, rfl, ?_⟩
        unfold isTitle at q'
        rw [decide_eq_true (show 1 ≤ x.length by omega), decide_eq_true c2, Bool.true_and, Bool.true_and, ← strip_same x (by omega)] at q'
        have e : decide (V.str (Txt.stripChars x " ") = V.str x) = decide (V.str x = V.str (Txt.stripChars x " ")) := decide_eq_decide.mpr ⟨fun e => e.symm, fun e => e.symm⟩
        rw [← e] at q'
        exact q'
      · refine iteN (show ¬ (x.length : Int) ≤ 30 by omega) ?_
        unfold isTitle at q'
        rw [decide_eq_false c2] at q'
        have q2 : Q (.bl false) H := by simpa using q'
        exact q2
    · have c1' : ¬ (1 : Int) ≤ (x.length : Int) := fun z => c1 (decide_eq_true z)
      refine ⟨_, rfl, iteF ?_⟩
      unfold isTitle at q'
      rw [decide_eq_false (show ¬ 1 ≤ x.length by omega)] at q'
      have q2 : Q (.bl false) H := by simpa using q'
      exact q2
end
end LW
namespace LW
open PySem L2 Mi Co
theorem areT_no {ts : List Thing} {t : Thing} (h : t ∈ ts) (hr : rowT t = false) : areT (.tup ts) = false := by
  have e : (ts.map rowT).all id = false := by
    cases hh : (ts.map rowT).all id with
    | false => rfl
    | true =>
      rw [List.all_eq_true] at hh
      have := hh _ (List.mem_map.mpr ⟨t, h, rfl⟩)
      rw [hr] at this
      cases this
  show ((ts.map rowT).all id && _) = false
  rw [e, Bool.false_and]
theorem areT_dup {ts : List Thing} (h : ¬ (ts.map fun t => keyT (fstT t)).Nodup) : areT (.tup ts) = false := by
  show (_ && decide (ts.map fun t => keyT (fstT t)).Nodup) = false
  rw [decide_eq_false h, Bool.and_false]
theorem areT_yes {ts : List Thing} (h1 : ∀ t ∈ ts, rowT t = true) (h2 : (ts.map fun t => keyT (fstT t)).Nodup) : areT (.tup ts) = true := by
  have e : (ts.map rowT).all id = true := by
    rw [List.all_eq_true]
    intro b hb
    obtain ⟨t, ht, rfl⟩ := List.mem_map.mp hb
    exact h1 t ht
  show ((ts.map rowT).all id && decide (ts.map fun t => keyT (fstT t)).Nodup) = true
  rw [e, decide_eq_true h2]
  rfl
theorem row_ok {K : PySem.W.Frag} {i : Nat} {σ : St} {H : Hp} {Q : Bool → Hp → Prop} (h : uRow K i σ H Q) :
    tOr (tNot (tB (tCB (fun xs H Q => ∃ v, xs = [v, .ty "tuple"] ∧ ((∃ a ys, v = .ref a ∧ SqT K H a ys ∧ Q (.bl true) H) ∨ (NoT H v ∧ Q (.bl false) H))) (tCons (tVar i) (tCons (tC (.ty "tuple")) tNil)))))
      (tOr (tTest (tOp rNe (tCB (fun xs H Q => ∃ p ys, xs = [.ref p] ∧ (SqL K H p ys ∨ SqT K H p ys) ∧ Q (.int ys.length) H) (tCons (tVar i) tNil)) (tC (.int 2))))
      (tOr (tNot (tB (tCall (spAddr K) [] E0 (tCons (tOp (rIxT K) (tVar i) (tC (.int 0))) tNil)))) (tNot (tB (tCall (spAddr K) [] E0 (tCons (tOp (rIxT K) (tVar i) (tC (.int 1))) tNil)))))) σ H Q := by
  obtain ⟨v, t, e, th, q⟩ := h
  refine ⟨v, e, v, rfl, ?_⟩
  have q0 := q H (Same.refl H)
  cases t with
  | oth => exact .inr ⟨IsTh.noT (K := K) (t := .oth) th (fun _ e => nomatch e), _, rfl, iteT q0⟩
  | txt x => exact .inr ⟨IsTh.noT (K := K) (t := .txt x) th (fun _ e => nomatch e), _, rfl, iteT q0⟩
  | tup ts =>
    obtain ⟨a, xs, rfl, hq, hl, hx⟩ := th
    refine .inl ⟨a, xs, rfl, hq, _, rfl, iteF ⟨_, e, a, xs, rfl, .inr hq, rfl, _, rfl, ?_⟩⟩
    by_cases h2 : xs.length = 2
    · obtain ⟨x, y, rfl⟩ : ∃ x y, xs = [x, y] := by
        cases xs with
        | nil => simp at h2
        | cons x r => cases r with
          | nil => simp at h2
          | cons y r => cases r with
            | nil => exact ⟨x, y, rfl⟩
            | cons _ _ => simp at h2
      obtain ⟨t1, t2, rfl⟩ : ∃ t1 t2, ts = [t1, t2] := by
        have := hx.length
        cases ts with
        | nil => simp at this
        | cons x r => cases r with
          | nil => simp at this
          | cons y r => cases r with
            | nil => exact ⟨x, y, rfl⟩
            | cons _ _ => simp at this
      obtain ⟨_, _, e1, th1, _, _, e2, th2, _⟩ := hx
      cases e1
      cases e2
      refine ifN rfl ⟨_, e, a, [x, y], 0, x, rfl, rfl, hq, rfl, ?_⟩
      dsimp only [tNil, List.cons_append, List.nil_append, List.append_nil]
      refine addr_at th1 fun H1 s1 => ⟨_, rfl, ?_⟩
      have q' : ∀ H', Same H H' → Q (!(okT t1 && okT t2)) H' := q
      cases h1 : okT t1 with
      | false => exact iteT (by have := q' H1 s1; rw [h1, Bool.false_and] at this; exact this)
      | true =>
        refine iteF ⟨_, e, a, [x, y], 1, y, rfl, rfl, s1.tup hq, rfl, ?_⟩
        dsimp only [tNil, List.cons_append, List.nil_append, List.append_nil]
        refine addr_at (th2.same s1) fun H2 s2 => ⟨_, rfl, ?_⟩
        have := q' H2 (s1.trans s2)
        rw [h1, Bool.true_and] at this
        exact this
    · refine ifY (fun e => h2 ?_) ?_
      · injection e with e; omega
      · have hr2 : rowT (.tup ts) = false := by
          have := hx.length
          cases ts with
          | nil => rfl
          | cons x r => cases r with
            | nil => rfl
            | cons y r => cases r with
              | nil => exact absurd (this.trans rfl) h2
              | cons _ _ => rfl
        rw [hr2] at q0
        exact q0
def Few (t : Thing) : Prop := ∀ ts, t = .tup ts → ts.length ≤ 18
def spLAre : Sp := fun vs H Q _ => ∃ v t, vs = [v] ∧ IsTr H t v ∧ Few t ∧ ∀ H', Same H H' → Q (.bl (areT t)) H'
def spMName (K : PySem.W.Frag) : Sp := fun vs H Q _ => ∃ (a t : Addr) (ns : List Int) (zs : List V), vs = [.ref a, .ref t] ∧ Scr K H a ns ∧ ns.length ≤ 63 ∧ H t = some (.lst zs) ∧ zs.length < 60000 ∧
  ∀ (x : Str) (zs' : List V) (H' : Hp), H' t = some (.lst zs') → zs'.length ≤ zs.length + 14 → Stp t H H' → isName x = true → Q (.str x) H'
theorem s5_is : (("abz09" : Str).cps.toList) = [97, 98, 122, 48, 57] := by decide +kernel
theorem s6_is : (("abz09-" : Str).cps.toList) = [97, 98, 122, 48, 57, 45] := by decide +kernel
def Mk (n : Nat) (f : Str) : Prop := f.length ≤ n ∧ ∃ l, okF true l = true ∧ (L f = l ∨ L f = l ++ [45])
theorem one_ok {c : Nat} (h : c ∈ WSL) : okF true [c] = true := by
  show (if c = 45 then _ else (decide (c ∈ WSL) && okF false [])) = true
  have hne : c ≠ 45 := fun e => no45 (by rw [← e]; exact h)
  rw [if_neg hne, decide_eq_true h]
  rfl
theorem L_one (f : Str) (c : Nat) : L (f ++ ⟨#[c]⟩) = L f ++ [c] := by unfold L; rw [app_cps]
theorem mk_sign {n : Nat} {f : Str} (h : Mk n f) {c : Nat} (hc : c ∈ WSL) : Mk (n + 1) (f ++ ⟨#[c]⟩) := by
  obtain ⟨hl, l, ok, e⟩ := h
  refine ⟨by rw [app_length]; show f.length + 1 ≤ _; omega, ?_⟩
  rcases e with e | e
  · exact ⟨l ++ [c], ok_snoc l true c ok hc, .inl (by rw [L_one, e])⟩
  · exact ⟨l ++ 45 :: [c], ok_app l [c] true ok (one_ok hc), .inl (by rw [L_one, e, List.append_assoc]; rfl)⟩
theorem mk_dash {n : Nat} {f : Str} (h : Mk n f) (hd : (L f).getLast? ≠ some 45) : Mk (n + 1) (f ++ ⟨#[45]⟩) := by
  obtain ⟨hl, l, ok, e⟩ := h
  refine ⟨by rw [app_length]; show f.length + 1 ≤ _; omega, ?_⟩
  rcases e with e | e
  · exact ⟨l, ok, .inr (by rw [L_one, e])⟩
  · rw [e] at hd
    simp at hd
theorem mk_done {n : Nat} {f : Str} (h : Mk n f) (hn : n ≤ 12) : isName (Txt.rstripChars f "-") = true ∧ (Txt.rstripChars f "-").length ≠ 0 ∧ (Txt.rstripChars f "-").length ≤ 12 := by
  obtain ⟨hl, l, ok, e⟩ := h
  have e2 : L (Txt.rstripChars f "-") = l := by
    rw [rstrip_L]
    rcases e with e | e
    · rw [e]; exact (rstrip_cut ok).1
    · rw [e]; exact (rstrip_cut ok).2
  have hlen : (Txt.rstripChars f "-").length = l.length := by rw [← len_L, e2]
  have hlf : l.length ≤ f.length := by
    rw [← len_L f]
    rcases e with e | e <;> rw [e]
    · exact Nat.le_refl _
    · rw [List.length_append]; omega
  have g : Gd (Txt.rstripChars f "-") := ⟨by rw [e2]; exact ok, by omega⟩
  refine ⟨g.nm.isName, ?_, by omega⟩
  rw [hlen]
  have := ok_ne ok
  exact fun z => this (List.eq_nil_of_length_eq_zero z)
theorem last_at {f : Str} {c : Nat} (h : (L f).getLast? = some c) : atI f.cps.toList (-1) = some c := by
  obtain ⟨l, e⟩ : ∃ l, L f = l ++ [c] := by
    refine ⟨(L f).dropLast, ?_⟩
    have hne : L f ≠ [] := fun z => by rw [z] at h; simp at h
    have := List.dropLast_concat_getLast hne
    rw [List.getLast?_eq_some_getLast hne] at h
    injection h with h
    rw [← h]
    exact this.symm
  have e' : f.cps.toList = l ++ [c] := e
  rw [e']
  exact at_last _ _
theorem pairs_of {K : PySem.W.Frag} {H : Hp} : ∀ {qs : List (Addr × V × Addr × List Str)} {ys : List V}, Paired (fun r v => ∃ c, v = .ref c ∧ H c = some (.tup [.ref r.2.2.1, .int 0]) ∧ TupA H r.2.2.1 r.2.2.2) qs ys → PairsT K H ys (qs.map fun q => ((q.2.2.2.map Sum.inr : List Key), V.int 0))
  | [], _, .nil => .nil
  | q :: _, _, .cons ⟨c, rfl, a2, a3⟩ r => .cons ⟨c, q.2.2.1, rfl, SqT.of a2, by rw [List.map_map]; exact a3⟩ (pairs_of r)
section
variable {P : Program} {w : World} {K : PySem.W.Frag} {mg : Str → Option Value} {base : Heap} {f : Addr} {fd : FuncData}
theorem scLAre : FnScope ["_law_thing", "_law_row"] ["_law_thing"] (defScope sLAre) := ⟨rfl, rfl, rfl, by decide +kernel, rfl, by decide +kernel, by decide +kernel⟩
theorem ndC0 : (["_law_row"] : List Str).Nodup := by decide +kernel
theorem ok_lare {k : Nat} (F : Fun K "_law_are_rows" "_law_are_rows" sLAre f fd) (G : Blt mg) (hLAddr : Has P w K mg base "_law_is_address" k ["_law_thing"] (spAddr K)) : FnOk P w K mg base CX0 (k + 1) f fd ["_law_thing"] spLAre := by
  refine F.ok scLAre (fun vs H Q E h => ?_) (fun cdv A outer s H vs Q E hr h => ?_)
  · obtain ⟨v, t, rfl, _⟩ := h
    rfl
  obtain ⟨v, t, rfl, tr, few, q⟩ := h
  refine ⟨_, (pss_cons (ps_if (pt_not (pt_val (pe_callB call_isT rfl G.isi boot_isinstance (pa_cons (pv 0) (pa_cons (pe_bltn rfl G.tuple boot_tuple (v := .ty "tuple") rfl) pa_nil))))) (pss_one (ps_ret pe_bl)) pss_nil)
    (pss_cons (ps_for PassesOwn.never rfl (pi_tup (pv 0)) (pg_name (i := 1) scLAre.nd rfl (Or.inl rfl))
      (pss_one (ps_if (pt_mono (u := uRow K 1) (PW.pt (pw_or (pt_not (pt_val (pe_callB call_isT rfl G.isi boot_isinstance (pa_cons (pv 1) (pa_cons (pe_bltn rfl G.tuple boot_tuple (v := .ty "tuple") rfl) pa_nil))))) (pw_or (pt_cmpR op_ne (pe_callB call_len_seq rfl G.len PySem.boot_len (pa_cons (pv 1) pa_nil)) pe_int (nomark _)) (pw_or (pt_not (pt_val (pe_callH hLAddr hr rfl (pa_cons (pe_ix ix_tup (pv 1) pe_int fun _ _ => rfl) pa_nil)))) (pw_or1 (pt_not (pt_val (pe_callH hLAddr hr rfl (pa_cons (pe_ix ix_tup (pv 1) pe_int fun _ _ => rfl) pa_nil))))))))) fun σ H Q h => row_ok h) (pss_one (ps_ret pe_bl)) pss_nil)))
    (pss_one (ps_ret (pe_cmpR op_eq (pe_callB call_lenDT rfl G.len PySem.boot_len (pa_cons (pe_callTy (call_dictLT rfl (hu8 hr)) rfl G.dict boot_dict (pa_cons (pe_compF (te := (tTup (tCons (tOp (rIxT K) (tVar 0) (tC (.int 0))) (tCons (tC (.int 0)) tNil)))) (xs := ["_law_row"]) (ys := []) (js := []) rfl (by decide +kernel) (by decide +kernel) rfl (by decide +kernel) trivial
      (pi_tup (pv 0)) (fun _ _ _ _ _ => (pg_name (i := 0) ndC0 rfl (Or.inl rfl) (.inr rfl))) (fun _ _ _ _ _ => pts_nil) (fun _ _ _ _ _ => (pe_tup (pa_cons (pe_ix ix_tup (pv 0) pe_int fun _ _ => rfl) (pa_cons pe_int pa_nil))))) pa_nil)) pa_nil)) (pe_callB call_len_seq rfl G.len PySem.boot_len (pa_cons (pv 0) pa_nil)) (nomark _)))))), ?_⟩
  refine ⟨_, rfl, v, rfl, ?_⟩
  have q0 := q H (Same.refl H)
  have th : IsTh K H t v := tr.th
  cases t with
  | oth => exact .inr ⟨IsTh.noT (K := K) (t := .oth) th (fun _ e => nomatch e), _, rfl, iteT q0⟩
  | txt x => exact .inr ⟨IsTh.noT (K := K) (t := .txt x) th (fun _ e => nomatch e), _, rfl, iteT q0⟩
  | tup ts =>
    obtain ⟨a, xs, rfl, hq, hl, hx⟩ := tr
    obtain ⟨rs, rfl, rfl, hrs⟩ := hx.zip
    rw [List.length_map] at hl
    refine .inl ⟨a, _, rfl, SqT.of hq, _, rfl, iteF ?_⟩
    refine ⟨_, rfl, a, rfl, ⟨_, SqT.of hq⟩, ?_⟩
    refine for_tup (xs := rs.map (·.1)) (fun j σ H' => ∃ (v1 : Option V), σ = [some (.ref a), v1] ∧ Same H H' ∧ (∀ r ∈ rs.take j, rowT r.2 = true))
      ⟨_, rfl, Same.refl _, (fun r hr => by simp at hr)⟩ (fun j σ H' _ h => by obtain ⟨_, _, sm, _⟩ := h; exact SqT.of (sm _ _ hq)) ?_ ?_
    · rintro j x σ H1 hx' ⟨v1, rfl, s1, hrw⟩
      rw [List.getElem?_map] at hx'
      obtain ⟨r, hr', rfl⟩ : ∃ r, rs[j]? = some r ∧ r.1 = x := by
        cases hh : rs[j]? with
        | none => rw [hh] at hx'; cases hx'
        | some y => rw [hh] at hx'; injection hx' with hx'; exact ⟨y, rfl, hx'⟩
      have hrm := List.mem_of_getElem? hr'
      refine ⟨r.1, r.2, rfl, ((hrs r hrm).kp (Kp.same s1)).th, fun H2 s2 => ?_⟩
      have s12 := s1.trans s2
      cases hrow : rowT r.2 with
      | false =>
        refine iteT ?_
        have := q H2 s12
        rw [areT_no (List.mem_map.mpr ⟨r, hrm, rfl⟩) hrow] at this
        exact this
      | true =>
        refine iteF ⟨_, rfl, s12, fun z hz' => ?_⟩
        rw [List.take_add_one, hr'] at hz'
        rcases List.mem_append.mp hz' with hz' | hz'
        · exact hrw z hz'
        · have : z = r := by simpa using hz'
          rw [this]; exact hrow
    · rintro σ H1 ⟨v1, rfl, s1, hrw⟩
      rw [List.length_map, List.take_length] at hrw
      obtain ⟨qs, e1, e2, e3⟩ := rows_keysT hrs hrw
      have lq : qs.length = rs.length := by have := congrArg List.length e1; rw [List.length_map, List.length_map] at this; exact this
      rw [← e1] at hq
      have hq1 := s1 _ _ hq
      refine ⟨_, rfl, a, rfl, ⟨_, SqT.of hq1⟩, fun D hD => ?_⟩
      refine compF_genR (rs := qs) (fun r => .ref r.1) (fun r v H' => ∃ c, v = .ref c ∧ H' c = some (.tup [.ref r.2.2.1, .int 0]) ∧ TupA H' r.2.2.1 r.2.2.2) (fun r v H2 H3 t3 ⟨c, a1, a2, a3⟩ => ⟨c, a1, t3 _ _ a2, t3 _ _ a3⟩) D hD (tells_tup (SqT.of hq1)) (bigl _ (by omega)) ?_ ?_
      · intro r H2 R hr' s2 hR
        obtain ⟨k1, k2⟩ := e2 r hr'
        refine ⟨_, rfl, _, _, 0, _, rfl, rfl, SqT.of ((s1.trans s2) _ _ k1), rfl, big _ (show 2 ≤ 100000 by decide), fun c nc => ?_⟩
        have s3 := Same.new nc (.tup [V.ref r.2.2.1, V.int 0])
        exact hR _ _ s3 ⟨c, rfl, upd_same, s3 _ _ ((s1.trans s2) _ _ k2)⟩
      · intro H2 ys s2 hD2 hp
        have s12 := s1.trans s2
        have hly := Paired.length hp
        have hP := pairs_of (K := K) hp
        refine ⟨D, ys, _, rfl, hD2, hP, by omega, fun dd ndd => ?_⟩
        have s3 := Same.new ndd (.dT (mergeT [] (qs.map fun q => ((q.2.2.2.map Sum.inr : List Key), V.int 0))))
        refine ⟨dd, _, rfl, upd_same, ?_⟩
        refine ⟨_, rfl, a, _, rfl, .inr (SqT.of (s3 _ _ (s12 _ _ hq))), rfl, ?_⟩
        have qf := q _ (s12.trans s3)
        have ml := mergeT_len (qs.map fun q => ((q.2.2.2.map Sum.inr : List Key), V.int 0)) [] List.nodup_nil
        have e5 : ((([] : List (List Key × V)) ++ (qs.map fun q : Addr × V × Addr × List Str => ((q.2.2.2.map Sum.inr : List Key), V.int 0))).map (·.1)) = (qs.map fun q => q.2.2.2).map fun u => (u.map Sum.inr : List Key) := by rw [List.nil_append, List.map_map, List.map_map]; rfl
        have e6 : ((mergeT [] (qs.map fun q => ((q.2.2.2.map Sum.inr : List Key), V.int 0))).length = qs.length) ↔ (rs.map fun r => keyT (fstT r.2)).Nodup := by
          have h2 := ml.2
          rw [List.length_nil, Nat.zero_add, List.length_map, e5] at h2
          rw [h2, ← e3]
          constructor
          · intro hn
            exact (List.pairwise_map.mp hn).imp fun hne e => hne (by rw [e])
          · intro hn
            exact List.pairwise_map.mpr (hn.imp fun hne e => hne (Co.inrT_inj e))
        have e7 : areT (.tup (rs.map (·.2))) = decide (V.int ((mergeT [] (qs.map fun q => ((q.2.2.2.map Sum.inr : List Key), V.int 0))).length : Nat) = V.int ((qs.map fun q => V.ref q.1).length : Nat)) := by
          rw [List.length_map]
          by_cases nd : (rs.map fun r => keyT (fstT r.2)).Nodup
          · rw [areT_yes (fun t ht => by obtain ⟨r, hr', rfl⟩ := List.mem_map.mp ht; exact hrw r hr') (by rw [List.map_map]; exact nd), decide_eq_true (by rw [e6.mpr nd])]
          · rw [areT_dup (by rw [List.map_map]; exact nd), decide_eq_false (fun e => nd (e6.mp (by injection e with e; omega)))]
        rw [e7] at qf
        exact qf
theorem scMName : FnScope ["_law_script", "_law_town", "_law_found", "_law_k", "_law_sign"] ["_law_script", "_law_town"] (defScope sMName) := ⟨rfl, rfl, rfl, by decide +kernel, rfl, by decide +kernel, by decide +kernel⟩
theorem ok_mname {k : Nat} (F : Fun K "_law_name" "_law_name" sMName f fd) (G : Blt mg) (hDraw : Has P w K mg base "_law_draw" k ["_law_script", "_law_town", "_law_many"] (spDraw K)) (hPick : Has P w K mg base "_law_pick" k ["_law_script", "_law_town", "_law_some"] (spPick K)) :
    FnOk P w K mg base CX0 (k + 1) f fd ["_law_script", "_law_town"] (spMName K) := by
  refine F.ok scMName (fun vs H Q E h => ?_) (fun cdv A outer s H vs Q E hr h => ?_)
  · obtain ⟨a, t, ns, zs, rfl, _⟩ := h
    rfl
  obtain ⟨a, t, ns, zs, rfl, hS, h63, hT, hz, q⟩ := h
  refine ⟨_, (pss_cons (ps_set (i := 2) scMName.nd rfl (Or.inl rfl) (pe_callH hPick hr rfl (pa_cons (pv 0) (pa_cons (pv 1) (pa_cons pe_str pa_nil)))))
    (pss_cons (ps_for PassesOwn.never rfl (pi_range1 rfl G.range (pa_cons (pe_callH hDraw hr rfl (pa_cons (pv 0) (pa_cons (pv 1) (pa_cons pe_int pa_nil)))) pa_nil)) (pg_name (i := 3) scMName.nd rfl (Or.inl rfl))
      (pss_cons (ps_set (i := 4) scMName.nd rfl (Or.inl rfl) (pe_callH hPick hr rfl (pa_cons (pv 0) (pa_cons (pv 1) (pa_cons pe_str pa_nil)))))
      (pss_one (ps_set (i := 2) scMName.nd rfl (Or.inl rfl) (pe_op op_add_str (pv 2) (pe_ifExp (PW.pt (pw_or (pt_cmpR op_ne (pv 4) pe_str (nomark _)) (pw_or1 (pt_cmpR op_ne (pe_ix ix_str (pv 2) (pe_un un_neg pe_int) fun _ _ => rfl) pe_str (nomark _))))) (pv 4) pe_str))))))
    (pss_one (ps_ret (pe_orS (pe_bm PySem.F.plainAttrs_str PySem.F.slot_str_rstrip PySem.F.type_str_rstrip mt_rstrip (pv 2) (pa_cons pe_str pa_nil)) (pe_one pe_str)))))), ?_⟩
  refine ⟨_, rfl, _, rfl, a, t, ns, zs, hS, h63, hT, by omega, .inr ⟨"abz09", rfl, by decide +kernel, by decide +kernel, fun c H1 hc hT1 st1 => ?_⟩⟩
  rw [s5_is] at hc
  have hcw : c ∈ WSL := by
    have : ∀ c ∈ ([97, 98, 122, 48, 57] : List Nat), c ∈ WSL := by decide
    exact this c hc
  have hS1 := hS.stp hT st1
  refine ⟨_, rfl, _, rfl, a, t, ns, _, 12, rfl, hS1, h63, hT1, by rw [List.length_append, List.length_singleton]; omega, by decide, fun mm H2 hm0 hm1 hT2 st2 => ?_⟩
  have hS2 := hS1.stp hT1 st2
  refine ⟨mm, rfl, by omega, by omega, ?_⟩
  refine for_range (n := mm.toNat) (fun j σ H' => ∃ (v3 v4 : Option V) (x : Str) (zs' : List V), σ = [some (.ref a), some (.ref t), some (.str x), v3, v4] ∧ Mk (j + 1) x ∧ H' t = some (.lst zs') ∧ zs'.length ≤ zs.length + 2 + j ∧ Stp t H H' ∧ Scr K H' a ns)
    ⟨_, _, _, _, rfl, ⟨Nat.le_refl _, [c], one_ok hcw, .inl rfl⟩, hT2, by simp only [List.length_append, List.length_singleton]; omega, st1.trans st2, hS2⟩ ?_ ?_
  · rintro j σ H3 hj ⟨v3, v4, x, zs3, rfl, mk3, hT3, hz3, st3, hS3⟩
    refine ⟨_, rfl, _, rfl, a, t, ns, zs3, hS3, h63, hT3, by omega, .inr ⟨"abz09-", rfl, by decide +kernel, by decide +kernel, fun c H4 hc4 hT4 st4 => ?_⟩⟩
    rw [s6_is] at hc4
    have hl := mk3.1
    have hS4 := hS3.stp hT3 st4
    have fin : ∀ y : Str, Mk (j + 1 + 1) y → ∃ (v3 v4 : Option V) (x : Str) (zs' : List V), [some (.ref a), some (.ref t), some (.str y), some (.int (0 + (j : Int))), some (.str ⟨#[c]⟩)] = [some (.ref a), some (.ref t), some (.str x), v3, v4] ∧ Mk (j + 1 + 1) x ∧ H4 t = some (.lst zs') ∧ zs'.length ≤ zs.length + 2 + (j + 1) ∧ Stp t H H4 ∧ Scr K H4 a ns :=
      fun y my => ⟨_, _, y, _, rfl, my, hT4, by rw [List.length_append, List.length_singleton]; omega, st3.trans st4, hS4⟩
    have e45 : ("-" : Str) = ⟨#[45]⟩ := by decide +kernel
    have eq : ("q" : Str) = ⟨#[113]⟩ := by decide +kernel
    have l1 : ∀ c : Nat, (⟨#[c]⟩ : Str).length = 1 := fun _ => rfl
    refine ⟨_, rfl, _, rfl, rfl, _, rfl, ?_⟩
    by_cases hd : c = 45
    · subst hd
      obtain ⟨c0, hc0⟩ : ∃ c0, (L x).getLast? = some c0 := by
        obtain ⟨_, l, ok, e⟩ := mk3
        have hne : L x ≠ [] := fun z => by
          rcases e with e | e
          · exact ok_ne ok (e ▸ z)
          · rw [e] at z; simp at z
        exact ⟨_, List.getLast?_eq_some_getLast hne⟩
      refine ifN (by rw [e45]) ⟨_, rfl, 1, rfl, x, -1, c0, rfl, rfl, big _ (by omega), last_at hc0, rfl, _, rfl, ?_⟩
      by_cases h0 : c0 = 45
      · refine ifN (by rw [h0, e45]) ⟨_, _, rfl, rfl, big _ (by rw [eq, l1]; omega), ?_⟩
        rw [eq]
        exact fin _ (mk_sign mk3 (by decide))
      · refine ifY (fun e => h0 (by injection e with e; rw [e45] at e; injection e with e; simpa using e)) ⟨_, rfl, _, _, rfl, rfl, big _ (by rw [l1]; omega), ?_⟩
        exact fin _ (mk_dash mk3 (by rw [hc0]; intro e; exact h0 (Option.some.inj e)))
    · refine ifY (fun e => hd (by injection e with e; rw [e45] at e; injection e with e; simpa using e)) (iteT ⟨_, rfl, _, _, rfl, rfl, big _ (by rw [l1]; omega), ?_⟩)
      exact fin _ (mk_sign mk3 (by
        have : ∀ c ∈ ([97, 98, 122, 48, 57, 45] : List Nat), c ≠ 45 → c ∈ WSL := by decide
        exact this c hc4 hd))
  · rintro σ H3 ⟨v3, v4, x, zs3, rfl, mk3, hT3, hz3, st3, hS3⟩
    obtain ⟨d1, d2, d3⟩ := mk_done mk3 (by omega)
    have hl := mk3.1
    refine ⟨_, rfl, rfl, x, _, rfl, rfl, big _ (by omega), _, rfl, big _ (by omega), ?_⟩
    rw [show (((Txt.rstripChars x "-").length : Int) != 0) = true by simpa using d2]
    exact iteT (q _ zs3 H3 hT3 (by omega) st3 d1)
end
end LW
namespace LW
open PySem L2 Mi Co
theorem tr_tup {H : Hp} {c : Addr} (rs : List (V × Thing)) (h : H c = some (.tup (rs.map (·.1)))) (hl : rs.length ≤ 1000) (ht : ∀ r ∈ rs, IsTr H r.2 r.1) : IsTr H (.tup (rs.map (·.2))) (.ref c) := ⟨c, _, rfl, h, by rw [List.length_map]; exact hl, AreTr.unzip rs ht⟩
theorem few_tup {ts : List Thing} (h : ts.length ≤ 18) : Few (.tup ts) := fun us e => by injection e with e; rw [← e]; exact h
theorem few_oth : Few .oth := fun _ e => nomatch e
theorem few_txt (x : Str) : Few (.txt x) := fun _ e => nomatch e
def Okt (H : Hp) (r : V × Thing) : Prop := IsTr H r.2 r.1 ∧ Few r.2
theorem Okt.kp {H H' : Hp} {r : V × Thing} (h : Okt H r) (k : Kp H H') : Okt H' r := ⟨h.1.kp k, h.2⟩
theorem okt_str {H : Hp} {x : Str} (h : x.length ≤ 1000) : Okt H (.str x, .txt x) := ⟨⟨rfl, h⟩, few_txt x⟩
def spTexts (K : PySem.W.Frag) : Sp := fun vs H Q _ => ∃ (a t : Addr) (ns : List Int) (zs : List V) (x : Str), vs = [.ref a, .ref t, .str x] ∧ Scr K H a ns ∧ ns.length ≤ 63 ∧ H t = some (.lst zs) ∧ zs.length < 60000 ∧ x.length ≤ 100 ∧
  ∀ (l : Addr) (rs : List (V × Thing)) (zs' : List V) (H' : Hp), H' t = some (.lst zs') → zs'.length ≤ zs.length + 1 → Stp t H H' → H' l = some (.lst (rs.map (·.1))) → l ≠ t → (∀ r ∈ rs, Okt H' r) → rs.length ≤ 100 → Q (.ref l) H'
def Bd : Nat → Thing → Prop
  | 0, th => ∃ x, th = .txt x ∧ x.length ≤ 100
  | n + 1, th => (∃ x, th = .txt x ∧ x.length ≤ 100) ∨ ∃ ts, th = .tup ts ∧ 1 ≤ ts.length ∧ ts.length ≤ 4 ∧ ∀ t ∈ ts, Bd n t
def spBent (K : PySem.W.Frag) : Nat → Sp
  | 0 => fun _ _ _ _ => False
  | n + 1 => fun vs H Q _ => ∃ (a t : Addr) (ns : List Int) (zs : List V) (v : V) (th : Thing), vs = [.ref a, .ref t, v] ∧ Scr K H a ns ∧ ns.length ≤ 63 ∧ H t = some (.lst zs) ∧ zs.length + 4 ^ n < 60000 ∧ IsTr H th v ∧ Bd n th ∧
    ∀ (l : Addr) (rs : List (V × Thing)) (zs' : List V) (H' : Hp), H' t = some (.lst zs') → zs'.length ≤ zs.length + 4 ^ n → Stp t H H' → H' l = some (.lst (rs.map (·.1))) → l ≠ t → (∀ r ∈ rs, Okt H' r) → rs.length ≤ 100 → Q (.ref l) H'
def spHold : Sp := fun vs H Q _ => ∃ v t, vs = [v] ∧ IsTr H t v ∧ Few t ∧ ∀ H', Same H H' → Q (.bl true) H'
section
variable {P : Program} {w : World} {K : PySem.W.Frag} {mg : Str → Option Value} {base : Heap} {f : Addr} {fd : FuncData}
theorem scHold : FnScope ["_law_thing"] ["_law_thing"] (defScope sHold) := ⟨rfl, rfl, rfl, by decide +kernel, rfl, by decide +kernel, by decide +kernel⟩
theorem ok_hold {k : Nat} (F : Fun K "_law_hold" "_law_hold" sHold f fd) (hName : Has P w K mg base "is_name" k ["thing"] (spNameV K)) (hLName : Has P w K mg base "_law_is_name" k ["_law_thing"] (spNameV K)) (hTitle : Has P w K mg base "is_title" k ["thing"] (spTitleV K)) (hLTitle : Has P w K mg base "_law_is_title" k ["_law_thing"] (spTitleV K))
    (hAddr : Has P w K mg base "is_address" k ["thing"] (spAddr K)) (hLAddr : Has P w K mg base "_law_is_address" k ["_law_thing"] (spAddr K)) (hAre : Has P w K mg base "are_rows" k ["thing"] (spAre K)) (hLAre : Has P w K mg base "_law_are_rows" k ["_law_thing"] spLAre) :
    FnOk P w K mg base CX0 (k + 1) f fd ["_law_thing"] spHold := by
  refine F.ok scHold (fun vs H Q E h => ?_) (fun cdv A outer s H vs Q E hr h => ?_)
  · obtain ⟨v, t, rfl, _⟩ := h
    rfl
  obtain ⟨v, t, rfl, tr, few, q⟩ := h
  refine ⟨_, (pss_cons (ps_if (PW.pt (pw_or (pt_cmpR op_ne (pe_callH hName hr rfl (pa_cons (pv 0) pa_nil)) (pe_callH hLName hr rfl (pa_cons (pv 0) pa_nil)) (nomark _)) (pw_or1 (pt_cmpR op_ne (pe_callH hTitle hr rfl (pa_cons (pv 0) pa_nil)) (pe_callH hLTitle hr rfl (pa_cons (pv 0) pa_nil)) (nomark _))))) (pss_one (ps_ret pe_bl)) pss_nil)
    (pss_one (ps_ret (pe_and (pe_cmpR op_eq (pe_callH hAddr hr rfl (pa_cons (pv 0) pa_nil)) (pe_callH hLAddr hr rfl (pa_cons (pv 0) pa_nil)) (nomark _)) (pe_one (pe_cmpR op_eq (pe_callH hAre hr rfl (pa_cons (pv 0) pa_nil)) (pe_callH hLAre hr rfl (pa_cons (pv 0) pa_nil)) (nomark _))))))), ?_⟩
  have th : IsTh K H t v := tr.th
  refine ⟨_, rfl, v, rfl, th.thg0, fun H1 s1 => ⟨_, rfl, v, rfl, (th.same s1).thg0, fun H2 s2 => ⟨rfl, _, rfl, ifN rfl ?_⟩⟩⟩
  have s12 := s1.trans s2
  refine ⟨_, rfl, v, rfl, (th.same s12).thg0, fun H3 s3 => ⟨_, rfl, v, rfl, (th.same (s12.trans s3)).thg0, fun H4 s4 => ⟨rfl, _, rfl, ifN rfl ?_⟩⟩⟩
  have s14 := s12.trans (s3.trans s4)
  refine ⟨_, rfl, ?_⟩
  dsimp only [tNil, List.cons_append, List.nil_append, List.append_nil]
  refine addr_at (th.same s14) fun H5 s5 => ⟨_, rfl, ?_⟩
  dsimp only [tNil, List.cons_append, List.nil_append, List.append_nil]
  refine addr_at ((th.same s14).same s5) fun H6 s6 => ⟨rfl, _, rfl, iteY rfl ?_⟩
  have s16 := s14.trans (s5.trans s6)
  refine ⟨_, rfl, v, t, rfl, th.same s16, (fun ts e _ => few ts e), fun H7 s7 => ⟨_, rfl, v, t, rfl, tr.kp (Kp.same (s16.trans s7)), few, fun H8 s8 => ⟨rfl, ?_⟩⟩⟩
  rw [decide_eq_true rfl]
  exact q H8 ((s16.trans s7).trans s8)
end
end LW
namespace LW
open PySem L2 Mi Co
def strsM : List Expr → List Str → Bool
  | [], [] => true
  | .Constant (.str x) _ _ :: es, t :: ts => decide (x = t) && strsM es ts
  | .BinOp (.Constant (.str z) _ _) .Mult (.Constant (.int k) _ _) _ :: es, t :: ts => decide (repS z k.toNat = t) && decide (z.length = 1) && decide (2 ≤ k) && decide (k ≤ 100) && strsM es ts
  | _, _ => false
theorem pa_strsM {X : Cx} : ∀ {es : List Expr} (ts : List Str), strsM es ts = true → PA X es (tStrs ts)
  | [], [], _ => fun pos pins s σ H Q I q => pa_nil pos pins s σ H Q I q
  | [], _ :: _, h => by cases h
  | e :: es, ts, h => by
    unfold strsM at h
    split at h
    · rename_i h1 h2; cases h2
    · rename_i x _ _ es' t ts' h1
      cases h1
      rw [Bool.and_eq_true, decide_eq_true_eq] at h
      obtain ⟨rfl, h2⟩ := h
      have ih := pa_strsM (X := X) ts' h2
      intro pos pins s σ H Q I q
      exact pa_cons pe_str ih rfl pos pins s σ H Q I q
    · rename_i z _ _ k _ _ _ es' t ts' h1
      cases h1
      simp only [Bool.and_eq_true, decide_eq_true_eq] at h
      obtain ⟨⟨⟨⟨rfl, h1⟩, h2⟩, h3⟩, h4⟩ := h
      have ih := pa_strsM (X := X) ts' h4
      intro pos pins s σ H Q I q
      exact pa_cons (pe_op op_mulS pe_str pe_int) ih rfl pos pins s σ H Q I ⟨z, k, rfl, rfl, h2, by omega, by omega, by omega, q⟩
    · cases h
def sT (i : Nat) : Stmt := (defBody sTexts).getD i (.Pass ⟨0, 0, 0, 0⟩)
def valT : Stmt → Expr
  | .Assign _ e _ => e
  | _ => .Constant .none 0 ⟨0, 0, 0, 0⟩
def eltC : Expr → Expr
  | .ListComp e _ _ _ => e
  | _ => .Constant .none 0 ⟨0, 0, 0, 0⟩
def iterC : Expr → Expr
  | .ListComp _ (g :: _) _ _ => g.iter
  | _ => .Constant .none 0 ⟨0, 0, 0, 0⟩
def scopeC (d : Scope) : Expr → Scope
  | .ListComp _ _ s _ => s
  | _ => d
def tup8 : Expr := iterC (valT (sT 1))
def elt8 : Expr := eltC (valT (sT 1))
def scp8 : Scope := scopeC (defScope sTexts) (valT (sT 1))
def EIGHT : List Str := ["-", "--", "A", " ", "_", "z", "abcdefghijkl", repS "x" 30]
theorem tup8_is : isTupE tup8 = true := rfl
theorem tup8_strs : strsM (eltsT tup8) EIGHT = true := by decide +kernel
theorem body_texts : ∃ (p1 p2 p3 p4 : Pos), defBody sTexts = [sT 0, .Assign [.Name "_law_found" p1] (.ListComp elt8 [⟨.Name "_law_sign" p2, tup8, [], 0⟩] scp8 p3) p4, sT 2] ∧ (p1.line == p3.line) = true := ⟨_, _, _, _, rfl, rfl⟩
theorem pd8 {X : Cx} {e : Expr} (he : e = tup8) : PE X e (fun _ H Q => ∀ p, H p = none → Q (.ref p) (upd H p (.tup (EIGHT.map V.str)))) := by
  have h0 : isTupE e = true := he ▸ tup8_is
  have h : strsM (eltsT e) EIGHT = true := he ▸ tup8_strs
  cases e <;> first | cases h0 | skip
  rename_i es k pos
  refine pe_mono (pe_tup (pa_strsM EIGHT h)) fun σ H Q q => ?_
  exact ⟨big _ (by rw [List.length_map]; decide), q⟩
theorem fold8 {e : Expr} (he : e = tup8) (env : Env) (v : Value) : foldedSetIterable e env v = pure v := by subst he; rfl
theorem scp8_no : (scp8.names.any fun x => x.1 == ("_law_found" : Str) && (x.2 == .local || x.2 == .cell)) = false := by decide +kernel
theorem sw8 {e : Expr} {env : Env} {p1 p2 p3 : Pos} {l : Nat} (hl : (p1.line == p3.line) = true) (hb : (env.blockKind == .function) = true) (hk : (env.kindOf "_law_found" == some .local) = true) : swapsWith (.ListComp elt8 [⟨.Name "_law_sign" p2, e, [], 0⟩] scp8 p3) (some (.Name "_law_found" p1)) l env = pure true := by
  show (pure (env.blockKind == .function && env.kindOf "_law_found" == some .local && p1.line == p3.line && !(scp8.names.any fun x => x.1 == ("_law_found" : Str) && (x.2 == .local || x.2 == .cell))) : Sem Bool) = pure true
  rw [hb, hk, hl, scp8_no]
  rfl
theorem eight_len : ∀ t ∈ EIGHT, t.length ≤ 30 := by decide +kernel
section
variable {P : Program} {w : World} {K : PySem.W.Frag} {mg : Str → Option Value} {base : Heap} {f : Addr} {fd : FuncData}
theorem scTexts : FnScope ["_law_script", "_law_town", "_law_text", "_law_at", "_law_found"] ["_law_script", "_law_town", "_law_text"] (defScope sTexts) := ⟨rfl, rfl, rfl, by decide +kernel, rfl, by decide +kernel, by decide +kernel⟩
theorem ndI0 : (["_law_sign", "_law_text", "_law_at"] : List Str).Nodup := by decide +kernel
theorem ok_texts {k : Nat} (F : Fun K "_law_texts" "_law_texts" sTexts f fd) (G : Blt mg) (hDraw : Has P w K mg base "_law_draw" k ["_law_script", "_law_town", "_law_many"] (spDraw K)) : FnOk P w K mg base CX0 (k + 1) f fd ["_law_script", "_law_town", "_law_text"] (spTexts K) := by
  refine F.ok scTexts (fun vs H Q E h => ?_) (fun cdv A outer s H vs Q E hr h => ?_)
  · obtain ⟨a, t, ns, zs, x, rfl, _⟩ := h
    rfl
  obtain ⟨a, t, ns, zs, x, rfl, hS, h63, hT, hz, hx, q⟩ := h
  obtain ⟨p1, p2, p3, p4, hbody, hline⟩ := body_texts
  rw [hbody]
  obtain ⟨e1, he1⟩ : ∃ e, e = tup8 := ⟨_, rfl⟩
  rw [← he1]
  refine ⟨_, (pss_cons (ps_set (i := 3) scTexts.nd rfl (Or.inr rfl) (pe_callH hDraw hr rfl (pa_cons (pv 0) (pa_cons (pv 1) (pa_cons (pe_op op_add (pe_callB call_len_str rfl G.len PySem.boot_len (pa_cons (pv 2) pa_nil)) pe_int) pa_nil)))))
    (pss_cons (ps_compF (hs := fun v => fold8 he1 _ v) (hsw := sw8 hline rfl rfl) (ix := 4) (te := (tOp rAddS (tOp rAddS (tSl rSlS (tVar 1) tNoPart (tPart (tVar 2))) (tVar 0)) (tSl rSlS (tVar 1) (tPart (tVar 2)) tNoPart))) (xs := ["_law_sign"]) (ys := ["_law_text", "_law_at"]) (js := [2, 3]) rfl (by decide +kernel) (by decide +kernel) rfl (by decide +kernel) ⟨rfl, .inl rfl, rfl, rfl, .inl rfl, rfl, trivial⟩
      (pi_tup (pd8 he1)) (fun _ _ _ _ _ => (pg_name (i := 0) ndI0 rfl (Or.inl rfl) (.inr rfl))) (fun _ _ _ _ _ => pts_nil) (fun _ _ _ _ _ => (pe_op op_addS (pe_op op_addS (pe_slice sl_str (pv 1) po_none (po_some (pv 2))) (pv 0)) (pe_slice sl_str (pv 1) (po_some (pv 2)) po_none))) scTexts.nd rfl (Or.inl rfl))
    (pss_one (ps_ret (pe_op op_cat (pv 4) (pe_lst (pa_cons (pe_slice sl_str (pv 2) (po_some pe_int) po_none) (pa_cons (pe_slice sl_str (pv 2) po_none (po_some (pe_un un_neg pe_int))) (pa_cons pe_str (pa_cons (pe_op op_add_str (pv 2) (pv 2)) (pa_cons pe_non (pa_cons pe_int (pa_cons pe_bl (pa_cons (pe_tup (pa_cons (pv 2) pa_nil)) (pa_cons (pe_lst (pa_cons (pv 2) pa_nil)) pa_nil))))))))))))))), ?_⟩
  refine ⟨_, rfl, _, rfl, _, rfl, x, rfl, big _ (by omega), _, _, rfl, rfl, a, t, ns, zs, _, rfl, hS, h63, hT, by omega, by omega, fun r1 H1 hr0 hr1 hT1 st1 => ?_⟩
  obtain ⟨k1, rfl⟩ := Int.eq_ofNat_of_zero_le hr0
  refine fun tq ntq => ?_
  have s2 := Same.new ntq (.tup (EIGHT.map V.str))
  have hq2 : (upd H1 tq (.tup (EIGHT.map V.str)) : Hp) tq = some (.tup (EIGHT.map V.str)) := upd_same
  generalize (upd H1 tq (.tup (EIGHT.map V.str)) : Hp) = H2 at *
  refine ⟨tq, rfl, ⟨_, SqT.of hq2⟩, fun D hD => ?_⟩
  have hDt : D ≠ t := (ne_of_none (s2 _ _ hT1) hD).symm
  have a1 := slice_len x none (some (k1 : Int))
  have a2 := slice_len x (some (k1 : Int)) none
  have a3 := slice_len x (some 1) none
  have a4 := slice_len x none (some (-1))
  refine compF_gen (rs := EIGHT) V.str (fun sg => .str (Txt.slice x none (some (k1 : Int)) ++ sg ++ Txt.slice x (some (k1 : Int)) none)) (fun _ => true) D hD (tells_tup (SqT.of hq2)) (bigl _ (by decide)) ?_ ?_ ?_
  · intro r H3 R hr' _ hR
    exact hR H3 (Same.refl H3)
  · intro sg H3 R hsg _ s3 hR
    have b1 := eight_len sg hsg
    exact ⟨_, rfl, _, rfl, (k1 : Int), rfl, _, rfl, big _ (by omega), _, rfl, _, _, rfl, rfl, big _ (by omega), _, rfl, _, rfl, (k1 : Int), rfl, _, rfl, big _ (by omega), _, _, rfl, rfl, big _ (by rw [app_length]; omega), hR H3 (Same.refl H3)⟩
  · intro H3 s3 hD3
    rw [List.filter_eq_self.mpr (fun _ _ => rfl)] at hD3
    refine ⟨_, rfl, _, rfl, 1, rfl, x, rfl, big _ (by omega), _, rfl, 1, rfl, -1, rfl, x, rfl, big _ (by omega), _, rfl, _, rfl, _, _, rfl, rfl, big _ (by omega), _, rfl, big _ (show 1 ≤ 100000 by decide), fun c1 nc1 => ?_⟩
    have s4 := Same.new nc1 (.tup [V.str x])
    have hc1 : (upd H3 c1 (.tup [V.str x]) : Hp) c1 = some (.tup [V.str x]) := upd_same
    generalize (upd H3 c1 (.tup [V.str x]) : Hp) = H4 at *
    refine ⟨_, rfl, big _ (show 1 ≤ 100000 by decide), fun c2 nc2 => ?_⟩
    have s5 := Same.new nc2 (.lst [V.str x])
    have hc2 : (upd H4 c2 (.lst [V.str x]) : Hp) c2 = some (.lst [V.str x]) := upd_same
    generalize (upd H4 c2 (.lst [V.str x]) : Hp) = H5 at *
    refine ⟨big _ (show 9 ≤ 100000 by decide), fun c3 nc3 => ?_⟩
    obtain ⟨L9, hL9⟩ : ∃ L9 : List V, L9 = [V.str (Txt.slice x (some 1) none), V.str (Txt.slice x none (some (-1))), V.str "", V.str (x ++ x), V.non, V.int 7, V.bl true, V.ref c1, V.ref c2] := ⟨_, rfl⟩
    rw [← hL9]
    have s6 := Same.new nc3 (.lst L9)
    have hc3 : (upd H5 c3 (.lst L9) : Hp) c3 = some (.lst L9) := upd_same
    generalize (upd H5 c3 (.lst L9) : Hp) = H6 at *
    have s36 := s4.trans (s5.trans s6)
    refine ⟨D, c3, _, _, rfl, rfl, s36 _ _ hD3, hc3, big _ (by rw [hL9, List.length_map]; exact (show 8 + 9 ≤ 100000 by decide)), fun c4 nc4 => ?_⟩
    have s7 := Same.new nc4 (.lst ((EIGHT.map fun sg => V.str (Txt.slice x none (some (k1 : Int)) ++ sg ++ Txt.slice x (some (k1 : Int)) none)) ++ L9))
    have hc4 : (upd H6 c4 (.lst ((EIGHT.map fun sg => V.str (Txt.slice x none (some (k1 : Int)) ++ sg ++ Txt.slice x (some (k1 : Int)) none)) ++ L9)) : Hp) c4 = some (.lst ((EIGHT.map fun sg => V.str (Txt.slice x none (some (k1 : Int)) ++ sg ++ Txt.slice x (some (k1 : Int)) none)) ++ L9)) := upd_same
    generalize (upd H6 c4 (.lst ((EIGHT.map fun sg => V.str (Txt.slice x none (some (k1 : Int)) ++ sg ++ Txt.slice x (some (k1 : Int)) none)) ++ L9)) : Hp) = H7 at *
    have s17 := (s2.trans s3).trans (s36.trans s7)
    have hT7 := s17 _ _ hT1
    have h4t : c4 ≠ t := fun z => by
      have := ((s2.trans s3).trans s36) _ _ hT1
      rw [← z, nc4] at this
      cases this
    refine q c4 ((EIGHT.map fun sg => (V.str (Txt.slice x none (some (k1 : Int)) ++ sg ++ Txt.slice x (some (k1 : Int)) none), Thing.txt (Txt.slice x none (some (k1 : Int)) ++ sg ++ Txt.slice x (some (k1 : Int)) none))) ++
      [(V.str (Txt.slice x (some 1) none), .txt (Txt.slice x (some 1) none)), (V.str (Txt.slice x none (some (-1))), .txt (Txt.slice x none (some (-1)))), (V.str "", .txt ""), (V.str (x ++ x), .txt (x ++ x)), (V.non, .oth), (V.int 7, .oth), (V.bl true, .oth), (V.ref c1, .tup [.txt x]), (V.ref c2, .oth)]) _ H7 hT7 (by rw [List.length_append, List.length_singleton]; omega) (st1.trans s17.stp) ?_ h4t ?_ (by rw [List.length_append, List.length_map]; exact (show 8 + 9 ≤ 100 by decide))
    · rw [hc4, hL9, List.map_append, List.map_map]
      rfl
    · intro r hr'
      rcases List.mem_append.mp hr' with hr' | hr'
      · obtain ⟨sg, hsg, rfl⟩ := List.mem_map.mp hr'
        have b1 := eight_len sg hsg
        exact okt_str (by rw [app_length, app_length]; omega)
      · simp only [List.mem_cons, List.not_mem_nil, or_false] at hr'
        rcases hr' with rfl | rfl | rfl | rfl | rfl | rfl | rfl | rfl | rfl
        · exact okt_str (by omega)
        · exact okt_str (by omega)
        · exact okt_str (by decide +kernel)
        · exact okt_str (by rw [app_length]; omega)
        · exact ⟨.inl rfl, few_oth⟩
        · exact ⟨.inr (.inl ⟨7, rfl⟩), few_oth⟩
        · exact ⟨.inr (.inr (.inl ⟨true, rfl⟩)), few_oth⟩
        · exact ⟨⟨c1, _, rfl, (s5.trans (s6.trans s7)) _ _ hc1, (show 1 ≤ 1000 by decide), _, _, rfl, ⟨rfl, by omega⟩, rfl⟩, few_tup (show 1 ≤ 18 by decide)⟩
        · exact ⟨.inr (.inr (.inr ⟨c2, _, rfl, (s6.trans s7) _ _ hc2⟩)), few_oth⟩
end
end LW
namespace LW
open PySem L2 Mi Co
theorem bd_cases {n : Nat} {th : Thing} (h : Bd n th) : (∃ x, th = .txt x ∧ x.length ≤ 100) ∨ ∃ m ts, n = m + 1 ∧ th = .tup ts ∧ 1 ≤ ts.length ∧ ts.length ≤ 4 ∧ ∀ t ∈ ts, Bd m t := by
  cases n with
  | zero => exact .inl h
  | succ m =>
    rcases h with h | ⟨ts, h⟩
    · exact .inl h
    · exact .inr ⟨m, ts, rfl, h⟩
section
variable {P : Program} {w : World} {K : PySem.W.Frag} {mg : Str → Option Value} {base : Heap} {f : Addr} {fd : FuncData}
theorem scBent : FnScope ["_law_script", "_law_town", "_law_thing", "_law_found", "_law_at", "_law_part", "_law_bad"] ["_law_script", "_law_town", "_law_thing"] (defScope sBent) := ⟨rfl, rfl, rfl, by decide +kernel, rfl, by decide +kernel, by decide +kernel⟩
theorem ok_bent (F : Fun K "_law_bent" "_law_bent" sBent f fd) (G : Blt mg) (hb : Binds K fd ["_law_script", "_law_town", "_law_thing"] []) (hk : PySem.W.keepIn K (.ref f) = true) (hm : mg "_law_bent" = some (.ref f)) (hTexts : Has P w K mg base "_law_texts" 2 ["_law_script", "_law_town", "_law_text"] (spTexts K)) :
    ∀ n : Nat, FnOk P w K mg base CX0 (n + 2) f fd ["_law_script", "_law_town", "_law_thing"] (spBent K n)
  | 0 => ⟨fun _ _ _ _ h => h.elim, fun _ _ _ _ _ _ _ _ _ _ _ _ _ h => h.elim⟩
  | n + 1 => by
    have hBent : Has P w K mg base "_law_bent" (n + 2) ["_law_script", "_law_town", "_law_thing"] (spBent K n) := ⟨f, fd, ok_bent F G hb hk hm hTexts n, hb, hk, hm⟩
    have hTexts : Has P w K mg base "_law_texts" (n + 2) ["_law_script", "_law_town", "_law_text"] (spTexts K) := hTexts.mono (by omega)
    refine F.ok scBent (fun vs H Q E h => ?_) (fun cdv A outer s H vs Q E hr h => ?_)
    · obtain ⟨a, t, ns, zs, v, th, rfl, _⟩ := h
      rfl
    obtain ⟨a, t, ns, zs, v, th, rfl, hS, h63, hT, hz, tr, bd, q⟩ := h
    refine ⟨_, (pss_cons (ps_if (pt_not (pt_val (pe_callB call_isT rfl G.isi boot_isinstance (pa_cons (pv 2) (pa_cons (pe_bltn rfl G.tuple boot_tuple (v := .ty "tuple") rfl) pa_nil))))) (pss_one (ps_ret (pe_callH hTexts hr rfl (pa_cons (pv 0) (pa_cons (pv 1) (pa_cons (pv 2) pa_nil)))))) pss_nil)
    (pss_cons (ps_set (i := 3) scBent.nd rfl (Or.inl rfl) (pe_lst (pa_cons (pe_callTy call_list_of rfl G.list boot_list (pa_cons (pv 2) pa_nil)) (pa_cons (pe_rev (pv 2)) (pa_cons (pe_slice sl_tupH (pv 2) (po_some pe_int) po_none) (pa_cons (pe_op op_catH (pv 2) (pe_slice sl_tupH (pv 2) po_none (po_some pe_int))) (pa_cons (pe_tup (pa_cons (pv 2) pa_nil)) (pa_cons pe_non (pa_cons (pe_tup pa_nil) (pa_cons (pe_op op_catH (pv 2) (pe_tup (pa_cons pe_non pa_nil))) (pa_cons (pe_op op_mulT (pv 2) pe_int) pa_nil)))))))))))
    (pss_cons (ps_for PassesOwn.never rfl (pi_enumT (pv 2) rfl G.enumerate) (pg_tup rfl (pgs_cons (pg_name (i := 4) scBent.nd rfl (Or.inl rfl)) (pgs_cons (pg_name (i := 5) scBent.nd rfl (Or.inl rfl)) pgs_nil)))
      (pss_one (ps_for PassesOwn.never rfl (pi_list (pe_slice sl_list (pe_callH hBent hr rfl (pa_cons (pv 0) (pa_cons (pv 1) (pa_cons (pv 5) pa_nil)))) po_none (po_some pe_int))) (pg_name (i := 6) scBent.nd rfl (Or.inl rfl))
        (pss_one (ps_expr (pe_bm PySem.F.plainAttrs_list PySem.F.slot_list_append PySem.F.type_list_append mt_append (pv 3) (pa_cons (pe_op op_catH (pe_op op_catH (pe_slice sl_tupH (pv 2) po_none (po_some (pv 4))) (pe_tup (pa_cons (pv 6) pa_nil))) (pe_slice sl_tupH (pv 2) (po_some (pe_op op_add (pv 4) pe_int)) po_none)) pa_nil)))))))
    (pss_one (ps_ret (pv 3)))))), ?_⟩
    refine ⟨_, rfl, v, rfl, ?_⟩
    have p4 : 1 ≤ 4 ^ n := Nat.le_trans (Nat.one_le_two_pow (n := n)) (Nat.pow_le_pow_left (by decide) n)
    rcases bd_cases bd with ⟨x, rfl, hx⟩ | ⟨m, ts, rfl, rfl, hl1, hl4, hbd⟩
    · obtain ⟨rfl, _⟩ := tr
      refine .inr ⟨.inl ⟨x, rfl, by omega⟩, _, rfl, iteT ⟨_, rfl, _, rfl, _, rfl, a, t, ns, zs, x, rfl, hS, h63, hT, by omega, hx, fun l rs zs' H' hT' hl' st' hl hlt hall hn => ?_⟩⟩
      exact q l rs zs' H' hT' (by omega) st' hl hlt hall hn
    obtain ⟨a0, xs, rfl, ha0, hxl, hxs⟩ := tr
    obtain ⟨rs, rfl, rfl, hrs⟩ := hxs.zip
    rw [List.length_map] at hl1 hl4
    have ha0t : a0 ≠ t := fun z => by rw [z, hT] at ha0; cases ha0
    refine .inl ⟨a0, _, rfl, SqT.of ha0, _, rfl, iteF ?_⟩
    refine ⟨_, rfl, a0, _, rfl, .inr (SqT.of ha0), fun c0 nc0 => ?_⟩
    have SB0 := Same.new nc0 (.lst (rs.map (·.1)))
    have hc0 : (upd H c0 (.lst (rs.map (·.1))) : Hp) c0 = some (.lst (rs.map (·.1))) := upd_same
    generalize (upd H c0 (.lst (rs.map (·.1))) : Hp) = B0 at *
    refine ⟨_, rfl, a0, _, rfl, SqT.of (SB0 _ _ ha0), fun c1 nc1 => ?_⟩
    have SB1 := Same.new nc1 (.tup (rs.map (·.1)).reverse)
    have hc1 : (upd B0 c1 (.tup (rs.map (·.1)).reverse) : Hp) c1 = some (.tup (rs.map (·.1)).reverse) := upd_same
    generalize (upd B0 c1 (.tup (rs.map (·.1)).reverse) : Hp) = B1 at *
    have SA1 := SB0.trans SB1
    refine ⟨_, rfl, 1, rfl, a0, _, rfl, SA1 _ _ ha0, fun c2 B2 SB2 hc2 => ?_⟩
    have SA2 := SA1.trans SB2
    refine ⟨_, rfl, _, rfl, 1, rfl, a0, _, rfl, SA2 _ _ ha0, fun c3 B3 SB3 hc3 => ?_⟩
    have SA3 := SA2.trans SB3
    have e2 : cutV (rs.map (·.1)) (some (1 : Int)) none = (rs.drop 1).map (·.1) := by have := cut_from (rs.map (·.1)) 1; rw [List.map_drop]; exact this
    have e3 : cutV (rs.map (·.1)) none (some (1 : Int)) = (rs.take 1).map (·.1) := by have := cut_to (rs.map (·.1)) 1; rw [List.map_take]; exact this
    rw [e2] at hc2
    rw [e3] at hc3
    have l3 : (rs.take 1).length ≤ 1 := by rw [List.length_take]; omega
    refine ⟨a0, c3, _, _, rfl, rfl, SA3 _ _ ha0, hc3, big _ (by rw [List.length_map, List.length_map]; omega), fun c4 B4 SB4 hc4 => ?_⟩
    have SA4 := SA3.trans SB4
    refine ⟨_, rfl, big _ (show 1 ≤ 100000 by decide), fun c5 nc5 => ?_⟩
    have SB5 := Same.new nc5 (.tup [V.ref a0])
    have hc5 : (upd B4 c5 (.tup [V.ref a0]) : Hp) c5 = some (.tup [V.ref a0]) := upd_same
    generalize (upd B4 c5 (.tup [V.ref a0]) : Hp) = B5 at *
    refine ⟨big _ (show 0 ≤ 100000 by decide), fun c6 nc6 => ?_⟩
    have SB6 := Same.new nc6 (.tup ([] : List V))
    have hc6 : (upd B5 c6 (.tup ([] : List V)) : Hp) c6 = some (.tup ([] : List V)) := upd_same
    generalize (upd B5 c6 (.tup ([] : List V)) : Hp) = B6 at *
    refine ⟨_, rfl, big _ (show 1 ≤ 100000 by decide), fun c7 nc7 => ?_⟩
    have SB7 := Same.new nc7 (.tup [V.non])
    have hc7 : (upd B6 c7 (.tup [V.non]) : Hp) c7 = some (.tup [V.non]) := upd_same
    generalize (upd B6 c7 (.tup [V.non]) : Hp) = B7 at *
    have SA7 := SA4.trans (SB5.trans (SB6.trans SB7))
    refine ⟨a0, c7, _, _, rfl, rfl, SA7 _ _ ha0, hc7, big _ (by rw [List.length_map, List.length_singleton]; omega), fun c8 B8 SB8 hc8 => ?_⟩
    have SA8 := SA7.trans SB8
    refine ⟨_, rfl, a0, _, 3, rfl, rfl, SqT.of (SA8 _ _ ha0), (fun z => by have := congrArg List.length z; rw [List.length_map, List.length_nil] at this; omega), by rw [List.length_map]; omega, by decide, by decide, fun c9 nc9 => ?_⟩
    have SB9 := Same.new nc9 (.tup (List.replicate (3 : Int).toNat (rs.map (·.1))).flatten)
    have hc9 : (upd B8 c9 (.tup (List.replicate (3 : Int).toNat (rs.map (·.1))).flatten) : Hp) c9 = some (.tup (List.replicate (3 : Int).toNat (rs.map (·.1))).flatten) := upd_same
    generalize (upd B8 c9 (.tup (List.replicate (3 : Int).toNat (rs.map (·.1))).flatten) : Hp) = B9 at *
    have SA9 := SA8.trans SB9
    refine ⟨big _ (show 9 ≤ 100000 by decide), fun fl nfl => ?_⟩
    have SB10 := Same.new nfl (.lst [V.ref c0, V.ref c1, V.ref c2, V.ref c4, V.ref c5, V.non, V.ref c6, V.ref c8, V.ref c9])
    have hfl : (upd B9 fl (.lst [V.ref c0, V.ref c1, V.ref c2, V.ref c4, V.ref c5, V.non, V.ref c6, V.ref c8, V.ref c9]) : Hp) fl = some (.lst [V.ref c0, V.ref c1, V.ref c2, V.ref c4, V.ref c5, V.non, V.ref c6, V.ref c8, V.ref c9]) := upd_same
    generalize (upd B9 fl (.lst [V.ref c0, V.ref c1, V.ref c2, V.ref c4, V.ref c5, V.non, V.ref c6, V.ref c8, V.ref c9]) : Hp) = B10 at *
    have SA10 := SA9.trans SB10
    have nfH : H fl = none := by
      cases z : H fl with
      | none => rfl
      | some o => rw [SA9 _ _ z] at nfl; cases nfl
    have hflt : fl ≠ t := fun z => by rw [z, hT] at nfH; cases nfH
    have s410 := SB5.trans (SB6.trans (SB7.trans (SB8.trans (SB9.trans SB10))))
    have hr10 : ∀ r ∈ rs, IsTr B10 r.2 r.1 := fun r hr' => (hrs r hr').kp (Kp.same SA10)
    have tA : IsTr B10 (.tup (rs.map (·.2))) (.ref a0) := tr_tup rs (SA10 _ _ ha0) (by omega) hr10
    obtain ⟨fs0, hfs0⟩ : ∃ fs : List (V × Thing), fs = [(V.ref c0, .oth), (V.ref c1, .tup (rs.reverse.map (·.2))), (V.ref c2, .tup ((rs.drop 1).map (·.2))), (V.ref c4, .tup ((rs ++ rs.take 1).map (·.2))), (V.ref c5, .tup [.tup (rs.map (·.2))]), (V.non, .oth), (V.ref c6, .tup []), (V.ref c8, .tup ((rs ++ [(V.non, Thing.oth)]).map (·.2))), (V.ref c9, .tup ((List.replicate 3 rs).flatten.map (·.2)))] := ⟨_, rfl⟩
    have all0 : ∀ r ∈ fs0, Okt B10 r := fun r hr' => by
      rw [hfs0] at hr'
      simp only [List.mem_cons, List.not_mem_nil, or_false] at hr'
      rcases hr' with rfl | rfl | rfl | rfl | rfl | rfl | rfl | rfl | rfl
      · exact ⟨.inr (.inr (.inr ⟨c0, _, rfl, (SB1.trans (SB2.trans (SB3.trans (SB4.trans s410)))) _ _ hc0⟩)), few_oth⟩
      · exact ⟨tr_tup rs.reverse (by rw [List.map_reverse]; exact (SB2.trans (SB3.trans (SB4.trans s410))) _ _ hc1) (by rw [List.length_reverse]; omega) fun r hr' => hr10 r (List.mem_reverse.mp hr'), few_tup (by rw [List.length_map, List.length_reverse]; omega)⟩
      · exact ⟨tr_tup (rs.drop 1) ((SB3.trans (SB4.trans s410)) _ _ hc2) (by rw [List.length_drop]; omega) fun r hr' => hr10 r (List.mem_of_mem_drop hr'), few_tup (by rw [List.length_map, List.length_drop]; omega)⟩
      · exact ⟨tr_tup (rs ++ rs.take 1) (by rw [List.map_append]; exact s410 _ _ hc4) (by rw [List.length_append]; omega) fun r hr' => (List.mem_append.mp hr').elim (hr10 r) fun z => hr10 r (List.mem_of_mem_take z), few_tup (by rw [List.length_map, List.length_append]; omega)⟩
      · exact ⟨⟨c5, _, rfl, (SB6.trans (SB7.trans (SB8.trans (SB9.trans SB10)))) _ _ hc5, (show 1 ≤ 1000 by decide), _, _, rfl, tA, rfl⟩, few_tup (show 1 ≤ 18 by decide)⟩
      · exact ⟨.inl rfl, few_oth⟩
      · exact ⟨⟨c6, _, rfl, (SB7.trans (SB8.trans (SB9.trans SB10))) _ _ hc6, (show 0 ≤ 1000 by decide), rfl⟩, few_tup (show 0 ≤ 18 by decide)⟩
      · exact ⟨tr_tup (rs ++ [(V.non, Thing.oth)]) (by rw [List.map_append]; exact (SB9.trans SB10) _ _ hc8) (by rw [List.length_append, List.length_singleton]; omega) fun r hr' => (List.mem_append.mp hr').elim (hr10 r) (fun z => by rw [List.mem_singleton.mp z]; exact .inl rfl), few_tup (by rw [List.length_map, List.length_append, List.length_singleton]; omega)⟩
      · refine ⟨tr_tup (List.replicate 3 rs).flatten ?_ ?_ fun r hr' => ?_, few_tup ?_⟩
        · rw [SB10 _ _ hc9, List.map_flatten, List.map_replicate]
          rfl
        · simp only [List.length_flatten, List.map_replicate, List.sum_replicate_nat]; omega
        · obtain ⟨l, hl, hr''⟩ := List.mem_flatten.mp hr'
          rw [List.eq_of_mem_replicate hl] at hr''
          exact hr10 r hr''
        · rw [List.length_map]
          simp only [List.length_flatten, List.map_replicate, List.sum_replicate_nat]; omega
    have hfl0 : B10 fl = some (.lst (fs0.map (·.1))) := by rw [hfl, hfs0]; rfl
    refine ⟨_, rfl, a0, rfl, ⟨_, SqT.of (SA10 _ _ ha0)⟩, ?_⟩
    have e4 : 4 ^ (m + 1) = 4 ^ m * 4 := Nat.pow_succ ..
    refine for_enumT (xs := rs.map (·.1)) (fun i σ H' => ∃ (v4 v5 v6 : Option V) (fs : List (V × Thing)) (zs' : List V), σ = [some (.ref a), some (.ref t), some (.ref a0), some (.ref fl), v4, v5, v6] ∧ H' t = some (.lst zs') ∧ zs'.length ≤ zs.length + i * 4 ^ m ∧ Stp t H H' ∧ H' fl = some (.lst (fs.map (·.1))) ∧ (∀ r ∈ fs, Okt H' r) ∧ fs.length ≤ 9 + 12 * i)
      ⟨_, _, _, fs0, zs, rfl, SA10 _ _ hT, by omega, SA10.stp, hfl0, all0, by rw [hfs0]; exact (show 9 ≤ 9 + 12 * 0 by decide)⟩ (fun i σ H' _ h => by obtain ⟨_, _, _, _, _, _, _, _, st, _⟩ := h; exact SqT.of (st _ _ ha0t ha0)) ?_ ?_
    · rintro i x tp σ C0 hx ntp ⟨v4, v5, v6, fs, zs0, rfl, hT0, hz0, st0, hf0, allf, hn0⟩
      rw [List.getElem?_map] at hx
      obtain ⟨r, hr', rfl⟩ : ∃ r, rs[i]? = some r ∧ r.1 = x := by
        cases hh : rs[i]? with
        | none => rw [hh] at hx; cases hx
        | some y => rw [hh] at hx; injection hx with hx; exact ⟨y, rfl, hx⟩
      have hrm := List.mem_of_getElem? hr'
      have hil : i < rs.length := (List.getElem?_eq_some_iff.mp hr').1
      have s1 := Same.new ntp (.tup [V.int (i : Int), r.1])
      have htp : (upd C0 tp (.tup [V.int (i : Int), r.1]) : Hp) tp = some (.tup [V.int (i : Int), r.1]) := upd_same
      generalize (upd C0 tp (.tup [V.int (i : Int), r.1]) : Hp) = C1 at *
      have hT1 := s1 _ _ hT0
      have st1 : Stp t H C1 := st0.trans s1.stp
      have k1 : Kp H C1 := Kp.stp hT st1 hT1
      refine ⟨tp, _, rfl, SqT.of htp, rfl, _, _, rfl, _, _, rfl, rfl, ?_⟩
      have hi4 : i * 4 ^ m + 4 ^ m ≤ 4 ^ m * 4 := by
        have : (i + 1) * 4 ^ m ≤ 4 * 4 ^ m := Nat.mul_le_mul_right _ (by omega)
        rw [Nat.succ_mul] at this
        omega
      refine ⟨_, rfl, _, rfl, _, rfl, a, t, ns, zs0, r.1, r.2, rfl, hS.stp hT st1, h63, hT1, by omega, (hrs r hrm).kp k1, hbd r.2 (List.mem_map.mpr ⟨r, hrm, rfl⟩), fun l rb zs2 C2 hT2 hl2 st2 hl hlt hall hn => ?_⟩
      refine ⟨12, rfl, l, _, rfl, SqL.of hl, fun l2 nl2 => ?_⟩
      have ec : cutV (rb.map (·.1)) none (some (12 : Int)) = (rb.take 12).map (·.1) := by have := cut_to (rb.map (·.1)) 12; rw [List.map_take]; exact this
      have s3 := Same.new nl2 (.lst (cutV (rb.map (·.1)) none (some (12 : Int))))
      have hl3 : (upd C2 l2 (.lst (cutV (rb.map (·.1)) none (some (12 : Int)))) : Hp) l2 = some (.lst ((rb.take 12).map (·.1))) := by rw [upd_same, ec]
      have hT3' := s3 _ _ hT2
      have hf2 := st2 _ _ hflt (s1 _ _ hf0)
      have hf3 := s3 _ _ hf2
      have hl2f : l2 ≠ fl := fun z => by rw [z, hf2] at nl2; cases nl2
      generalize (upd C2 l2 (.lst (cutV (rb.map (·.1)) none (some (12 : Int)))) : Hp) = C3 at *
      have st3 : Stp t H C3 := (st1.trans st2).trans s3.stp
      have k13 : Kp C1 C3 := (Kp.stp hT1 st2 hT2).trans (Kp.same s3)
      refine ⟨l2, rfl, ⟨_, SqL.of hl3⟩, ?_⟩
      refine for_list (xs := (rb.take 12).map (·.1)) (fun j σ H' => ∃ (v6 : Option V) (fs' : List (V × Thing)), σ = [some (.ref a), some (.ref t), some (.ref a0), some (.ref fl), some (.int (i : Int)), some r.1, v6] ∧ Stp fl C3 H' ∧ H' fl = some (.lst (fs'.map (·.1))) ∧ (∀ r ∈ fs', Okt H' r) ∧ fs'.length ≤ fs.length + j)
        ⟨_, fs, rfl, (Same.refl _).stp, hf3, (fun z hz' => ((allf z hz').kp (Kp.same s1)).kp k13), by omega⟩ (fun j σ H' _ h => by obtain ⟨_, _, _, st, _⟩ := h; exact SqL.of (st _ _ hl2f hl3)) ?_ ?_
      · rintro j y σ D0 hy ⟨v6, fs', rfl, stf, hf, hall', hn'⟩
        obtain ⟨b, hb', rfl⟩ := List.mem_map.mp (List.mem_of_getElem? hy)
        have kf : Kp C3 D0 := Kp.stp hf3 stf hf
        have hbT : IsTr D0 b.2 b.1 := ((hall b (List.mem_of_mem_take hb')).1.kp (Kp.same s3)).kp kf
        have hjl : j < 12 := by
          have := (List.getElem?_eq_some_iff.mp hy).1
          rw [List.length_map, List.length_take] at this
          omega
        have ha3 := st3 _ _ ha0t ha0
        have haf : a0 ≠ fl := fun z => by rw [z, nfH] at ha0; cases ha0
        have haD := stf _ _ haf ha3
        have hrD : ∀ z ∈ rs, IsTr D0 z.2 z.1 := fun z hz' => (((hrs z hz').kp k1).kp k13).kp kf
        refine ⟨.ref fl, rfl, .inl ⟨rfl, _, SqL.of hf⟩, _, rfl, _, rfl, (i : Int), rfl, a0, _, rfl, haD, fun d1 D1 sd1 hd1 => ?_⟩
        refine ⟨_, rfl, big _ (show 1 ≤ 100000 by decide), fun d2 nd2 => ?_⟩
        have sd2 := Same.new nd2 (.tup [b.1])
        have hd2 : (upd D1 d2 (.tup [b.1]) : Hp) d2 = some (.tup [b.1]) := upd_same
        generalize (upd D1 d2 (.tup [b.1]) : Hp) = D2 at *
        have ei : cutV (rs.map (·.1)) none (some (i : Int)) = (rs.take i).map (·.1) := by rw [cut_to, List.map_take]
        have eo : cutV (rs.map (·.1)) (some ((i : Int) + 1)) none = (rs.drop (i + 1)).map (·.1) := by
          have := cut_from (rs.map (·.1)) (i + 1)
          rw [show ((i + 1 : Nat) : Int) = (i : Int) + 1 by omega] at this
          rw [this, List.map_drop]
        rw [ei] at hd1
        refine ⟨d1, d2, _, _, rfl, rfl, sd2 _ _ hd1, hd2, big _ (by rw [List.length_map, List.length_take, List.length_singleton]; omega), fun d3 D3 sd3 hd3 => ?_⟩
        have sd03 := sd1.trans (sd2.trans sd3)
        refine ⟨_, rfl, _, rfl, _, _, rfl, rfl, _, rfl, a0, _, rfl, sd03 _ _ haD, fun d4 D4 sd4 hd4 => ?_⟩
        rw [eo] at hd4
        refine ⟨d3, d4, _, _, rfl, rfl, sd4 _ _ hd3, hd4, big _ (by rw [List.length_append, List.length_map, List.length_map, List.length_take, List.length_drop, List.length_singleton]; omega), fun d5 D5 sd5 hd5 => ?_⟩
        have sd05 := sd03.trans (sd4.trans sd5)
        have hfD := sd05 _ _ hf
        have ku : Kp D5 (upd D5 fl (.lst (fs'.map (·.1) ++ [V.ref d5]))) := Kp.upd hfD
        have k0u := (Kp.same sd05).trans ku
        refine ⟨fl, _, .ref d5, rfl, rfl, hfD, bigl _ (by rw [List.length_map]; omega), ?_⟩
        refine ⟨_, fs' ++ [(V.ref d5, .tup ((rs.take i ++ [b] ++ rs.drop (i + 1)).map (·.2)))], rfl, fun c o hc eb => ?_, by rw [upd_same, List.map_append]; rfl, fun z hz' => ?_, by rw [List.length_append, List.length_singleton]; omega⟩
        · rw [upd_ne hc]
          exact sd05 c o (stf c o hc eb)
        · rcases List.mem_append.mp hz' with hz' | hz'
          · exact (hall' z hz').kp k0u
          · rw [List.mem_singleton.mp hz']
            refine ⟨tr_tup (rs.take i ++ [b] ++ rs.drop (i + 1)) (ku.ts _ _ (by rw [hd5, List.map_append, List.map_append]; rfl)) (by rw [List.length_append, List.length_append, List.length_take, List.length_drop, List.length_singleton]; omega) fun z hz'' => ?_, few_tup (by rw [List.length_map, List.length_append, List.length_append, List.length_take, List.length_drop, List.length_singleton]; omega)⟩
            rcases List.mem_append.mp hz'' with hz'' | hz''
            · rcases List.mem_append.mp hz'' with hz'' | hz''
              · exact (hrD z (List.mem_of_mem_take hz'')).kp k0u
              · rw [List.mem_singleton.mp hz'']; exact hbT.kp k0u
            · exact (hrD z (List.mem_of_mem_drop hz'')).kp k0u
      · rintro σ D0 ⟨v6, fs', rfl, stf, hf, hall', hn'⟩
        rw [List.length_map, List.length_take] at hn'
        refine ⟨_, _, _, fs', zs2, rfl, stf _ _ (Ne.symm hflt) hT3', ?_, fun c o hc eb => stf c o (ne_of_none eb nfH) (st3 c o hc eb), hf, hall', by omega⟩
        rw [Nat.succ_mul]
        omega
    · rintro σ C0 ⟨v4, v5, v6, fs, zs0, rfl, hT0, hz0, st0, hf0, allf, hn0⟩
      rw [List.length_map] at hz0 hn0
      have : rs.length * 4 ^ m ≤ 4 * 4 ^ m := Nat.mul_le_mul_right _ hl4
      exact ⟨_, rfl, q fl fs zs0 C0 hT0 (by omega) st0 hf0 hflt allf (by omega)⟩
end
end LW
namespace LW
open PySem L2 Mi Co
theorem name_title {x : Str} (h : isName x = true) : isTitle x = true := by
  have nm := isName_nm h
  have hl := nm.len
  have hpos : 1 ≤ x.length := by
    by_cases z : x.length = 0
    · have e0 : x = "" := str_eq (List.eq_nil_of_length_eq_zero (by have := len_L x; unfold L at this; omega))
      rw [e0] at h
      have : isName "" = false := by decide +kernel
      rw [this] at h
      cases h
    · omega
  have no : ∀ c ∈ L x, c ≠ 32 := fun c hc e => by
    rcases name_signs h hc with z | z
    · rw [e] at z; exact absurd z (by decide)
    · rw [e] at z; exact absurd z (by decide)
  unfold isTitle
  rw [decide_eq_true hpos, decide_eq_true (show x.length ≤ 30 by omega), decide_eq_false (fun e => no 32 (List.mem_of_head? e) rfl), decide_eq_false (fun e => no 32 (List.mem_of_getLast? e) rfl)]
  rfl
def SIZES : List Int := [1, 12, 13, 30, 31]
theorem sizes_x : ∀ n ∈ SIZES, isName (repS "x" n.toNat) = decide (n ≤ 12) ∧ isTitle (repS "X" n.toNat) = decide (n ≤ 30) ∧ 1 ≤ n ∧ n ≤ 31 := by decide +kernel
theorem rows_nd (u v : List Str) : (decide ([u, v].Nodup)) = !decide (u = v) := by
  by_cases h : u = v
  · rw [decide_eq_true h, decide_eq_false (fun z => by rw [List.nodup_cons] at z; exact z.1 (by rw [h]; simp))]; rfl
  · rw [decide_eq_false h, decide_eq_true (by simp [h])]; rfl
theorem okA_len100 {u : List Str} (h : okA u = true) : u.length ≤ 1000 ∧ ∀ t ∈ u, t.length ≤ 100 := by
  obtain ⟨_, h2, h3⟩ := okA_iff.mp h
  exact ⟨by omega, fun t ht => by have := name_len (h3 t ht); omega⟩
theorem tr_ad {H : Hp} {a : Addr} {u : List Str} (h : TupA H a u) (ok : okA u = true) : IsTr H (adD u) (.ref a) := by
  obtain ⟨h1, h2⟩ := okA_len100 ok
  have := tr_tup (H := H) (c := a) (u.map fun t => (V.str t, Thing.txt t)) (by rw [List.map_map]; exact h) (by rw [List.length_map]; exact h1) fun r hr => by
    obtain ⟨t, ht, rfl⟩ := List.mem_map.mp hr
    exact ⟨rfl, by have := h2 t ht; omega⟩
  rw [List.map_map] at this
  exact this
theorem bd_ad {u : List Str} (ok : okA u = true) : Bd 1 (adD u) := by
  obtain ⟨h1, h2, _⟩ := okA_iff.mp ok
  refine .inr ⟨u.map Thing.txt, rfl, by rw [List.length_map]; exact h1, by rw [List.length_map]; exact h2, fun t ht => ?_⟩
  obtain ⟨x, hx, rfl⟩ := List.mem_map.mp ht
  exact ⟨x, rfl, (okA_len100 ok).2 x hx⟩
theorem tr_rl {H : Hp} {x : Rx} (h : RlH H x) (h1 : okA x.2.2.2.1 = true) (h2 : okA x.2.2.2.2 = true) : IsTr H (rlD x.2.2.2) (.ref x.1) :=
  ⟨x.1, _, rfl, h.1, (show 2 ≤ 1000 by decide), _, _, rfl, tr_ad h.2.1 h1, _, _, rfl, tr_ad h.2.2 h2, rfl⟩
theorem bd_rl {r : Rl} (h1 : okA r.1 = true) (h2 : okA r.2 = true) : Bd 2 (rlD r) := by
  refine .inr ⟨[adD r.1, adD r.2], rfl, (show 1 ≤ 2 by decide), (show 2 ≤ 4 by decide), fun t ht => ?_⟩
  rcases List.mem_cons.mp ht with rfl | ht
  · exact bd_ad h1
  · rw [List.mem_singleton.mp ht]; exact bd_ad h2
section
variable {P : Program} {w : World} {K : PySem.W.Frag} {mg : Str → Option Value} {base : Heap} {f : Addr} {fd : FuncData}
theorem scLaw : FnScope ["_law_script", "_law_town", "_law_k", "_law_name_here", "_law_address", "_law_rows", "_law_bads", "_law_bad", "_law_title", "_law_size"] ["_law_script"] (defScope sLaw) := ⟨rfl, rfl, rfl, by decide +kernel, rfl, by decide +kernel, by decide +kernel⟩
theorem ndL0 : (["_law_j", "_law_script", "_law_town"] : List Str).Nodup := by decide +kernel
theorem ok_law {k : Nat} (F : Fun K "law" "law" sLaw f fd) (G : Blt mg) (hDraw : Has P w K mg base "_law_draw" k ["_law_script", "_law_town", "_law_many"] (spDraw K)) (hMName : Has P w K mg base "_law_name" k ["_law_script", "_law_town"] (spMName K)) (hName : Has P w K mg base "is_name" k ["thing"] (spNameV K)) (hTitle : Has P w K mg base "is_title" k ["thing"] (spTitleV K)) (hLTitle : Has P w K mg base "_law_is_title" k ["_law_thing"] (spTitleV K))
    (hAddr : Has P w K mg base "is_address" k ["thing"] (spAddr K)) (hAre : Has P w K mg base "are_rows" k ["thing"] (spAre K)) (hTexts : Has P w K mg base "_law_texts" k ["_law_script", "_law_town", "_law_text"] (spTexts K)) (hBent2 : Has P w K mg base "_law_bent" k ["_law_script", "_law_town", "_law_thing"] (spBent K 2)) (hBent4 : Has P w K mg base "_law_bent" k ["_law_script", "_law_town", "_law_thing"] (spBent K 4))
    (hHold : Has P w K mg base "_law_hold" k ["_law_thing"] spHold) :
    FnOk P w K mg base CX0 (k + 1) f fd ["_law_script"] (spLaw K) := by
  refine F.ok scLaw (fun vs H Q E h => ?_) (fun cdv A outer s H vs Q E hr h => ?_)
  · obtain ⟨a, ns, rfl, _⟩ := h
    rfl
  obtain ⟨a, ns, rfl, hS, h63, q⟩ := h
  refine ⟨_, (pss_cons (ps_set (i := 1) scLaw.nd rfl (Or.inr rfl) (pe_lst pa_nil))
    (pss_cons (ps_for PassesOwn.never rfl (pi_range1 rfl G.range (pa_cons pe_int pa_nil)) (pg_name (i := 2) scLaw.nd rfl (Or.inl rfl))
      (pss_cons (ps_set (i := 3) scLaw.nd rfl (Or.inl rfl) (pe_callH hMName hr rfl (pa_cons (pv 0) (pa_cons (pv 1) pa_nil))))
      (pss_cons (ps_set (i := 4) scLaw.nd rfl (Or.inl rfl) (pe_callTy call_tuple_of rfl G.tuple boot_tuple (pa_cons (pe_compF (te := (tCall (spMName K) [] E0 (tCons (tVar 1) (tCons (tVar 2) tNil)))) (xs := ["_law_j"]) (ys := ["_law_script", "_law_town"]) (js := [0, 1]) rfl (by decide +kernel) (by decide +kernel) rfl (by decide +kernel) ⟨rfl, .inl rfl, rfl, rfl, .inl rfl, rfl, trivial⟩
      (pi_range1 rfl G.range (pa_cons (pe_op op_add pe_int (pe_callH hDraw hr rfl (pa_cons (pv 0) (pa_cons (pv 1) (pa_cons pe_int pa_nil))))) pa_nil)) (fun _ _ _ _ _ => (pg_name (i := 0) ndL0 rfl (Or.inl rfl) (.inr rfl))) (fun _ _ _ _ _ => pts_nil) (fun _ _ _ _ _ => (pe_callH hMName hr rfl (pa_cons (pv 1) (pa_cons (pv 2) pa_nil))))) pa_nil)))
      (pss_cons (ps_set (i := 5) scLaw.nd rfl (Or.inl rfl) (pe_tup (pa_cons (pe_tup (pa_cons (pv 4) (pa_cons (pe_tup (pa_cons (pv 3) pa_nil)) pa_nil))) (pa_cons (pe_tup (pa_cons (pe_tup (pa_cons (pv 3) (pa_cons (pv 3) pa_nil))) (pa_cons (pv 4) pa_nil))) pa_nil))))
      (pss_cons (ps_if (PW.pt (pw_or (pt_not (pt_val (pe_callH hName hr rfl (pa_cons (pv 3) pa_nil)))) (pw_or (pt_not (pt_val (pe_callH hTitle hr rfl (pa_cons (pv 3) pa_nil)))) (pw_or1 (pt_not (pt_val (pe_callH hAddr hr rfl (pa_cons (pe_tup (pa_cons (pv 3) pa_nil)) pa_nil)))))))) pss_never pss_nil)
      (pss_cons (ps_if (PW.pt (pw_or (pt_val (pe_callH hAddr hr rfl (pa_cons (pv 3) pa_nil))) (pw_or1 (pt_not (pt_val (pe_callH hAddr hr rfl (pa_cons (pv 4) pa_nil))))))) pss_never pss_nil)
      (pss_cons (ps_if (pt_cmpR op_ne (pe_callH hAre hr rfl (pa_cons (pv 5) pa_nil)) (pe_cmpR (op_neD (hu8 hr)) (pv 4) (pe_tup (pa_cons (pv 3) (pa_cons (pv 3) pa_nil))) (nomark _)) (nomark _)) pss_never pss_nil)
      (pss_cons (ps_set (i := 6) scLaw.nd rfl (Or.inl rfl) (pe_op op_cat (pe_callH hTexts hr rfl (pa_cons (pv 0) (pa_cons (pv 1) (pa_cons (pv 3) pa_nil)))) (pe_callH hBent2 hr rfl (pa_cons (pv 0) (pa_cons (pv 1) (pa_cons (pv 4) pa_nil))))))
      (pss_cons (ps_for PassesOwn.never rfl (pi_list (pe_op op_cat (pv 6) (pe_slice sl_list (pe_callH hBent4 hr rfl (pa_cons (pv 0) (pa_cons (pv 1) (pa_cons (pv 5) pa_nil)))) po_none (po_some pe_int)))) (pg_name (i := 7) scLaw.nd rfl (Or.inl rfl))
        (pss_one (ps_if (pt_not (pt_val (pe_callH hHold hr rfl (pa_cons (pv 7) pa_nil)))) pss_never pss_nil)))
      (pss_cons (ps_set (i := 8) scLaw.nd rfl (Or.inl rfl) (pe_op op_add_str (pe_op op_add_str (pv 3) pe_str) (pe_callH hMName hr rfl (pa_cons (pv 0) (pa_cons (pv 1) pa_nil)))))
      (pss_cons (ps_for PassesOwn.never rfl (pi_list (pe_callH hTexts hr rfl (pa_cons (pv 0) (pa_cons (pv 1) (pa_cons (pv 8) pa_nil))))) (pg_name (i := 7) scLaw.nd rfl (Or.inl rfl))
        (pss_one (ps_if (pt_cmpR op_ne (pe_callH hTitle hr rfl (pa_cons (pv 7) pa_nil)) (pe_callH hLTitle hr rfl (pa_cons (pv 7) pa_nil)) (nomark _)) pss_never pss_nil)))
      (pss_one (ps_for PassesOwn.never rfl (pi_tup (pe_tup (pa_cons pe_int (pa_cons pe_int (pa_cons pe_int (pa_cons pe_int (pa_cons pe_int pa_nil))))))) (pg_name (i := 9) scLaw.nd rfl (Or.inl rfl))
        (pss_one (ps_if (PW.pt (pw_or (pt_cmpR op_ne (pe_callH hName hr rfl (pa_cons (pe_op op_mulS1 pe_str (pv 9)) pa_nil)) (pe_cmpR op_le (pv 9) pe_int (nomark _)) (nomark _)) (pw_or1 (pt_cmpR op_ne (pe_callH hTitle hr rfl (pa_cons (pe_op op_mulS1 pe_str (pv 9)) pa_nil)) (pe_cmpR op_le (pv 9) pe_int (nomark _)) (nomark _))))) pss_never pss_nil)))))))))))))))
    (pss_one (ps_ret pe_bl)))), ?_⟩
  refine ⟨big _ (by simp), fun t nt => ?_⟩
  have s0 := Same.new nt (.lst ([] : List V))
  have ht : (upd H t (.lst ([] : List V)) : Hp) t = some (.lst []) := upd_same
  refine ⟨4, rfl, by decide, by decide, ?_⟩
  refine for_range (n := 4) (fun i σ H' => ∃ v2 v3 v4 v5 v6 v7 v8 v9 : Option V, σ = [some (.ref a), some (.ref t), v2, v3, v4, v5, v6, v7, v8, v9] ∧ St1 K a t ns (200 * i) H')
    ⟨_, _, _, _, _, _, _, _, rfl, ⟨[], ht, by simp⟩, hS.same s0⟩ ?_ (fun σ H' _ => q H')
  rintro i σ H1 hi ⟨v2, v3, v4, v5, v6, v7, v8, v9, rfl, hW1⟩
  obtain ⟨zs1, hz1, hy1⟩ := hW1.1
  refine ⟨_, rfl, _, rfl, a, t, ns, zs1, rfl, hW1.2, h63, hz1, by omega, fun x zs2 H2 hT2 hl2 st2 nx => ?_⟩
  obtain ⟨hW2, ts2⟩ := hW1.drawn (m := 200 * i + 14) hz1 hT2 (by omega) st2
  have hxl := name_len nx
  -- an address
  refine ⟨_, rfl, _, rfl, a, t, ns, zs2, 4, rfl, hW2.2, h63, hT2, by omega, by decide, fun mm H3 hm0 hm1 hT3 st3 => ?_⟩
  obtain ⟨hW3, ts3⟩ := hW2.drawn (m := 200 * i + 15) hT2 hT3 (by rw [List.length_append, List.length_singleton]; omega) st3
  refine ⟨_, _, rfl, rfl, 1 + mm, rfl, by omega, by omega, fun D hD => ?_⟩
  have hDt : D ≠ t := (ne_of_none hT3 hD).symm
  refine compF_drw (J := Itr 0 (1 + mm).toNat) (n := (1 + mm).toNat) (fr := [some (.ref a), some (.ref t)]) D (fun _ _ => True)
    (fun j ys H' => ∃ (us : List Str) (zs' : List V), ys = us.map V.str ∧ us.length = j ∧ (∀ z ∈ us, isName z = true) ∧ H' t = some (.lst zs') ∧ zs'.length ≤ zs2.length + 1 + 14 * j ∧ Stp t H3 H') (bigl _ (by omega))
    (fun i H' h => h) (fun i H' x H'' _ y => ⟨y.1, trivial⟩) (fun H' => Nat.le_refl _)
    ⟨[], _, rfl, rfl, (fun z hz => by cases hz), by rw [upd_ne hDt.symm]; exact hT3, by rw [List.length_append, List.length_singleton]; omega, (Same.new hD _).stp⟩ ?_ ?_
  · rintro j y ys H4 R hj _ ⟨us, zs4, rfl, hl, hL, hT4, hl4, st4⟩ hD4 hR
    refine ⟨_, rfl, _, rfl, a, t, ns, zs4, rfl, hW3.2.stp hT3 st4, h63, hT4, by omega, fun z zs5 H5 hT5 hl5 st5 nz => ?_⟩
    refine hR _ _ (st5 _ _ hDt hD4) ⟨us ++ [z], zs5, by rw [List.map_append]; rfl, by rw [List.length_append, hl]; rfl, fun y hy => ?_, by rw [upd_ne hDt.symm]; exact hT5, by omega, fun b o hb e => ?_⟩
    · rcases List.mem_append.mp hy with hy | hy
      · exact hL y hy
      · rw [List.mem_singleton.mp hy]; exact nz
    · rw [upd_ne (ne_of_none e hD)]
      exact (st4.trans st5) b o hb e
  rintro ys H4 ⟨us, zs4, rfl, hul, nu, hT4, hl4, st4⟩ hD4
  obtain ⟨hW4, ts4⟩ := hW3.drawn (m := 200 * i + 75) hT3 hT4 (by omega) st4
  refine ⟨D, _, rfl, .inl ⟨SqL.of hD4, fun p np => ?_⟩⟩
  have s5 := Same.new np (.tup (us.map V.str))
  have hp5 : (upd H4 p (.tup (us.map V.str)) : Hp) p = some (.tup (us.map V.str)) := upd_same
  generalize (upd H4 p (.tup (us.map V.str)) : Hp) = H5 at *
  have ou : okA us = true := okA_iff.mpr ⟨by omega, by omega, nu⟩
  have ox : okA [x] = true := okA_iff.mpr ⟨(show 1 ≤ 1 by decide), (show 1 ≤ 4 by decide), fun z hz => by rw [List.mem_singleton.mp hz]; exact nx⟩
  have oxx : okA [x, x] = true := okA_iff.mpr ⟨(show 1 ≤ 2 by decide), (show 2 ≤ 4 by decide), fun z hz => by rcases List.mem_cons.mp hz with rfl | hz; exact nx; rw [List.mem_singleton.mp hz]; exact nx⟩
  have s45 := s5
  have hW5 := hW4.same s5
  -- two rows
  refine ⟨_, rfl, _, rfl, big _ (show 1 ≤ 100000 by decide), fun b1 nb1 => ?_⟩
  have SB1 := Same.new nb1 (.tup [V.str x])
  have hb1 : (upd H5 b1 (.tup [V.str x]) : Hp) b1 = some (.tup [V.str x]) := upd_same
  generalize (upd H5 b1 (.tup [V.str x]) : Hp) = B1 at *
  refine ⟨big _ (show 2 ≤ 100000 by decide), fun b2 nb2 => ?_⟩
  have SB2 := Same.new nb2 (.tup [V.ref p, V.ref b1])
  have hb2 : (upd B1 b2 (.tup [V.ref p, V.ref b1]) : Hp) b2 = some (.tup [V.ref p, V.ref b1]) := upd_same
  generalize (upd B1 b2 (.tup [V.ref p, V.ref b1]) : Hp) = B2 at *
  refine ⟨_, rfl, _, rfl, big _ (show 2 ≤ 100000 by decide), fun b3 nb3 => ?_⟩
  have SB3 := Same.new nb3 (.tup [V.str x, V.str x])
  have hb3 : (upd B2 b3 (.tup [V.str x, V.str x]) : Hp) b3 = some (.tup [V.str x, V.str x]) := upd_same
  generalize (upd B2 b3 (.tup [V.str x, V.str x]) : Hp) = B3 at *
  refine ⟨_, rfl, big _ (show 2 ≤ 100000 by decide), fun b4 nb4 => ?_⟩
  have SB4 := Same.new nb4 (.tup [V.ref b3, V.ref p])
  have hb4 : (upd B3 b4 (.tup [V.ref b3, V.ref p]) : Hp) b4 = some (.tup [V.ref b3, V.ref p]) := upd_same
  generalize (upd B3 b4 (.tup [V.ref b3, V.ref p]) : Hp) = B4 at *
  refine ⟨big _ (show 2 ≤ 100000 by decide), fun b5 nb5 => ?_⟩
  have SB5 := Same.new nb5 (.tup [V.ref b2, V.ref b4])
  have hb5 : (upd B4 b5 (.tup [V.ref b2, V.ref b4]) : Hp) b5 = some (.tup [V.ref b2, V.ref b4]) := upd_same
  generalize (upd B4 b5 (.tup [V.ref b2, V.ref b4]) : Hp) = B5 at *
  have SA5 := SB1.trans (SB2.trans (SB3.trans (SB4.trans SB5)))
  have hpB : TupA B5 p us := SA5 _ _ hp5
  obtain ⟨rs, hrs⟩ : ∃ rs : List Rx, rs = [(b2, p, b1, (us, [x])), (b4, b3, p, ([x, x], us))] := ⟨_, rfl⟩
  have hin : RlsIn B5 rs := fun z hz => by
    rw [hrs] at hz
    rcases List.mem_cons.mp hz with rfl | hz
    · exact ⟨(SB3.trans (SB4.trans SB5)) _ _ hb2, hpB, (SB2.trans (SB3.trans (SB4.trans SB5))) _ _ hb1⟩
    · rw [List.mem_singleton.mp hz]
      exact ⟨SB5 _ _ hb4, (SB4.trans SB5) _ _ hb3, hpB⟩
  have hb5' : B5 b5 = some (.tup (rrefs rs)) := by rw [hb5, hrs]; rfl
  have gR : GoodR (rs.map (·.2.2.2)) := fun r hr' => by
    rw [hrs] at hr'
    rcases List.mem_cons.mp hr' with rfl | hr'
    · exact ⟨ou, ox⟩
    · rw [List.mem_singleton.mp hr']; exact ⟨oxx, ou⟩
  have hrl : rs.length = 2 := by rw [hrs]; rfl
  have nmx : nmV (.str x) = true := nx
  have ttx : ttV (.str x) = true := name_title nx
  have thx : ∀ H', Thg0 K H' (.str x) := fun H' => .inl ⟨x, rfl, by omega⟩
  -- a name, a title, an address
  refine ⟨_, rfl, .str x, rfl, thx _, fun C1 t1 => ⟨_, rfl, ?_⟩⟩
  rw [nmx]
  refine iteF ⟨_, rfl, .str x, rfl, thx _, fun C2 t2 => ⟨_, rfl, ?_⟩⟩
  rw [ttx]
  refine iteF ⟨_, rfl, big _ (show 1 ≤ 100000 by decide), fun b6 nb6 => ?_⟩
  have SC3 := Same.new nb6 (.tup [V.str x])
  have hb6 : (upd C2 b6 (.tup [V.str x]) : Hp) b6 = some (.tup [V.str x]) := upd_same
  generalize (upd C2 b6 (.tup [V.str x]) : Hp) = C3 at *
  dsimp only [tNil, List.cons_append, List.nil_append, List.append_nil]
  refine addr_at (isTh_ad (u := [x]) (SqT.of hb6) (okA_len ox).1 (okA_len ox).2) fun C4 t4 => ⟨_, rfl, ?_⟩
  rw [okT_ad, ox]
  refine iteF ?_
  have t14 := t1.trans (t2.trans (SC3.trans t4))
  -- no address
  refine ⟨_, rfl, ?_⟩
  dsimp only [tNil, List.cons_append, List.nil_append, List.append_nil]
  refine addr_at (t := .txt x) ⟨rfl, by omega⟩ fun C5 t5 => ⟨_, rfl, iteF ?_⟩
  refine ⟨_, rfl, ?_⟩
  dsimp only [tNil, List.cons_append, List.nil_append, List.append_nil]
  refine addr_at (isTh_ad (u := us) (SqT.of ((t14.trans t5) _ _ hpB)) (okA_len ou).1 (okA_len ou).2) fun C6 t6 => ⟨_, rfl, ?_⟩
  rw [okT_ad, ou]
  refine iteF ?_
  have t16 := t14.trans (t5.trans t6)
  -- rows, if unlike
  refine ⟨_, rfl, .ref b5, .tup ((rs.map (·.2.2.2)).map rlD), rfl, isTh_rls (SqT.of (t16 _ _ hb5')) (hin.ts t16.ts) gR (by omega), (fun ts e _ => by injection e with e; rw [← e, List.length_map, List.length_map]; omega), fun C7 t7 => ?_⟩
  refine ⟨_, rfl, _, rfl, _, rfl, big _ (show 2 ≤ 100000 by decide), fun b7 nb7 => ?_⟩
  have SC8 := Same.new nb7 (.tup [V.str x, V.str x])
  have hb7 : (upd C7 b7 (.tup [V.str x, V.str x]) : Hp) b7 = some (.tup [V.str x, V.str x]) := upd_same
  generalize (upd C7 b7 (.tup [V.str x, V.str x]) : Hp) = C8 at *
  have t18 := t16.trans (t7.trans SC8)
  refine ⟨us.map Dat.str, [x, x].map Dat.str, str_dat (t18 _ _ hpB), str_dat (u := [x, x]) hb7, by rw [deeps0']; decide, rfl, _, rfl, ?_⟩
  have eB : V.bl (areT (.tup ((rs.map (·.2.2.2)).map rlD))) = V.bl (!Dat.beqs (us.map Dat.str) ([x, x].map Dat.str)) := by
    rw [areT_rls gR, tup_beq, hrs]
    exact congrArg V.bl (rows_nd us [x, x])
  refine ifN eB ?_
  -- things bent
  have hWc := hW5.same (SA5.trans t18)
  obtain ⟨zc, hzc, hyc⟩ := hWc.1
  refine ⟨_, rfl, _, rfl, _, rfl, a, t, ns, zc, x, rfl, hWc.2, h63, hzc, by omega, by omega, fun l1 rs1 zd D1 hTd hld std hl1 hlt1 all1 n1 => ?_⟩
  obtain ⟨hWd, tsd⟩ := hWc.drawn (m := 200 * i + 76) hzc hTd (by omega) std
  have kpd : Kp C8 D1 := Kp.stp hzc std hTd
  refine ⟨_, rfl, _, rfl, _, rfl, a, t, ns, zd, .ref p, adD us, rfl, hWd.2, h63, hTd, (show zd.length + 4 < 60000 by omega), (tr_ad (t18 _ _ hpB) ou).kp kpd, bd_ad ou, fun l2 rs2 ze D2 hTe hle ste hl2 hlt2 all2 n2 => ?_⟩
  have hle' : ze.length ≤ zd.length + 4 := hle
  obtain ⟨hWe, tse⟩ := hWd.drawn (m := 200 * i + 80) hTd hTe (by omega) ste
  have kpe : Kp D1 D2 := Kp.stp hTd ste hTe
  refine ⟨l1, l2, _, _, rfl, rfl, ste _ _ hlt1 hl1, hl2, big _ (by rw [List.length_map, List.length_map]; omega), fun l3 nl3 => ?_⟩
  have SD3 := Same.new nl3 (.lst (rs1.map (·.1) ++ rs2.map (·.1)))
  have hl3 : (upd D2 l3 (.lst (rs1.map (·.1) ++ rs2.map (·.1))) : Hp) l3 = some (.lst (rs1.map (·.1) ++ rs2.map (·.1))) := upd_same
  generalize (upd D2 l3 (.lst (rs1.map (·.1) ++ rs2.map (·.1))) : Hp) = D3 at *
  have hT3' := SD3 _ _ hTe
  have hlt3 : l3 ≠ t := (ne_of_none hTe nl3).symm
  have hWf := hWe.same SD3
  have k83 : Kp C8 D3 := (kpd.trans kpe).trans (Kp.same SD3)
  have trR : IsTr C8 (.tup ((rs.map (·.2.2.2)).map rlD)) (.ref b5) := by
    have := tr_tup (H := C8) (c := b5) (rs.map fun z => (V.ref z.1, rlD z.2.2.2)) (by rw [List.map_map]; exact t18 _ _ hb5') (by rw [List.length_map]; omega) fun r hr' => by
      obtain ⟨z, hz, rfl⟩ := List.mem_map.mp hr'
      have gz := gR z.2.2.2 (List.mem_map.mpr ⟨z, hz, rfl⟩)
      exact tr_rl ((hin.ts t18.ts) z hz) gz.1 gz.2
    rw [List.map_map] at this
    rw [List.map_map]
    exact this
  have bdR : Bd 3 (.tup ((rs.map (·.2.2.2)).map rlD)) := .inr ⟨_, rfl, by rw [List.length_map, List.length_map]; omega, by rw [List.length_map, List.length_map]; omega, fun th hth => by
    obtain ⟨r, hr', rfl⟩ := List.mem_map.mp hth
    exact bd_rl (gR r hr').1 (gR r hr').2⟩
  refine ⟨_, rfl, _, rfl, _, rfl, _, rfl, a, t, ns, ze, .ref b5, _, rfl, hWf.2, h63, hT3', (show ze.length + 64 < 60000 by omega), trR.kp k83, bdR, fun l4 rs4 zg D4 hTg hlg stg hl4' hlt4 all4 n4 => ?_⟩
  have hlg' : zg.length ≤ ze.length + 64 := hlg
  obtain ⟨hWg, tsg⟩ := hWf.drawn (m := 200 * i + 150) hT3' hTg (by omega) stg
  have kpg : Kp D3 D4 := Kp.stp hT3' stg hTg
  refine ⟨60, rfl, l4, _, rfl, SqL.of hl4', fun l5 nl5 => ?_⟩
  have ec : cutV (rs4.map (·.1)) none (some (60 : Int)) = (rs4.take 60).map (·.1) := by have := cut_to (rs4.map (·.1)) 60; rw [List.map_take]; exact this
  have SD5 := Same.new nl5 (.lst (cutV (rs4.map (·.1)) none (some (60 : Int))))
  have hl5 : (upd D4 l5 (.lst (cutV (rs4.map (·.1)) none (some (60 : Int)))) : Hp) l5 = some (.lst ((rs4.take 60).map (·.1))) := by rw [upd_same, ec]
  generalize (upd D4 l5 (.lst (cutV (rs4.map (·.1)) none (some (60 : Int)))) : Hp) = D5 at *
  refine ⟨l3, l5, _, _, rfl, rfl, SD5 _ _ (stg _ _ hlt3 hl3), hl5, big _ (by rw [List.length_append, List.length_map, List.length_map, List.length_map, List.length_take]; omega), fun l6 nl6 => ?_⟩
  have SD6 := Same.new nl6 (.lst ((rs1.map (·.1) ++ rs2.map (·.1)) ++ (rs4.take 60).map (·.1)))
  have hl6 : (upd D5 l6 (.lst ((rs1.map (·.1) ++ rs2.map (·.1)) ++ (rs4.take 60).map (·.1))) : Hp) l6 = some (.lst ((rs1.map (·.1) ++ rs2.map (·.1)) ++ (rs4.take 60).map (·.1))) := upd_same
  generalize (upd D5 l6 (.lst ((rs1.map (·.1) ++ rs2.map (·.1)) ++ (rs4.take 60).map (·.1))) : Hp) = D6 at *
  have hl6' : D6 l6 = some (.lst ((rs1 ++ rs2 ++ rs4.take 60).map (·.1))) := by rw [hl6, List.map_append, List.map_append]
  have k46 : Kp D4 D6 := (Kp.same SD5).trans (Kp.same SD6)
  have allB : ∀ r ∈ rs1 ++ rs2 ++ rs4.take 60, Okt D6 r := fun r hr' => by
    rcases List.mem_append.mp hr' with hr' | hr'
    · rcases List.mem_append.mp hr' with hr' | hr'
      · exact (((all1 r hr').kp kpe).kp (Kp.same SD3)).kp (kpg.trans k46)
      · exact ((all2 r hr').kp (Kp.same SD3)).kp (kpg.trans k46)
    · exact (all4 r (List.mem_of_mem_take hr')).kp k46
  have hW6 := hWg.same (SD5.trans SD6)
  refine ⟨l6, rfl, ⟨_, SqL.of hl6'⟩, ?_⟩
  refine for_list (xs := (rs1 ++ rs2 ++ rs4.take 60).map (·.1)) (fun j σ H' => ∃ v7 : Option V, σ = [some (.ref a), some (.ref t), some (.int (0 + (i : Int))), some (.str x), some (.ref p), some (.ref b5), some (.ref l3), v7, v8, v9] ∧ Same D6 H')
    ⟨_, rfl, Same.refl _⟩ (fun j σ H' _ h => by obtain ⟨_, _, sm⟩ := h; exact SqL.of (sm _ _ hl6')) ?_ ?_
  · rintro j y σ E1 hy ⟨v7, rfl, sE⟩
    obtain ⟨r, hr', rfl⟩ := List.mem_map.mp (List.mem_of_getElem? hy)
    have ok := (allB r hr').kp (Kp.same sE)
    exact ⟨_, rfl, r.1, r.2, rfl, ok.1, ok.2, fun E2 sE2 => ⟨_, rfl, iteF ⟨_, rfl, sE.trans sE2⟩⟩⟩
  rintro σ E1 ⟨v7, rfl, sE⟩
  have hW7 := hW6.same sE
  obtain ⟨zh, hzh, hyh⟩ := hW7.1
  -- a title
  refine ⟨_, rfl, _, _, rfl, rfl, big _ (by rw [len_blank]; omega), _, rfl, _, rfl, a, t, ns, zh, rfl, hW7.2, h63, hzh, by omega, fun x2 zi E2 hTi hli sti nx2 => ?_⟩
  obtain ⟨hW8, ts8⟩ := hW7.drawn (m := 200 * i + 164) hzh hTi (by omega) sti
  have hx2 := name_len nx2
  have hTl : (x ++ " " ++ x2).length ≤ 25 := by rw [app_length, app_length, len_blank]; omega
  refine ⟨_, _, rfl, rfl, big _ (by rw [app_length, len_blank]; omega), ?_⟩
  refine ⟨_, rfl, _, rfl, _, rfl, a, t, ns, zi, _, rfl, hW8.2, h63, hTi, by omega, by omega, fun l7 rs7 zj E3 hTj hlj stj hl7 hlt7 all7 n7 => ?_⟩
  obtain ⟨hW9, ts9⟩ := hW8.drawn (m := 200 * i + 165) hTi hTj (by omega) stj
  refine ⟨l7, rfl, ⟨_, SqL.of hl7⟩, ?_⟩
  refine for_list (xs := rs7.map (·.1)) (fun j σ H' => ∃ v7 : Option V, σ = [some (.ref a), some (.ref t), some (.int (0 + (i : Int))), some (.str x), some (.ref p), some (.ref b5), some (.ref l3), v7, some (.str (x ++ " " ++ x2)), v9] ∧ Same E3 H')
    ⟨_, rfl, Same.refl _⟩ (fun j σ H' _ h => by obtain ⟨_, _, sm⟩ := h; exact SqL.of (sm _ _ hl7)) ?_ ?_
  · rintro j y σ E4 hy ⟨v7, rfl, sF⟩
    obtain ⟨r, hr', rfl⟩ := List.mem_map.mp (List.mem_of_getElem? hy)
    have ok := (all7 r hr').kp (Kp.same sF)
    have th : IsTh K E4 r.2 r.1 := ok.1.th
    exact ⟨_, rfl, r.1, rfl, th.thg0, fun E5 sF5 => ⟨_, rfl, r.1, rfl, (th.same sF5).thg0, fun E6 sF6 => ⟨rfl, _, rfl, ifN rfl ⟨_, rfl, sF.trans (sF5.trans sF6)⟩⟩⟩⟩
  rintro σ E4 ⟨v7', rfl, sF⟩
  -- the bounds of lengths
  refine ⟨big _ (show 5 ≤ 100000 by decide), fun tq ntq => ?_⟩
  have sG := Same.new ntq (.tup [V.int 1, V.int 12, V.int 13, V.int 30, V.int 31])
  have hq9 : (upd E4 tq (.tup [V.int 1, V.int 12, V.int 13, V.int 30, V.int 31]) : Hp) tq = some (.tup (SIZES.map V.int)) := upd_same
  generalize (upd E4 tq (.tup [V.int 1, V.int 12, V.int 13, V.int 30, V.int 31]) : Hp) = E5 at *
  refine ⟨tq, rfl, ⟨_, SqT.of hq9⟩, ?_⟩
  refine for_tup (xs := SIZES.map V.int) (fun j σ H' => ∃ v9 : Option V, σ = [some (.ref a), some (.ref t), some (.int (0 + (i : Int))), some (.str x), some (.ref p), some (.ref b5), some (.ref l3), v7', some (.str (x ++ " " ++ x2)), v9] ∧ Same E5 H')
    ⟨_, rfl, Same.refl _⟩ (fun j σ H' _ h => by obtain ⟨_, _, sm⟩ := h; exact SqT.of (sm _ _ hq9)) ?_ ?_
  · rintro j y σ E6 hy ⟨v9, rfl, sH⟩
    obtain ⟨n, hn, rfl⟩ := List.mem_map.mp (List.mem_of_getElem? hy)
    obtain ⟨m1, m2, m3, m4⟩ := sizes_x n hn
    have lx : (repS "x" n.toNat).length ≤ 1000 := by rw [rep_len, show ("x" : Str).length = 1 by decide +kernel]; omega
    have lX : (repS "X" n.toNat).length ≤ 1000 := by rw [rep_len, show ("X" : Str).length = 1 by decide +kernel]; omega
    refine ⟨_, rfl, "x", n, rfl, rfl, m3, by omega, by decide +kernel, by decide +kernel, .str (repS "x" n.toNat), rfl, .inl ⟨_, rfl, lx⟩, fun E7 sH7 => ?_⟩
    refine ⟨_, rfl, _, _, rfl, rfl, rfl, _, rfl, ifN (congrArg V.bl m1) ?_⟩
    refine ⟨_, rfl, "X", n, rfl, rfl, m3, by omega, by decide +kernel, by decide +kernel, .str (repS "X" n.toNat), rfl, .inl ⟨_, rfl, lX⟩, fun E8 sH8 => ?_⟩
    exact ⟨_, rfl, _, _, rfl, rfl, rfl, _, rfl, ifN (congrArg V.bl m2) ⟨_, rfl, sH.trans (sH7.trans sH8)⟩⟩
  rintro σ E6 ⟨v9', rfl, sH⟩
  exact ⟨_, _, _, _, _, _, _, _, rfl, (hW9.same (sF.trans (sG.trans sH))).up (by omega)⟩
end
end LW
namespace LW
open PySem L2 Mi Co
def spBentB (K : PySem.W.Frag) : Sp := fun vs H Q E => spBent K 2 vs H Q E ∨ spBent K 4 vs H Q E
section
variable {P : Program} {w : World} {K : PySem.W.Frag} {mg : Str → Option Value} {base : Heap} {f : Addr} {fd : FuncData}
theorem ok_bentB (F : Fun K "_law_bent" "_law_bent" sBent f fd) (G : Blt mg) (hb : Binds K fd ["_law_script", "_law_town", "_law_thing"] []) (hk : PySem.W.keepIn K (.ref f) = true) (hm : mg "_law_bent" = some (.ref f)) (hTexts : Has P w K mg base "_law_texts" 2 ["_law_script", "_law_town", "_law_text"] (spTexts K)) :
    FnOk P w K mg base CX0 6 f fd ["_law_script", "_law_town", "_law_thing"] (spBentB K) := by
  have h2 : FnOk P w K mg base CX0 6 f fd ["_law_script", "_law_town", "_law_thing"] (spBent K 2) := (ok_bent F G hb hk hm hTexts 2).mono (by decide)
  have h4 : FnOk P w K mg base CX0 6 f fd ["_law_script", "_law_town", "_law_thing"] (spBent K 4) := ok_bent F G hb hk hm hTexts 4
  exact ⟨fun vs H Q E h => h.elim (h2.len vs H Q E) (h4.len vs H Q E), fun A outer s H args us vs Q E hr he hbd hv h => h.elim (h2.run A outer s H args us vs Q E hr he hbd hv) (h4.run A outer s H args us vs Q E hr he hbd hv)⟩
theorem hb2 {k : Nat} (h : Has P w K mg base "_law_bent" k ["_law_script", "_law_town", "_law_thing"] (spBentB K)) : Has P w K mg base "_law_bent" k ["_law_script", "_law_town", "_law_thing"] (spBent K 2) := by
  obtain ⟨f, fd, F, b, kp, m⟩ := h
  exact ⟨f, fd, F.imp fun _ _ _ _ z => .inl z, b, kp, m⟩
theorem hb4 {k : Nat} (h : Has P w K mg base "_law_bent" k ["_law_script", "_law_town", "_law_thing"] (spBentB K)) : Has P w K mg base "_law_bent" k ["_law_script", "_law_town", "_law_thing"] (spBent K 4) := by
  obtain ⟨f, fd, F, b, kp, m⟩ := h
  exact ⟨f, fd, F.imp fun _ _ _ _ z => .inr z, b, kp, m⟩
end
end LW
namespace LW
open PySem L2 Mi Co
theorem all_mk {l : PySem.W.OpenLaw} {w : World} {K : PySem.W.Frag} {h : Heap} {mg : Str → Option Value} {fa f1 f2 f3 f4 f5 f6 f7 f8 f9 f10 f11 f12 f13 f14 f15 f16 f17 : Addr} (X : K.In h) (G0 : h.Ns mainGlobals mg) (hfa : mg "law" = some (.ref fa))
    {od1 an1 od2 an2 od3 an3 od4 an4 od5 an5 od6 an6 od7 an7 od8 an8 od9 an9 od10 an10 od11 an11 od12 an12 od13 an13 od14 an14 od15 an15 od16 an16 od17 an17 : Option Addr} {sl1 sl2 sl3 sl4 sl5 sl6 sl7 sl8 sl9 sl10 sl11 sl12 sl13 sl14 sl15 sl16 sl17 : Array (Option Value)} {oc1 kV1 dc1 pm1 cd1 ct1 oc2 kV2 dc2 pm2 cd2 ct2 oc3 kV3 dc3 pm3 cd3 ct3 oc4 kV4 dc4 pm4 cd4 ct4 oc5 kV5 dc5 pm5 cd5 ct5 oc6 kV6 dc6 pm6 cd6 ct6 oc7 kV7 dc7 pm7 cd7 ct7 oc8 kV8 dc8 pm8 cd8 ct8 oc9 kV9 dc9 pm9 cd9 ct9 oc10 kV10 dc10 pm10 cd10 ct10 oc11 kV11 dc11 pm11 cd11 ct11 oc12 kV12 dc12 pm12 cd12 ct12 oc13 kV13 dc13 pm13 cd13 ct13 oc14 kV14 dc14 pm14 cd14 ct14 oc15 kV15 dc15 pm15 cd15 ct15 oc16 kV16 dc16 pm16 cd16 ct16 oc17 kV17 dc17 pm17 cd17 ct17 : Value} {t1 t2 t3 t4 : Tok}
    (a1 : PySem.W.nsIn K mainGlobals "is_word" = some (some (.ref f1))) (l1 : K.lookup f1 = some ⟨oc1, od1, .func (PySem.W.fnOf "is_word" "is_word" (defArgs sWord) (defBody sWord) (defScope sWord) .none kV1 dc1 pm1 an1 cd1 ct1), sl1⟩) (c1 : PySem.W.codeIn K cd1 "is_word" = true) (k1 : PySem.W.keepIn K (.ref f1) = true)
    (a2 : PySem.W.nsIn K mainGlobals "is_name" = some (some (.ref f2))) (l2 : K.lookup f2 = some ⟨oc2, od2, .func (PySem.W.fnOf "is_name" "is_name" (defArgs sName) (defBody sName) (defScope sName) .none kV2 dc2 pm2 an2 cd2 ct2), sl2⟩) (c2 : PySem.W.codeIn K cd2 "is_name" = true) (k2 : PySem.W.keepIn K (.ref f2) = true)
    (a3 : PySem.W.nsIn K mainGlobals "is_title" = some (some (.ref f3))) (l3 : K.lookup f3 = some ⟨oc3, od3, .func (PySem.W.fnOf "is_title" "is_title" (defArgs sTitle) (defBody sTitle) (defScope sTitle) .none kV3 dc3 pm3 an3 cd3 ct3), sl3⟩) (c3 : PySem.W.codeIn K cd3 "is_title" = true) (k3 : PySem.W.keepIn K (.ref f3) = true)
    (a4 : PySem.W.nsIn K mainGlobals "is_address" = some (some (.ref f4))) (l4 : K.lookup f4 = some ⟨oc4, od4, .func (PySem.W.fnOf "is_address" "is_address" (defArgs sAddr) (defBody sAddr) (defScope sAddr) .none kV4 dc4 pm4 an4 cd4 ct4), sl4⟩) (c4 : PySem.W.codeIn K cd4 "is_address" = true) (k4 : PySem.W.keepIn K (.ref f4) = true)
    (a5 : PySem.W.nsIn K mainGlobals "is_row" = some (some (.ref f5))) (l5 : K.lookup f5 = some ⟨oc5, od5, .func (PySem.W.fnOf "is_row" "is_row" (defArgs sRow) (defBody sRow) (defScope sRow) .none kV5 dc5 pm5 an5 cd5 ct5), sl5⟩) (c5 : PySem.W.codeIn K cd5 "is_row" = true) (k5 : PySem.W.keepIn K (.ref f5) = true)
    (a6 : PySem.W.nsIn K mainGlobals "are_rows" = some (some (.ref f6))) (l6 : K.lookup f6 = some ⟨oc6, od6, .func (PySem.W.fnOf "are_rows" "are_rows" (defArgs sAre) (defBody sAre) (defScope sAre) .none kV6 dc6 pm6 an6 cd6 ct6), sl6⟩) (c6 : PySem.W.codeIn K cd6 "are_rows" = true) (k6 : PySem.W.keepIn K (.ref f6) = true)
    (a7 : PySem.W.nsIn K mainGlobals "_law_draw" = some (some (.ref f7))) (l7 : K.lookup f7 = some ⟨oc7, od7, .func (PySem.W.fnOf "_law_draw" "_law_draw" (defArgs sDraw) (defBody sDraw) (defScope sDraw) .none kV7 dc7 pm7 an7 cd7 ct7), sl7⟩) (c7 : PySem.W.codeIn K cd7 "_law_draw" = true) (k7 : PySem.W.keepIn K (.ref f7) = true)
    (a8 : PySem.W.nsIn K mainGlobals "_law_pick" = some (some (.ref f8))) (l8 : K.lookup f8 = some ⟨oc8, od8, .func (PySem.W.fnOf "_law_pick" "_law_pick" (defArgs sPick) (defBody sPick) (defScope sPick) .none kV8 dc8 pm8 an8 cd8 ct8), sl8⟩) (c8 : PySem.W.codeIn K cd8 "_law_pick" = true) (k8 : PySem.W.keepIn K (.ref f8) = true)
    (a9 : PySem.W.nsIn K mainGlobals "_law_name" = some (some (.ref f9))) (l9 : K.lookup f9 = some ⟨oc9, od9, .func (PySem.W.fnOf "_law_name" "_law_name" (defArgs sMName) (defBody sMName) (defScope sMName) .none kV9 dc9 pm9 an9 cd9 ct9), sl9⟩) (c9 : PySem.W.codeIn K cd9 "_law_name" = true) (k9 : PySem.W.keepIn K (.ref f9) = true)
    (a10 : PySem.W.nsIn K mainGlobals "_law_is_name" = some (some (.ref f10))) (l10 : K.lookup f10 = some ⟨oc10, od10, .func (PySem.W.fnOf "_law_is_name" "_law_is_name" (defArgs sLName) (defBody sLName) (defScope sLName) .none kV10 dc10 pm10 an10 cd10 ct10), sl10⟩) (c10 : PySem.W.codeIn K cd10 "_law_is_name" = true) (k10 : PySem.W.keepIn K (.ref f10) = true)
    (a11 : PySem.W.nsIn K mainGlobals "_law_is_title" = some (some (.ref f11))) (l11 : K.lookup f11 = some ⟨oc11, od11, .func (PySem.W.fnOf "_law_is_title" "_law_is_title" (defArgs sLTitle) (defBody sLTitle) (defScope sLTitle) .none kV11 dc11 pm11 an11 cd11 ct11), sl11⟩) (c11 : PySem.W.codeIn K cd11 "_law_is_title" = true) (k11 : PySem.W.keepIn K (.ref f11) = true)
    (a12 : PySem.W.nsIn K mainGlobals "_law_is_address" = some (some (.ref f12))) (l12 : K.lookup f12 = some ⟨oc12, od12, .func (PySem.W.fnOf "_law_is_address" "_law_is_address" (defArgs sLAddr) (defBody sLAddr) (defScope sLAddr) .none kV12 dc12 pm12 an12 cd12 ct12), sl12⟩) (c12 : PySem.W.codeIn K cd12 "_law_is_address" = true) (k12 : PySem.W.keepIn K (.ref f12) = true)
    (a13 : PySem.W.nsIn K mainGlobals "_law_are_rows" = some (some (.ref f13))) (l13 : K.lookup f13 = some ⟨oc13, od13, .func (PySem.W.fnOf "_law_are_rows" "_law_are_rows" (defArgs sLAre) (defBody sLAre) (defScope sLAre) .none kV13 dc13 pm13 an13 cd13 ct13), sl13⟩) (c13 : PySem.W.codeIn K cd13 "_law_are_rows" = true) (k13 : PySem.W.keepIn K (.ref f13) = true)
    (a14 : PySem.W.nsIn K mainGlobals "_law_texts" = some (some (.ref f14))) (l14 : K.lookup f14 = some ⟨oc14, od14, .func (PySem.W.fnOf "_law_texts" "_law_texts" (defArgs sTexts) (defBody sTexts) (defScope sTexts) .none kV14 dc14 pm14 an14 cd14 ct14), sl14⟩) (c14 : PySem.W.codeIn K cd14 "_law_texts" = true) (k14 : PySem.W.keepIn K (.ref f14) = true)
    (a15 : PySem.W.nsIn K mainGlobals "_law_bent" = some (some (.ref f15))) (l15 : K.lookup f15 = some ⟨oc15, od15, .func (PySem.W.fnOf "_law_bent" "_law_bent" (defArgs sBent) (defBody sBent) (defScope sBent) .none kV15 dc15 pm15 an15 cd15 ct15), sl15⟩) (c15 : PySem.W.codeIn K cd15 "_law_bent" = true) (k15 : PySem.W.keepIn K (.ref f15) = true)
    (a16 : PySem.W.nsIn K mainGlobals "_law_hold" = some (some (.ref f16))) (l16 : K.lookup f16 = some ⟨oc16, od16, .func (PySem.W.fnOf "_law_hold" "_law_hold" (defArgs sHold) (defBody sHold) (defScope sHold) .none kV16 dc16 pm16 an16 cd16 ct16), sl16⟩) (c16 : PySem.W.codeIn K cd16 "_law_hold" = true) (k16 : PySem.W.keepIn K (.ref f16) = true)
    (a17 : PySem.W.nsIn K mainGlobals "law" = some (some (.ref f17))) (l17 : K.lookup f17 = some ⟨oc17, od17, .func (PySem.W.fnOf "law" "law" (defArgs sLaw) (defBody sLaw) (defScope sLaw) .none kV17 dc17 pm17 an17 cd17 ct17), sl17⟩) (c17 : PySem.W.codeIn K cd17 "law" = true) (k17 : PySem.W.keepIn K (.ref f17) = true)
    (w1 : PySem.W.nsIn K mainGlobals "WORD_SIGNS" = some (some (.str "abcdefghijklmnopqrstuvwxyz0123456789" t1)))
    (w2 : PySem.W.nsIn K mainGlobals "LONGEST_NAME" = some (some (.int 12 t2)))
    (w3 : PySem.W.nsIn K mainGlobals "LONGEST_TITLE" = some (some (.int 30 t3)))
    (w4 : PySem.W.nsIn K mainGlobals "MOST_NAMES" = some (some (.int 4 t4)))
    (z1 : PySem.W.nsIn K mainGlobals "len" = some none)
    (z2 : PySem.W.nsIn K mainGlobals "all" = some none)
    (z3 : PySem.W.nsIn K mainGlobals "isinstance" = some none)
    (z4 : PySem.W.nsIn K mainGlobals "str" = some none)
    (z5 : PySem.W.nsIn K mainGlobals "int" = some none)
    (z6 : PySem.W.nsIn K mainGlobals "bool" = some none)
    (z7 : PySem.W.nsIn K mainGlobals "tuple" = some none)
    (z8 : PySem.W.nsIn K mainGlobals "list" = some none)
    (z9 : PySem.W.nsIn K mainGlobals "range" = some none)
    (z10 : PySem.W.nsIn K mainGlobals "zip" = some none)
    (z11 : PySem.W.nsIn K mainGlobals "any" = some none)
    (z12 : PySem.W.nsIn K mainGlobals "sorted" = some none)
    (z13 : PySem.W.nsIn K mainGlobals "dict" = some none)
    (z14 : PySem.W.nsIn K mainGlobals "enumerate" = some none)
    (z15 : PySem.W.nsIn K mainGlobals "set" = some none)
    : ∃ fd : FuncData, (∀ (s : Shared) (v : Value), BindsTo s fd ⟨[v], []⟩ [("_law_script", v)]) ∧ ∀ base : Heap, K.In base → base.Ns mainGlobals mg → FnOk l.prog w K mg base CX0 7 fa fd ["_law_script"] (spLaw K) := by
  have e := hfa.symm.trans (PySem.W.mg_of X G0 a17)
  cases e
  have F1 := fun_mk (st := sWord) l1 c1 k1
  have F2 := fun_mk (st := sName) l2 c2 k2
  have F3 := fun_mk (st := sTitle) l3 c3 k3
  have F4 := fun_mk (st := sAddr) l4 c4 k4
  have F5 := fun_mk (st := sRow) l5 c5 k5
  have F6 := fun_mk (st := sAre) l6 c6 k6
  have F7 := fun_mk (st := sDraw) l7 c7 k7
  have F8 := fun_mk (st := sPick) l8 c8 k8
  have F9 := fun_mk (st := sMName) l9 c9 k9
  have F10 := fun_mk (st := sLName) l10 c10 k10
  have F11 := fun_mk (st := sLTitle) l11 c11 k11
  have F12 := fun_mk (st := sLAddr) l12 c12 k12
  have F13 := fun_mk (st := sLAre) l13 c13 k13
  have F14 := fun_mk (st := sTexts) l14 c14 k14
  have F15 := fun_mk (st := sBent) l15 c15 k15
  have F16 := fun_mk (st := sHold) l16 c16 k16
  have F17 := fun_mk (st := sLaw) l17 c17 k17
  have b1 := F1.binds (ps := ["text"]) fun _ _ _ _ _ _ us hl => match us, hl with | [_], _ => rfl
  have b2 := F2.binds (ps := ["thing"]) fun _ _ _ _ _ _ us hl => match us, hl with | [_], _ => rfl
  have b3 := F3.binds (ps := ["thing"]) fun _ _ _ _ _ _ us hl => match us, hl with | [_], _ => rfl
  have b4 := F4.binds (ps := ["thing"]) fun _ _ _ _ _ _ us hl => match us, hl with | [_], _ => rfl
  have b5 := F5.binds (ps := ["thing"]) fun _ _ _ _ _ _ us hl => match us, hl with | [_], _ => rfl
  have b6 := F6.binds (ps := ["thing"]) fun _ _ _ _ _ _ us hl => match us, hl with | [_], _ => rfl
  have b7 := F7.binds (ps := ["_law_script", "_law_town", "_law_many"]) fun _ _ _ _ _ _ us hl => match us, hl with | [_, _, _], _ => rfl
  have b8 := F8.binds (ps := ["_law_script", "_law_town", "_law_some"]) fun _ _ _ _ _ _ us hl => match us, hl with | [_, _, _], _ => rfl
  have b9 := F9.binds (ps := ["_law_script", "_law_town"]) fun _ _ _ _ _ _ us hl => match us, hl with | [_, _], _ => rfl
  have b10 := F10.binds (ps := ["_law_thing"]) fun _ _ _ _ _ _ us hl => match us, hl with | [_], _ => rfl
  have b11 := F11.binds (ps := ["_law_thing"]) fun _ _ _ _ _ _ us hl => match us, hl with | [_], _ => rfl
  have b12 := F12.binds (ps := ["_law_thing"]) fun _ _ _ _ _ _ us hl => match us, hl with | [_], _ => rfl
  have b13 := F13.binds (ps := ["_law_thing"]) fun _ _ _ _ _ _ us hl => match us, hl with | [_], _ => rfl
  have b14 := F14.binds (ps := ["_law_script", "_law_town", "_law_text"]) fun _ _ _ _ _ _ us hl => match us, hl with | [_, _, _], _ => rfl
  have b15 := F15.binds (ps := ["_law_script", "_law_town", "_law_thing"]) fun _ _ _ _ _ _ us hl => match us, hl with | [_, _, _], _ => rfl
  have b16 := F16.binds (ps := ["_law_thing"]) fun _ _ _ _ _ _ us hl => match us, hl with | [_], _ => rfl
  have G : Blt mg := ⟨PySem.W.mg_none_of X G0 z1, PySem.W.mg_none_of X G0 z2, PySem.W.mg_none_of X G0 z3, PySem.W.mg_none_of X G0 z4, PySem.W.mg_none_of X G0 z5, PySem.W.mg_none_of X G0 z6, PySem.W.mg_none_of X G0 z7, PySem.W.mg_none_of X G0 z8, PySem.W.mg_none_of X G0 z9, PySem.W.mg_none_of X G0 z10, PySem.W.mg_none_of X G0 z11, PySem.W.mg_none_of X G0 z12, PySem.W.mg_none_of X G0 z13, PySem.W.mg_none_of X G0 z14⟩
  have Z_set : mg "set" = none := PySem.W.mg_none_of X G0 z15
  have W_WORD_SIGNS : ∃ t, mg "WORD_SIGNS" = some (.str "abcdefghijklmnopqrstuvwxyz0123456789" t) := ⟨_, PySem.W.mg_of X G0 w1⟩
  have W_LONGEST_NAME : ∃ t, mg "LONGEST_NAME" = some (.int 12 t) := ⟨_, PySem.W.mg_of X G0 w2⟩
  have W_LONGEST_TITLE : ∃ t, mg "LONGEST_TITLE" = some (.int 30 t) := ⟨_, PySem.W.mg_of X G0 w3⟩
  have W_MOST_NAMES : ∃ t, mg "MOST_NAMES" = some (.int 4 t) := ⟨_, PySem.W.mg_of X G0 w4⟩
  refine ⟨PySem.W.fnOf "law" "law" (defArgs sLaw) (defBody sLaw) (defScope sLaw) .none kV17 dc17 pm17 an17 cd17 ct17, fun s v => .of_eq rfl, fun base kb nb => ?_⟩
  have H_is_word : Has l.prog w K mg base "is_word" 1 ["text"] spWord := ⟨f1, _, ok_word (k := 0) F1 G W_WORD_SIGNS, b1, k1, (PySem.W.mg_of X G0 a1)⟩
  have H_is_name : Has l.prog w K mg base "is_name" 2 ["thing"] (spNameV K) := ⟨f2, _, ok_name F2 G W_LONGEST_NAME H_is_word, b2, k2, (PySem.W.mg_of X G0 a2)⟩
  have H_is_title : Has l.prog w K mg base "is_title" 1 ["thing"] (spTitleV K) := ⟨f3, _, ok_title (k := 0) F3 G W_LONGEST_TITLE, b3, k3, (PySem.W.mg_of X G0 a3)⟩
  have H_is_address : Has l.prog w K mg base "is_address" 3 ["thing"] (spAddr K) := ⟨f4, _, ok_addr F4 G W_MOST_NAMES H_is_name, b4, k4, (PySem.W.mg_of X G0 a4)⟩
  have H_is_row : Has l.prog w K mg base "is_row" 4 ["thing"] (spRow K) := ⟨f5, _, ok_row F5 G H_is_address, b5, k5, (PySem.W.mg_of X G0 a5)⟩
  have H_are_rows : Has l.prog w K mg base "are_rows" 5 ["thing"] (spAre K) := ⟨f6, _, ok_are F6 G Z_set H_is_row, b6, k6, (PySem.W.mg_of X G0 a6)⟩
  have H__law_draw : Has l.prog w K mg base "_law_draw" 1 ["_law_script", "_law_town", "_law_many"] (spDraw K) := ⟨f7, _, ok_draw (k := 0) F7 G, b7, k7, (PySem.W.mg_of X G0 a7)⟩
  have H__law_pick : Has l.prog w K mg base "_law_pick" 2 ["_law_script", "_law_town", "_law_some"] (spPick K) := ⟨f8, _, ok_pick F8 G H__law_draw, b8, k8, (PySem.W.mg_of X G0 a8)⟩
  have H__law_name : Has l.prog w K mg base "_law_name" 3 ["_law_script", "_law_town"] (spMName K) := ⟨f9, _, ok_mname F9 G (H__law_draw.mono (by decide)) H__law_pick, b9, k9, (PySem.W.mg_of X G0 a9)⟩
  have H__law_is_name : Has l.prog w K mg base "_law_is_name" 1 ["_law_thing"] (spNameV K) := ⟨f10, _, ok_lname (k := 0) F10 G, b10, k10, (PySem.W.mg_of X G0 a10)⟩
  have H__law_is_title : Has l.prog w K mg base "_law_is_title" 1 ["_law_thing"] (spTitleV K) := ⟨f11, _, ok_ltitle (k := 0) F11 G, b11, k11, (PySem.W.mg_of X G0 a11)⟩
  have H__law_is_address : Has l.prog w K mg base "_law_is_address" 2 ["_law_thing"] (spAddr K) := ⟨f12, _, ok_laddr F12 G H__law_is_name, b12, k12, (PySem.W.mg_of X G0 a12)⟩
  have H__law_are_rows : Has l.prog w K mg base "_law_are_rows" 3 ["_law_thing"] spLAre := ⟨f13, _, ok_lare F13 G H__law_is_address, b13, k13, (PySem.W.mg_of X G0 a13)⟩
  have H__law_texts : Has l.prog w K mg base "_law_texts" 2 ["_law_script", "_law_town", "_law_text"] (spTexts K) := ⟨f14, _, ok_texts F14 G H__law_draw, b14, k14, (PySem.W.mg_of X G0 a14)⟩
  have H__law_bent : Has l.prog w K mg base "_law_bent" 6 ["_law_script", "_law_town", "_law_thing"] (spBentB K) := ⟨f15, _, ok_bentB F15 G b15 k15 (PySem.W.mg_of X G0 a15) H__law_texts, b15, k15, (PySem.W.mg_of X G0 a15)⟩
  have H__law_hold : Has l.prog w K mg base "_law_hold" 6 ["_law_thing"] spHold := ⟨f16, _, ok_hold (k := 5) F16 (H_is_name.mono (by decide)) (H__law_is_name.mono (by decide)) (H_is_title.mono (by decide)) (H__law_is_title.mono (by decide)) (H_is_address.mono (by decide)) (H__law_is_address.mono (by decide)) (H_are_rows.mono (by decide)) (H__law_are_rows.mono (by decide)), b16, k16, (PySem.W.mg_of X G0 a16)⟩
  exact ok_law (k := 6) F17 G (H__law_draw.mono (by decide)) (H__law_name.mono (by decide)) (H_is_name.mono (by decide)) (H_is_title.mono (by decide)) (H__law_is_title.mono (by decide)) (H_is_address.mono (by decide)) (H_are_rows.mono (by decide)) (H__law_texts.mono (by decide)) (hb2 H__law_bent) (hb4 H__law_bent) H__law_hold
theorem walk {l : PySem.W.OpenLaw} {q : Program} {loose : List Str} {XP : (Str → Option Value) → Heap → Prop} {YP : World → Heap → Prop} {d : DefRec} {K : Params → PySem.W.Frag} (hn : l.most = some 63) (hdf : d.params.defaults = [])
    (hY : ∀ (w : World) (h : Heap), YP w h → (K w.params).In h)
    (F : ∀ (w : World) (mg : Str → Option Value) (fa : Addr) (h : Heap), (K w.params).In h → h.Ns mainGlobals mg → mg d.name = some (.ref fa) →
      ∃ fd : FuncData, (∀ (s : Shared) (u : Value), BindsTo s fd ⟨[u], []⟩ [("_law_script", u)]) ∧ ∀ base : Heap, (K w.params).In base → base.Ns mainGlobals mg → FnOk l.prog w (K w.params) mg base CX0 7 fa fd ["_law_script"] (spLaw (K w.params))) :
    PySem.W.WalkO q loose XP YP l.row.toRowW d [] (fun f vs => PySem.call f vs) :=
  L2.walk_of (n := 63) (k := 7) (x := "_law_script") (CX := fun _ => CX0) (sp := fun w => spLaw (K w.params)) hn (by decide) hdf ⟨rfl, by decide, by decide⟩ hY F (fun _ _ a ns hl hO hS => ⟨a, ns, rfl, scr_of hO hS, hl, fun _ => rfl⟩) fun _ _ _ _ _ z => z
end LW
open PySem PySem.W PyProof.Rows
set_option maxRecDepth 100000 in
set_option maxHeartbeats 0 in
theorem PySem.Challenge.cw_pagenames_k34_whole_things_bent_holds : PySem.Challenge.rw_pagenames_k34_whole_things_bent.Holds := by
  w_on; o_law; k_head; (case hw => w_witness2)
  k_fill
  refine LW.walk (l := PySem.Challenge.rw_pagenames_k34_whole_things_bent) rfl rfl (fun w h Y => PySem.W.kIn_of Y) ?F
  case F =>
    intro w mg fa h KX G hmg
    refine' LW.all_mk KX G hmg ?a1 ?l1 ?c1 ?k1 ?a2 ?l2 ?c2 ?k2 ?a3 ?l3 ?c3 ?k3 ?a4 ?l4 ?c4 ?k4 ?a5 ?l5 ?c5 ?k5 ?a6 ?l6 ?c6 ?k6 ?a7 ?l7 ?c7 ?k7 ?a8 ?l8 ?c8 ?k8 ?a9 ?l9 ?c9 ?k9 ?a10 ?l10 ?c10 ?k10 ?a11 ?l11 ?c11 ?k11 ?a12 ?l12 ?c12 ?k12 ?a13 ?l13 ?c13 ?k13 ?a14 ?l14 ?c14 ?k14 ?a15 ?l15 ?c15 ?k15 ?a16 ?l16 ?c16 ?k16 ?a17 ?l17 ?c17 ?k17 ?w1 ?w2 ?w3 ?w4 ?z1 ?z2 ?z3 ?z4 ?z5 ?z6 ?z7 ?z8 ?z9 ?z10 ?z11 ?z12 ?z13 ?z14 ?z15
    (case a1 => k_is)
    (case l1 => k_is)
    (case c1 => k_is)
    (case k1 => k_is)
    (case a2 => k_is)
    (case l2 => k_is)
    (case c2 => k_is)
    (case k2 => k_is)
    (case a3 => k_is)
    (case l3 => k_is)
    (case c3 => k_is)
    (case k3 => k_is)
    (case a4 => k_is)
    (case l4 => k_is)
    (case c4 => k_is)
    (case k4 => k_is)
    (case a5 => k_is)
    (case l5 => k_is)
    (case c5 => k_is)
    (case k5 => k_is)
    (case a6 => k_is)
    (case l6 => k_is)
    (case c6 => k_is)
    (case k6 => k_is)
    (case a7 => k_is)
    (case l7 => k_is)
    (case c7 => k_is)
    (case k7 => k_is)
    (case a8 => k_is)
    (case l8 => k_is)
    (case c8 => k_is)
    (case k8 => k_is)
    (case a9 => k_is)
    (case l9 => k_is)
    (case c9 => k_is)
    (case k9 => k_is)
    (case a10 => k_is)
    (case l10 => k_is)
    (case c10 => k_is)
    (case k10 => k_is)
    (case a11 => k_is)
    (case l11 => k_is)
    (case c11 => k_is)
    (case k11 => k_is)
    (case a12 => k_is)
    (case l12 => k_is)
    (case c12 => k_is)
    (case k12 => k_is)
    (case a13 => k_is)
    (case l13 => k_is)
    (case c13 => k_is)
    (case k13 => k_is)
    (case a14 => k_is)
    (case l14 => k_is)
    (case c14 => k_is)
    (case k14 => k_is)
    (case a15 => k_is)
    (case l15 => k_is)
    (case c15 => k_is)
    (case k15 => k_is)
    (case a16 => k_is)
    (case l16 => k_is)
    (case c16 => k_is)
    (case k16 => k_is)
    (case a17 => k_is)
    (case l17 => k_is)
    (case c17 => k_is)
    (case k17 => k_is)
    (case w1 => k_is)
    (case w2 => k_is)
    (case w3 => k_is)
    (case w4 => k_is)
    (case z1 => k_is)
    (case z2 => k_is)
    (case z3 => k_is)
    (case z4 => k_is)
    (case z5 => k_is)
    (case z6 => k_is)
    (case z7 => k_is)
    (case z8 => k_is)
    (case z9 => k_is)
    (case z10 => k_is)
    (case z11 => k_is)
    (case z12 => k_is)
    (case z13 => k_is)
    (case z14 => k_is)
    (case z15 => k_is)
