import PyProof.Rows.All
import Wide.All
import OpenK.AllK
import Wide.FinOn
import Lean
import PyProof.EqAt
import PyProof.EqKinds
import PyProof.TupleCall
import PySem.Challenge.RW_pagenames_k11_whole_rows_as_texts
set_option Elab.async false
set_option linter.all false
set_option maxRecDepth 100000
namespace L2
open PySem PySem.Spec PyProof.Rows
abbrev Key := Sum Int Str
def keyIs : Key → Value → Bool
  | .inl k, v => Value.isInt k v
  | .inr x, v => Value.isStrOf x v
def keyH (w : World) : Key → Int
  | .inl k => hashInt k
  | .inr x => hashStr w x
theorem keyIs_shape : ∀ {k : Key} {v : Value}, keyIs k v = true → (∃ i t, k = Sum.inl i ∧ v = Value.int i t) ∨ (∃ x t, k = Sum.inr x ∧ v = Value.str x t)
  | .inl i, v, h => by
    obtain ⟨t, e⟩ := Value.isInt_shape (k := i) (v := v) h
    exact .inl ⟨i, t, rfl, e⟩
  | .inr x, v, h => by
    obtain ⟨t, e⟩ := Value.isStrOf_shape (x := x) (v := v) h
    exact .inr ⟨x, t, rfl, e⟩
theorem keyIs_int (i : Int) (t : Tok) : keyIs (.inl i) (.int i t) = true := by simp [keyIs, Value.isInt]
theorem keyIs_str (x : Str) (t : Tok) : keyIs (.inr x) (.str x t) = true := by simp [keyIs, Value.isStrOf]
theorem key_ll (a b : Int) : decide ((Sum.inl a : Key) = Sum.inl b) = (a == b) := by
  by_cases e : a = b
  · subst e; simp
  · have h : ¬ (Sum.inl a : Key) = Sum.inl b := fun q => e (Sum.inl.inj q)
    rw [decide_eq_false h]
    exact (beq_eq_false_iff_ne.mpr e).symm
theorem key_rr (a b : Str) : decide ((Sum.inr a : Key) = Sum.inr b) = decide (a = b) := by
  by_cases e : a = b
  · subst e; simp
  · have h : ¬ (Sum.inr a : Key) = Sum.inr b := fun q => e (Sum.inr.inj q)
    rw [decide_eq_false h, decide_eq_false e]
theorem key_lr (a : Int) (b : Str) : decide ((Sum.inl a : Key) = Sum.inr b) = false := decide_eq_false (fun q => nomatch q)
theorem key_rl (a : Str) (b : Int) : decide ((Sum.inr a : Key) = Sum.inl b) = false := decide_eq_false (fun q => nomatch q)
def mixKind (prog : Program) (w : World) : PySem.KeyKind prog w Key where
  is := keyIs
  hash := keyH w
  inj := fun v a b ha hb => by
    rcases keyIs_shape ha with ⟨i, t, rfl, rfl⟩ | ⟨x, t, rfl, rfl⟩
    · rcases keyIs_shape hb with ⟨j, u, rfl, e⟩ | ⟨y, u, rfl, e⟩
      · injection e with e1 _; rw [e1]
      · exact nomatch e
    · rcases keyIs_shape hb with ⟨j, u, rfl, e⟩ | ⟨y, u, rfl, e⟩
      · exact nomatch e
      · injection e with e1 _; rw [e1]
  byValue := fun k v h => by
    rcases keyIs_shape h with ⟨i, t, rfl, rfl⟩ | ⟨x, t, rfl, rfl⟩ <;> rfl
  pyHash := fun hv h => by
    rcases keyIs_shape hv with ⟨i, t, rfl, rfl⟩ | ⟨x, t, rfl, rfl⟩
    · exact wpAny_pyHash_int h
    · exact wpAny_pyHash_str h
  eqBool := fun hu hv h => by
    rcases keyIs_shape hu with ⟨i, t, rfl, rfl⟩ | ⟨x, t, rfl, rfl⟩
    · rcases keyIs_shape hv with ⟨j, u, rfl, rfl⟩ | ⟨y, u, rfl, rfl⟩
      · rw [key_ll] at h; exact wpAny_eqBool_int h
      · rw [key_lr] at h; exact SeqAt.EqAt.int_str i t y u _ _ _ _ h
    · rcases keyIs_shape hv with ⟨j, u, rfl, rfl⟩ | ⟨y, u, rfl, rfl⟩
      · rw [key_rl] at h; exact SeqAt.EqAt.str_int x t j u _ _ _ _ h
      · rw [key_rr] at h; exact wpAny_eqBool_str h
  «strs» := fun k x t v h => by
    rcases keyIs_shape h with ⟨i, u, rfl, e⟩ | ⟨y, u, rfl, e⟩
    · exact nomatch e
    · injection e with e1 _
      subst e1
      cases v <;> rfl
theorem mixKind_int (prog : Program) (w : World) (i : Int) (t : Tok) : (mixKind prog w).is (.inl i) (.int i t) = true := keyIs_int i t
theorem mixKind_str (prog : Program) (w : World) (x : Str) (t : Tok) : (mixKind prog w).is (.inr x) (.str x t) = true := keyIs_str x t
end L2
namespace L2
open PySem PySem.Spec PyProof.Rows
inductive V where
  | non | bl (b : Bool) | int (i : Int) | str (x : Str) | byt (b : Array UInt8) | flt (b : UInt64) | ref (a : Addr) | ty (n : String)
  deriving DecidableEq
def RelV : V → Value → Prop
  | .non, u => u = Value.none
  | .bl b, u => u = Value.bool b
  | .int i, u => ∃ t, u = Value.int i t
  | .str x, u => ∃ t, u = Value.str x t
  | .byt b, u => ∃ t, u = Value.bytes b t
  | .flt b, u => ∃ t, u = Value.float b t
  | .ref a, u => u = Value.ref a
  | .ty n, u => u = Value.type n
abbrev Vals : List V → List Value → Prop := Paired RelV
theorem Vals.length {xs : List V} {us : List Value} (r : Vals xs us) : xs.length = us.length := Paired.length r
theorem Vals.get : ∀ {xs : List V} {us : List Value} {i : Nat} {x : V}, Vals xs us → xs[i]? = some x → ∃ u, us[i]? = some u ∧ RelV x u
  | _, _, _, _, .nil, e => by simp at e
  | _, _, 0, _, .cons r _, e => by simp at e; subst e; exact ⟨_, rfl, r⟩
  | _, _, i + 1, x, .cons _ t, e => by
    obtain ⟨u, h1, h2⟩ := Vals.get (i := i) (x := x) t (by simpa using e)
    exact ⟨u, by simpa using h1, h2⟩
theorem Vals.set {x : V} {u : Value} (r : RelV x u) : ∀ {xs : List V} {us : List Value} (i : Nat), Vals xs us → Vals (xs.set i x) (us.set i u)
  | _, _, _, .nil => .nil
  | _, _, 0, .cons _ t => .cons r t
  | _, _, i + 1, .cons q t => .cons q (Vals.set r i t)
theorem Vals.append : ∀ {xs ys : List V} {us ws : List Value}, Vals xs us → Vals ys ws → Vals (xs ++ ys) (us ++ ws)
  | _, _, _, _, .nil, s => s
  | _, _, _, _, .cons r t, s => .cons r (Vals.append t s)
theorem Vals.take : ∀ {xs : List V} {us : List Value} (n : Nat), Vals xs us → Vals (xs.take n) (us.take n)
  | _, _, 0, _ => .nil
  | _, _, _ + 1, .nil => .nil
  | _, _, n + 1, .cons r t => .cons r (Vals.take n t)
theorem Vals.drop : ∀ {xs : List V} {us : List Value} (n : Nat), Vals xs us → Vals (xs.drop n) (us.drop n)
  | _, _, 0, r => r
  | _, _, _ + 1, .nil => .nil
  | _, _, n + 1, .cons _ t => Vals.drop n t
def RelO : Option V → Option Value → Prop
  | some v, some u => RelV v u
  | none, none => True
  | _, _ => False
def KV {κ : Type} : List (κ × V) → List (κ × Value) → Prop := Paired fun (p : κ × V) (q : κ × Value) => p.1 = q.1 ∧ RelV p.2 q.2
def kV : Key → V
  | .inl i => .int i
  | .inr x => .str x
inductive HO where
  /-- a list -/
  | lst (xs : List V)
  /-- a tuple (never changes) -/
  | tup (xs : List V)
  /-- a dict whose keys are ints and texts; one whose keys are tuples of ints and texts (the empty one is both) -/
  | dK (kvs : List (Key × V)) | dT (kvs : List (List Key × V))
  /-- a set of ints: its members, its size -/
  | set (S : Int → Bool) (n : Nat)
  /-- an instance of the class at C, its dict at dx, its attributes -/
  | ins (C dx : Addr) (fs : List (Str × V))
  /-- the dict of the instance at x -/
  | own (x : Addr)
  /-- the dict of an exception -/
  | xd (fs : List (Str × V))
  /-- a bound method, f of x -/
  | met (f x : Addr)
  /-- a range object lo, lo + 1, .. below hi -/
  | rng (lo hi : Int)
  /-- a thing that is known to the object (the script; a dict while a loop walks it): read, never written while it is so -/
  | frz (o : Obj) (u : HO)
  /-- a code object's table -/
  | tbl (ps : Array Value)
  /-- any other thing, by what is true of its one object (a def of one's own: SetO a S n := HO.ext fun h => ..) -/
  | ext (φ : Heap → Prop)
def IsTupN (h : Heap) (a : Addr) (items : Array Value) : Prop := IsTup h a items ∧ ∃ o, h.get? a = some o ∧ o.dict = none
theorem IsTupN.new (h : Heap) (xs : Array Value) : IsTupN (h.push { cls := .type "tuple", data := .seq xs }) h.objs.size xs := ⟨IsTup.new h xs, _, Heap.get?_push_size _ rfl, rfl⟩
abbrev Hp := Addr → Option HO
def upd (H : Hp) (a : Addr) (o : HO) : Hp := fun b => if b = a then some o else H b
theorem upd_same {H : Hp} {a : Addr} {o : HO} : upd H a o a = some o := by unfold upd; rw [if_pos rfl]
theorem upd_ne {H : Hp} {a b : Addr} {o : HO} (h : b ≠ a) : upd H a o b = H b := by unfold upd; rw [if_neg h]
theorem ne_of_none {H : Hp} {a b : Addr} {o : HO} (h : H a = some o) (h' : H b = none) : a ≠ b := by
  intro e; subst e; rw [h] at h'; cases h'
section
variable (P : Program) (w : World)
def ObjOk (H : Hp) (h : Heap) (a : Addr) : HO → Prop
  | .lst xs => xs.length ≤ sizeLine ∧ ∃ (its : List Value) (n : Nat), Vals xs its ∧ h.get? a = some { cls := .type "list", data := .seq its.toArray n }
  | .tup xs => xs.length ≤ sizeLine ∧ ∃ its : List Value, Vals xs its ∧ IsTupN h a its.toArray
  | .dK kvs => kvs.length ≤ sizeLine ∧ (a == sysModules) = false ∧ ∃ vs, KV kvs vs ∧ h.DictOf (mixKind P w) a vs
  | .dT kvs => kvs.length ≤ sizeLine ∧ (a == sysModules) = false ∧ ∃ xs : List (List Key × Addr × Value),
      Paired (fun (p : List Key × V) (q : List Key × Addr × Value) => p.1 = q.1 ∧ H q.2.1 = some (.tup (p.1.map kV)) ∧ RelV p.2 q.2.2) kvs xs ∧
      ∃ o es ep, h.get? a = some o ∧ o.ExactDict ∧ o.data = .dict es ep ∧ es.toList = xs.map (entryOfKey (tupleKind (mixKind P w))) ∧ (xs.map (·.1)).Nodup
  | .set S n => h.SetOf (intKind P w) a S n
  | .ins C dx fs => H dx = some (.own a) ∧ fs.length ≤ 1000 ∧ dx ≠ a ∧ h.get? a = some (PySem.W.instObj C dx) ∧
      ∃ mA, h.Ns1 dx mA ∧ (∀ f, RelO (fs.lookup f) (mA f)) ∧ PySem.Within mA (fs.map (·.1))
  | .own _ => ∃ o, h.get? a = some o
  | .xd fs => ∃ mA, h.Ns1 a mA ∧ ∀ f, RelO (fs.lookup f) (mA f)
  | .rng lo hi => ∃ t u v, h.get? a = some { cls := .type "range", data := .fields #[.int lo t, .int hi u, .int 1 v] }
  | .frz o u => h.get? a = some o ∧ ObjOk H h a u
  | .tbl ps => h.get? a = some { cls := .none, data := .fields ps }
  | .met f x => h.get? a = some (PySem.W.methodObj (.ref f) (.ref x))
  | .ext φ => φ h ∧ (∃ o, h.get? a = some o) ∧ ∀ h1 h2 : Heap, φ h1 → (∀ o, h1.get? a = some o → h2.get? a = some o) → φ h2
def HOk (H : Hp) (h : Heap) : Prop := ∀ a o, H a = some o → ObjOk P w H h a o
end
section
variable {P : Program} {w : World} {H H' : Hp} {h h' : Heap} {a : Addr} {o : HO}
theorem ObjOk.lt (x : ObjOk P w H h a o) : a < h.objs.size := by
  cases o with
  | lst xs => obtain ⟨_, _, _, _, e⟩ := x; exact Heap.lt_size e
  | tup xs => obtain ⟨_, _, _, p, _⟩ := x; exact p.lt
  | dK kvs => obtain ⟨_, _, _, _, o, _, _, e, _⟩ := x; exact Heap.lt_size e
  | dT kvs => obtain ⟨_, _, _, _, o, _, _, e, _⟩ := x; exact Heap.lt_size e
  | set S n => obtain ⟨o, _, _, _, e, _⟩ := x; exact Heap.lt_size e
  | ins C dx fs => obtain ⟨_, _, _, e, _⟩ := x; exact Heap.lt_size e
  | own y => obtain ⟨_, e⟩ := x; exact Heap.lt_size e
  | xd fs => obtain ⟨_, ⟨_, _, _, e, _⟩, _⟩ := x; exact Heap.lt_size e
  | rng lo hi => obtain ⟨_, _, _, e⟩ := x; exact Heap.lt_size e
  | frz ob u => obtain ⟨e, _⟩ := x; exact Heap.lt_size e
  | tbl ps => exact Heap.lt_size (show h.get? a = some _ from x)
  | met f y => exact Heap.lt_size (show h.get? a = some _ from x)
  | ext φ => obtain ⟨_, ⟨_, e⟩, _⟩ := x; exact Heap.lt_size e
theorem Paired.mapP {α β : Type} {F G : α → β → Prop} : ∀ {l₁ : List α} {l₂ : List β}, Paired F l₁ l₂ → (∀ a b, F a b → G a b) → Paired G l₁ l₂
  | _, _, .nil, _ => .nil
  | _, _, .cons r t, f => .cons (f _ _ r) (Paired.mapP t f)
theorem ObjOk.stay (x : ObjOk P w H h a o) (k : ∀ b u, (b = a ∨ H b = some (.own a)) → h.get? b = some u → h'.get? b = some u)
    (ho : ∀ b, H b = some (.own a) → H' b = some (.own a)) (ht : ∀ b xs, H b = some (.tup xs) → H' b = some (.tup xs)) : ObjOk P w H' h' a o := by
  induction o with
  | lst xs => obtain ⟨z, its, n, r, e⟩ := x; exact ⟨z, its, n, r, k _ _ (.inl rfl) e⟩
  | tup xs => obtain ⟨z, its, r, ⟨ob, e, c⟩, od, e', c'⟩ := x; exact ⟨z, its, r, ⟨ob, k _ _ (.inl rfl) e, c⟩, od, k _ _ (.inl rfl) e', c'⟩
  | dK kvs => obtain ⟨z, y, vs, r, ob, es, ep, e, c⟩ := x; exact ⟨z, y, vs, r, ob, es, ep, k _ _ (.inl rfl) e, c⟩
  | dT kvs =>
    obtain ⟨z, y, xs, r, ob, es, ep, e, c⟩ := x
    exact ⟨z, y, xs, Paired.mapP r fun p q z => ⟨z.1, ht _ _ z.2.1, z.2.2⟩, ob, es, ep, k _ _ (.inl rfl) e, c⟩
  | set S n => obtain ⟨ob, es, ep, t, e, c⟩ := x; exact ⟨ob, es, ep, t, k _ _ (.inl rfl) e, c⟩
  | ins C dx fs =>
    obtain ⟨d, z, ne, e, mA, ⟨od, es, ep, e2, c⟩, r⟩ := x
    exact ⟨ho _ d, z, ne, k _ _ (.inl rfl) e, mA, ⟨od, es, ep, k _ _ (.inr d) e2, c⟩, r⟩
  | own y => obtain ⟨ob, e⟩ := x; exact ⟨ob, k _ _ (.inl rfl) e⟩
  | xd fs => obtain ⟨mA, ⟨od, es, ep, e, c⟩, r⟩ := x; exact ⟨mA, ⟨od, es, ep, k _ _ (.inl rfl) e, c⟩, r⟩
  | rng lo hi => obtain ⟨t, u, v, e⟩ := x; exact ⟨t, u, v, k _ _ (.inl rfl) e⟩
  | frz ob u ih => obtain ⟨e, q⟩ := x; exact ⟨k _ _ (.inl rfl) e, ih q⟩
  | tbl ps =>
    have e : h.get? a = some { cls := .none, data := .fields ps } := x
    show h'.get? a = some { cls := .none, data := .fields ps }
    exact k a _ (.inl rfl) e
  | met f y =>
    have e : h.get? a = some (PySem.W.methodObj (.ref f) (.ref y)) := x
    show h'.get? a = some (PySem.W.methodObj (.ref f) (.ref y))
    exact k a _ (.inl rfl) e
  | ext φ => obtain ⟨p, ⟨o, e⟩, st⟩ := x; exact ⟨st _ _ p fun o q => k _ _ (.inl rfl) q, ⟨o, k _ _ (.inl rfl) e⟩, st⟩
theorem HOk.lt (x : HOk P w H h) (e : H a = some o) : a < h.objs.size := (x a o e).lt
theorem HOk.fresh (x : HOk P w H h) (e : h.objs.size ≤ a) : H a = none := by
  cases q : H a with
  | none => rfl
  | some u => exact absurd (Nat.lt_of_lt_of_le (x.lt q) e) (Nat.lt_irrefl _)
theorem HOk.kept (x : HOk P w H h) (k : ∀ b u, h.get? b = some u → h'.get? b = some u) : HOk P w H h' := fun a o e =>
  (x a o e).stay (fun b u _ q => k b u q) (fun _ q => q) fun _ _ q => q
theorem HOk.laid (x : HOk P w H h) (k : ∀ b u, h.get? b = some u → h'.get? b = some u) (hp : h.objs.size ≤ a) (new : ObjOk P w (upd H a o) h' a o) : HOk P w (upd H a o) h' := fun b u e => by
  have hn := x.fresh hp
  by_cases hb : b = a
  · subst hb; rw [upd_same] at e; cases e; exact new
  · rw [upd_ne hb] at e
    exact (x b u e).stay (fun c v _ q => k c v q) (fun c q => by rw [upd_ne (ne_of_none q hn)]; exact q) fun c xs q => by rw [upd_ne (ne_of_none q hn)]; exact q
end
def Rd (H : Hp) (a : Addr) (u : HO) : Prop := H a = some u ∨ ∃ o, H a = some (.frz o u)
theorem Rd.of {H : Hp} {a : Addr} {u : HO} (h : H a = some u) : Rd H a u := .inl h
theorem Rd.ok {P : Program} {w : World} {H : Hp} {h : Heap} {a : Addr} {u : HO} (r : Rd H a u) (x : HOk P w H h) : ObjOk P w H h a u := by
  rcases r with r | ⟨o, r⟩
  · exact x a u r
  · obtain ⟨_, q⟩ := x a _ r
    exact q
def Mut : Option HO → Prop
  | some (.lst _) => True
  | some (.dK _) => True
  | some (.dT _) => True
  | some (.set _ _) => True
  | some (.ins _ _ _) => True
  | some (.ext _) => True
  | _ => False
section
variable {P : Program} {w : World} {H : Hp} {h h' : Heap} {x e : Addr} {o' : HO}
theorem HOk.write (ok : HOk P w H h) (mu : Mut (H x)) (he : e = x ∨ H e = some (.own x)) (k : ∀ b u, b ≠ e → h.get? b = some u → h'.get? b = some u) (heo : ∃ u, h'.get? e = some u)
    (new : ObjOk P w (upd H x o') h' x o') : HOk P w (upd H x o') h' := fun b u q => by
  have nown : ∀ c y, H c = some (.own y) → c ≠ x := fun c y r z => by subst z; rw [r] at mu; exact mu
  have ntup : ∀ c xs, H c = some (.tup xs) → c ≠ x := fun c xs r z => by subst z; rw [r] at mu; exact mu
  by_cases hb : b = x
  · subst hb; rw [upd_same] at q; cases q; exact new
  · rw [upd_ne hb] at q
    by_cases hbe : b = e
    · have q' : H b = some (.own x) := by
        rcases he with z | z
        · exact absurd (hbe.trans z) hb
        · rw [hbe]; exact z
      rw [q] at q'; cases q'
      obtain ⟨v, hv⟩ := heo
      exact ⟨v, by rw [hbe]; exact hv⟩
    · refine (ok b u q).stay (fun c v hc r => k c v ?_ r) (fun c r => by rw [upd_ne (nown c b r)]; exact r) fun c xs r => by rw [upd_ne (ntup c xs r)]; exact r
      rcases hc with rfl | hc
      · exact hbe
      · rintro rfl
        rcases he with z | z
        · exact nown c b hc z
        · rw [hc] at z; cases z; exact hb rfl
end
structure Un (fs ex : List Addr) (H H' : Hp) (h h' : Heap) : Prop where
  keep : ∀ b o, h.get? b = some o → H b = none → b ∉ fs → b ∉ ex → h'.get? b = some o
  slot : ∀ b o, h.get? b = some o → H b = none → b ∈ fs → b ∉ ex → ∃ sl, h'.get? b = some { o with slots := sl }
  free : ∀ b o, h.get? b = some o → H b = none → b ∉ ex → H' b = none
  there : ∀ b o, h.get? b = some o → b ∉ ex → ∃ o', h'.get? b = some o'
  tups : ∀ b xs, H b = some (.tup xs) → H' b = some (.tup xs)
  frzs : ∀ b o u, H b = some (.frz o u) → H' b = some (.frz o u)
  tbls : ∀ b ps, H b = some (.tbl ps) → ∃ more, H' b = some (.tbl (ps ++ more))
section
variable {fs fs' ex ex' : List Addr} {H H1 H2 : Hp} {h h1 h2 h' : Heap} {a x e : Addr} {o : HO}
theorem Un.any (u : Un fs ex H H1 h h1) {b : Addr} {ob : Obj} (q : h.get? b = some ob) (n : H b = none) (hx : b ∉ ex) : ∃ sl, h1.get? b = some { ob with slots := sl } := by
  by_cases hb : b ∈ fs
  · exact u.slot b ob q n hb hx
  · exact ⟨ob.slots, u.keep b ob q n hb hx⟩
theorem Un.trans (a : Un fs ex H H1 h h1) (b : Un fs ex H1 H2 h1 h2) : Un fs ex H H2 h h2 where
  keep := fun c ob q n hc hx => b.keep c ob (a.keep c ob q n hc hx) (a.free c ob q n hx) hc hx
  slot := fun c ob q n hc hx => by
    obtain ⟨sl, e1⟩ := a.slot c ob q n hc hx
    obtain ⟨sl', e2⟩ := b.slot c _ e1 (a.free c ob q n hx) hc hx
    exact ⟨sl', e2⟩
  free := fun c ob q n hx => by
    obtain ⟨o', e1⟩ := a.there c ob q hx
    exact b.free c o' e1 (a.free c ob q n hx) hx
  there := fun c ob q hx => by
    obtain ⟨o', e1⟩ := a.there c ob q hx
    exact b.there c o' e1 hx
  tups := fun c xs q => b.tups c xs (a.tups c xs q)
  frzs := fun c ob xs q => b.frzs c ob xs (a.frzs c ob xs q)
  tbls := fun c ps q => by
    obtain ⟨m1, e1⟩ := a.tbls c ps q
    obtain ⟨m2, e2⟩ := b.tbls c _ e1
    exact ⟨m1 ++ m2, by rw [e2, Array.append_assoc]⟩
theorem Un.kept (k : ∀ b u, h.get? b = some u → h'.get? b = some u) : Un fs ex H H h h' :=
  ⟨fun b ob q _ _ _ => k b ob q, fun b ob q _ _ _ => ⟨ob.slots, k b ob q⟩, fun _ _ _ n _ => n, fun b ob q _ => ⟨ob, k b ob q⟩, fun _ _ q => q, fun _ _ _ q => q, fun _ ps q => ⟨#[], by rw [q]; simp⟩⟩
theorem Un.refl : Un fs ex H H h h := Un.kept fun _ _ q => q
theorem Un.laid (k : ∀ b u, h.get? b = some u → h'.get? b = some u) (hp : h.objs.size ≤ a) (hn : H a = none) : Un fs ex H (upd H a o) h h' where
  keep := fun b u q _ _ _ => k b u q
  slot := fun b u q _ _ _ => ⟨u.slots, k b u q⟩
  free := fun b u q n _ => by rw [upd_ne (Nat.ne_of_lt (Nat.lt_of_lt_of_le (Heap.lt_size q) hp))]; exact n
  there := fun b u q _ => ⟨u, k b u q⟩
  tups := fun b xs q => by rw [upd_ne (ne_of_none q hn)]; exact q
  frzs := fun b u xs q => by rw [upd_ne (ne_of_none q hn)]; exact q
  tbls := fun b ps q => ⟨#[], by rw [upd_ne (ne_of_none q hn), q]; simp⟩
theorem Un.write (mu : Mut (H x)) (he : e = x ∨ H e = some (.own x)) (k : ∀ b u, b ≠ e → h.get? b = some u → h'.get? b = some u) (heo : ∃ u, h'.get? e = some u) : Un fs ex H (upd H x o) h h' := by
  have hx : ∀ b, H b = none → b ≠ x := fun b n z => by subst z; rw [n] at mu; exact mu
  have hb : ∀ b, H b = none → b ≠ e := fun b n z => by
    subst z
    rcases he with r | r
    · exact hx b n r
    · rw [n] at r; cases r
  have hm : ∀ b u, H b = some u → ¬ Mut (some u) → b ≠ x := fun b u q nm z => by subst z; rw [q] at mu; exact nm mu
  refine ⟨fun b u q n _ _ => k b u (hb b n) q, fun b u q n _ _ => ⟨u.slots, k b u (hb b n) q⟩, fun b u q n _ => by rw [upd_ne (hx b n)]; exact n, fun b u q _ => ?_,
    fun b xs q => by rw [upd_ne (hm b _ q fun z => z)]; exact q, fun b u xs q => by rw [upd_ne (hm b _ q fun z => z)]; exact q, fun b ps q => ⟨#[], by rw [upd_ne (hm b _ q fun z => z), q]; simp⟩⟩
  by_cases hbe : b = e
  · subst hbe; exact heo
  · exact ⟨u, k b u hbe q⟩
theorem Un.mono (u : Un fs ex H H1 h h1) (hs : ∀ b ∈ fs, b ∈ fs') (hx : ∀ b ∈ ex, b ∈ ex') : Un fs' ex' H H1 h h1 :=
  ⟨fun b ob q n hb he => u.keep b ob q n (fun z => hb (hs b z)) fun z => he (hx b z), fun _ _ q n _ he => u.any q n fun z => he (hx _ z), fun b ob q n he => u.free b ob q n fun z => he (hx b z), fun b ob q he => u.there b ob q fun z => he (hx b z), u.tups, u.frzs, u.tbls⟩
end
def trk (h : Heap) (H : Hp) : List Addr := (List.range h.objs.size).filter fun a => (H a).isSome
def hidT (h : Heap) (H : Hp) : Heap := PySem.W.hideAll h (trk h H)
theorem hidT_size (h : Heap) (H : Hp) : (hidT h H).objs.size = h.objs.size := PySem.W.hideAll_size _ _
theorem hidT_get {h : Heap} {H : Hp} {b : Addr} {o : Obj} (e : h.get? b = some o) (n : H b = none) : (hidT h H).get? b = some o :=
  PySem.W.hideAll_get _ e fun hm => by
    have q : (H b).isSome = true := (List.mem_filter.mp hm).2
    rw [n] at q; simp at q
theorem of_hidT {h : Heap} {H : Hp} {b : Addr} {o : Obj} (e : (hidT h H).get? b = some o) : h.get? b = some o ∧ H b = none := by
  have e' : h.get? b = some o := PySem.W.of_hideAll (trk h H) e
  refine ⟨e', ?_⟩
  cases q : H b with
  | none => rfl
  | some x =>
    have hm : b ∈ trk h H := List.mem_filter.mpr ⟨List.mem_range.mpr (Heap.lt_size e'), by simp [q]⟩
    have z : (hidT h H).get? b = none := PySem.W.hideAll_none (trk h H) hm
    rw [z] at e; cases e
def allNews (g h : Heap) (L : Addr) : List (Addr × Obj) := (List.range h.objs.size).filterMap fun a => if a = L ∨ (g.get? a).isSome = true then none else (h.get? a).map fun o => (a, o)
def rest (g h : Heap) (L d : Addr) : List (Addr × Obj) := (allNews g h L).filter fun p => decide (p.1 ≠ d)
end L2
namespace L2
open PySem PySem.Spec PyProof.Rows
structure Mod (K : PySem.W.Frag) (mg : Str → Option Value) (base : Heap) : Prop where
  kin : K.In base
  glob : base.Ns mainGlobals mg
  blt : ∃ mb, base.Ns builtinsNs mb ∧ ∀ x : Str, x ≠ "__name__" → mb x = bootBuiltins x
  nolimit : base.NoLimit
structure Cx where
  prog : Program
  w : World
  K : PySem.W.Frag
  mg : Str → Option Value
  base : Heap
  A : Around
  N : List Str
  s₀ : Shared
  H₀ : Hp
  env : Env
  outer : List Env
  stack : List Env
  ex : List Addr
  fn : Str → Bool
  calm : Bool
  pn : List (Addr × Obj)
  xe : Value → Shared → Prop
def frs (l : List Env) : List Addr := l.filterMap (·.frame)
abbrev Cx.fs (X : Cx) : List Addr := frs X.outer
def Vis (sc : Scope) (x : Str) : Prop := sc.names.lookup x = some .local ∨ sc.names.lookup x = some .cell ∨ sc.names.lookup x = some .free
def Loc (sc : Scope) (x : Str) : Prop := sc.names.lookup x = some .local ∨ sc.names.lookup x = some .cell
def Look (env : Env) (h : Heap) (m : Str → Option Value) (x : Str) (u : Value) : Prop :=
  (env.kindOf x = some .local ∧ m x = some u) ∨ ((env.kindOf x = some .cell ∨ env.kindOf x = some .free) ∧ ∃ c, env.cells.lookup x = some c ∧ h.IsCell c (some u))
structure Cx.Ok (X : Cx) : Prop where
  mod : Mod X.K X.mg X.base
  kind : X.env.scope.kind = .function
  glob : X.env.globals = mainGlobals
  blt : X.env.builtins = builtinsNs
  above : X.s₀.heap.objs.size ≤ X.env.locals
  inj : ∀ x y c, X.env.cells.lookup x = some c → X.env.cells.lookup y = some c → x = y
  has : ∀ x, (X.env.kindOf x = some .cell ∨ X.env.kindOf x = some .free) → ∃ c, X.env.cells.lookup x = some c
  cab : ∀ x c, X.fn x = true → X.env.cells.lookup x = some c → X.s₀.heap.objs.size ≤ c
  hd : X.calm = true → X.A.handled = none
  frames : X.A.frames = some X.stack
  stk : X.stack = X.outer ∨ (X.stack = X.env :: X.outer ∧ X.env.frame = some X.env.locals)
  exf : ∀ b ∈ X.ex, b ≠ X.env.locals ∧ ∀ x c, X.env.cells.lookup x = some c → c ≠ b
  bs : ∀ b o, X.base.get? b = some o → X.s₀.heap.get? b = some o ∧ X.H₀ b = none
  bsz : X.base.objs.size ≤ X.s₀.heap.objs.size
  noex : ∀ b o, X.base.get? b = some o → b ∉ X.ex
  exfs : ∀ b ∈ X.ex, b ∉ X.fs
  funs : X.s₀.heap.FunFrames X.base X.outer
  frf : ∀ b ∈ X.fs, X.H₀ b = none
structure Inv (X : Cx) (pins : List (Addr × Obj)) (σ : List (Option V)) (H : Hp) (s : Shared) : Prop where
  ok : X.Ok
  os : s.os = X.s₀.os
  bare : AllBare s.gens
  base : Un X.fs X.ex X.H₀ H X.s₀.heap s.heap
  loc : ∃ m, s.heap.Ns X.env.locals m ∧ ∀ (i : Nat) (x : Str) (v : V), X.N[i]? = some x → σ[i]? = some (some v) → Vis X.env.scope x → ∃ u, RelV v u ∧ Look X.env s.heap m x u
  cell : ∀ x c, X.env.cells.lookup x = some c → ∃ v, s.heap.IsCell c v
  free : H X.env.locals = none
  freeC : ∀ x c, X.env.cells.lookup x = some c → H c = none
  pin : ∀ p ∈ X.pn ++ pins, s.heap.get? p.1 = some p.2 ∧ H p.1 = none ∧ p.1 ≠ X.env.locals ∧ p.1 ∉ X.fs ∧ ∀ v, p.2.data ≠ .cell v
  hok : HOk X.prog X.w H s.heap
  len : σ.length = X.N.length
section
variable {X : Cx} {pins : List (Addr × Obj)} {σ : List (Option V)} {H H' : Hp} {s : Shared} {h' : Heap}
theorem Cx.Ok.nofr (ok : X.Ok) {b : Addr} {o : Obj} (e : X.base.get? b = some o) : b ∉ X.fs := fun hb => by
  have := (ok.funs.mem hb).1
  rw [e] at this; cases this
theorem Inv.bs (I : Inv X pins σ H s) : ∀ b o, X.base.get? b = some o → s.heap.get? b = some o ∧ H b = none := fun b o e =>
  ⟨I.base.keep b o (I.ok.bs b o e).1 (I.ok.bs b o e).2 (I.ok.nofr e) (I.ok.noex b o e), I.base.free b o (I.ok.bs b o e).1 (I.ok.bs b o e).2 (I.ok.noex b o e)⟩
theorem Inv.bk (I : Inv X pins σ H s) : ∀ b o, X.base.get? b = some o → s.heap.get? b = some o := fun b o e => (I.bs b o e).1
theorem Inv.mod (I : Inv X pins σ H s) : Mod X.K X.mg X.base := I.ok.mod
theorem Inv.kIn (I : Inv X pins σ H s) : X.K.In s.heap := I.ok.mod.kin.keeps I.bk
theorem Inv.nolimit (I : Inv X pins σ H s) : s.heap.NoLimit := I.ok.mod.nolimit.keeps I.bk
theorem Inv.fr (I : Inv X pins σ H s) : ∃ m, Fr X.base X.env.locals s.heap m :=
  let ⟨m, hn, _⟩ := I.loc
  ⟨m, hn, I.bk, Nat.le_trans I.ok.bsz I.ok.above⟩
theorem Inv.lt (I : Inv X pins σ H s) : X.env.locals < s.heap.objs.size := let ⟨_, hn, _⟩ := I.loc; hn.lt
theorem Inv.sz (I : Inv X pins σ H s) : X.s₀.heap.objs.size ≤ s.heap.objs.size := Nat.le_trans I.ok.above (Nat.le_of_lt I.lt)
theorem Inv.nofs (I : Inv X pins σ H s) {a : Addr} (h : s.heap.objs.size ≤ a) : a ∉ X.fs := fun hb => by
  obtain ⟨_, o, ho, _⟩ := I.ok.funs.mem hb
  exact absurd (Nat.lt_of_lt_of_le (Heap.lt_size ho) (Nat.le_trans I.sz h)) (Nat.lt_irrefl _)
theorem Inv.cne (I : Inv X pins σ H s) : ∀ x c, X.env.cells.lookup x = some c → c ≠ X.env.locals := fun x c e z => by
  obtain ⟨v, o, ho, hd⟩ := I.cell x c e
  obtain ⟨m, ⟨o', es, ep, ho', hd', _⟩, _⟩ := I.loc
  rw [z, ho'] at ho; cases ho; rw [hd'] at hd; cases hd
theorem Inv.funs (I : Inv X pins σ H s) : s.heap.FunFrames X.base X.outer := by
  have all : ∀ (l : List Env), (∀ b ∈ frs l, b ∈ X.fs) → X.s₀.heap.FunFrames X.base l → s.heap.FunFrames X.base l := by
    intro l
    induction l with
    | nil => intro _ _; trivial
    | cons env r ih =>
      intro hs hl
      obtain ⟨hk, ⟨L, o, hf, hn, ho, hd⟩, hr⟩ := hl
      have hL : L ∈ X.fs := hs L (by unfold frs; rw [List.filterMap_cons, hf]; exact List.mem_cons_self)
      obtain ⟨sl, e⟩ := I.base.slot L o ho (I.ok.frf L hL) hL fun z => I.ok.exfs L z hL
      exact ⟨hk, ⟨L, _, hf, hn, e, hd⟩, ih (fun b hb => hs b (by unfold frs; rw [List.filterMap_cons, hf]; exact List.mem_cons_of_mem _ hb)) hr⟩
  exact all X.outer (fun _ hb => hb) I.ok.funs
theorem Inv.stack (I : Inv X pins σ H s) : s.heap.FunFrames X.base X.stack := by
  rcases I.ok.stk with e | ⟨e, hf⟩
  · rw [e]; exact I.funs
  · rw [e]
    obtain ⟨m, hn, _⟩ := I.loc
    refine .cons (by rw [I.ok.kind]; decide) hf hn ?_ I.funs
    exact Heap.get?_none_of_le (Nat.le_trans I.ok.bsz I.ok.above)
theorem Inv.stkSub (I : Inv X pins σ H s) : ∀ b ∈ frs X.stack, b ∈ X.env.locals :: X.fs := fun b hb => by
  rcases I.ok.stk with e | ⟨e, hf⟩
  · rw [e] at hb; exact List.mem_cons_of_mem _ hb
  · rw [e] at hb
    unfold frs at hb
    rw [List.filterMap_cons, hf] at hb
    exact hb
theorem Inv.stkFree (I : Inv X pins σ H s) : ∀ b ∈ frs X.stack, H b = none := fun b hb => by
  rcases List.mem_cons.mp (I.stkSub b hb) with e | hb
  · rw [e]; exact I.free
  · obtain ⟨_, o, ho, _⟩ := I.ok.funs.mem hb
    exact I.base.free b o ho (I.ok.frf b hb) fun z => I.ok.exfs b z hb
theorem Inv.step {g' : Array GenState} {t' : Nat} {d' : Drawn} {ch : List Addr} (I : Inv X pins σ H s)
    (hch : ∀ b ∈ ch, (b ∈ X.ex ∨ X.s₀.heap.objs.size ≤ b) ∧ b ≠ X.env.locals ∧ (∀ x c, X.env.cells.lookup x = some c → c ≠ b) ∧ ∀ p ∈ X.pn ++ pins, p.1 ≠ b)
    (keep : ∀ b o, b ≠ X.env.locals → b ∉ X.fs → b ∉ ch → s.heap.get? b = some o → H b = none → h'.get? b = some o)
    (slot : ∀ b o, b ≠ X.env.locals → b ∈ X.fs → b ∉ ch → s.heap.get? b = some o → H b = none → ∃ sl, h'.get? b = some { o with slots := sl }) (free : ∀ b o, b ∉ ch → s.heap.get? b = some o → H b = none → H' b = none)
    (there : ∀ b o, b ∉ ch → s.heap.get? b = some o → ∃ o', h'.get? b = some o')
    (tups : ∀ b xs, H b = some (.tup xs) → H' b = some (.tup xs)) (frzs : ∀ b o u, H b = some (.frz o u) → H' b = some (.frz o u)) (tbls : ∀ b ps, H b = some (.tbl ps) → ∃ more, H' b = some (.tbl (ps ++ more)))
    (ns : ∀ m, s.heap.Ns X.env.locals m → h'.Ns X.env.locals m) (hok : HOk X.prog X.w H' h') (hg : AllBare g') :
    Inv X pins σ H' { s with heap := h', gens := g', drawn := d', toks := t' } := by
  have neL : ∀ b o, X.s₀.heap.get? b = some o → b ≠ X.env.locals := fun b o e => Nat.ne_of_lt (Nat.lt_of_lt_of_le (Heap.lt_size e) I.ok.above)
  have neC : ∀ b o, X.s₀.heap.get? b = some o → b ∉ X.ex → b ∉ ch := fun b o e hx hb => by
    rcases (hch b hb).1 with z | z
    · exact hx z
    · exact absurd (Nat.lt_of_lt_of_le (Heap.lt_size e) z) (Nat.lt_irrefl _)
  have cellK : ∀ x c, X.env.cells.lookup x = some c → ∀ v, s.heap.IsCell c v → h'.IsCell c v := fun x c e v ⟨o, ho, hd⟩ => by
    have nch : c ∉ ch := fun z => (hch c z).2.2.1 x c e rfl
    by_cases hc : c ∈ X.fs
    · obtain ⟨sl, q⟩ := slot c o (I.cne x c e) hc nch ho (I.freeC x c e)
      exact ⟨_, q, hd⟩
    · exact ⟨o, keep c o (I.cne x c e) hc nch ho (I.freeC x c e), hd⟩
  refine ⟨I.ok, I.os, hg, ⟨fun b o e n hb hx => ?_, fun b o e n hb hx => ?_, fun b o e n hx => ?_, fun b o e hx => ?_, fun b xs e => tups b xs (I.base.tups b xs e), fun b o xs e => frzs b o xs (I.base.frzs b o xs e), fun b ps e => ?_⟩, ?_, fun x c e => ?_, ?_, fun x c e => ?_, fun p hp => ?_, hok, I.len⟩
  · exact keep b o (neL b o e) hb (neC b o e hx) (I.base.keep b o e n hb hx) (I.base.free b o e n hx)
  · obtain ⟨sl, e1⟩ := I.base.slot b o e n hb hx
    obtain ⟨sl', e2⟩ := slot b _ (neL b o e) hb (neC b o e hx) e1 (I.base.free b o e n hx)
    exact ⟨sl', e2⟩
  · obtain ⟨o', e1⟩ := I.base.there b o e hx
    exact free b o' (neC b o e hx) e1 (I.base.free b o e n hx)
  · obtain ⟨o', e1⟩ := I.base.there b o e hx
    exact there b o' (neC b o e hx) e1
  · obtain ⟨m1, e1⟩ := I.base.tbls b ps e
    obtain ⟨m2, e2⟩ := tbls b _ e1
    exact ⟨m1 ++ m2, by rw [e2, Array.append_assoc]⟩
  · obtain ⟨m, hn, hl⟩ := I.loc
    refine ⟨m, ns m hn, fun i x v e1 e2 e3 => ?_⟩
    obtain ⟨u, r, l⟩ := hl i x v e1 e2 e3
    refine ⟨u, r, ?_⟩
    rcases l with l | ⟨k, c, e, z⟩
    · exact .inl l
    · exact .inr ⟨k, c, e, cellK x c e _ z⟩
  · obtain ⟨v, z⟩ := I.cell x c e
    exact ⟨v, cellK x c e v z⟩
  · obtain ⟨m, ⟨o, _, _, ho, _⟩, _⟩ := I.loc
    exact free _ o (fun z => (hch _ z).2.1 rfl) ho I.free
  · obtain ⟨v, o, ho, hd⟩ := I.cell x c e
    exact free c o (fun z => (hch c z).2.2.1 x c e rfl) ho (I.freeC x c e)
  · obtain ⟨e, n, ne, nf, d⟩ := I.pin p hp
    have nch : p.1 ∉ ch := fun z => (hch p.1 z).2.2.2 p hp rfl
    exact ⟨keep p.1 p.2 ne nf nch e n, free p.1 p.2 nch e n, ne, nf, d⟩
theorem Inv.un {t' : Nat} (I : Inv X pins σ H s) (u : Un X.fs [] H H' s.heap h') (hok : HOk X.prog X.w H' h') : Inv X pins σ H' { s with heap := h', toks := t' } := by
  obtain ⟨m, ⟨o, es, ep, ho, r⟩, _⟩ := id I.loc
  obtain ⟨sl, hL⟩ := u.any ho I.free (by simp)
  exact I.step (g' := s.gens) (d' := s.drawn) (ch := []) (fun _ z => nomatch z) (fun b o _ hb _ e n => u.keep b o e n hb (by simp)) (fun b o _ hb _ e n => u.slot b o e n hb (by simp)) (fun b o _ e n => u.free b o e n (by simp)) (fun b o _ e => u.there b o e (by simp)) u.tups u.frzs u.tbls (fun m' hm => by
    obtain ⟨o', es', ep', ho', r'⟩ := hm
    rw [ho] at ho'; cases ho'
    exact ⟨_, es', ep', hL, r'⟩) hok I.bare
theorem Inv.call {g' : Array GenState} {t' : Nat} {d' : Drawn} {ch : List Addr} (I : Inv X pins σ H s) (u : Un (frs X.stack) ch H H' s.heap h') (hok : HOk X.prog X.w H' h') (hg : AllBare g')
    (hch : ∀ b ∈ ch, (b ∈ X.ex ∨ X.s₀.heap.objs.size ≤ b) ∧ b ≠ X.env.locals ∧ (∀ x c, X.env.cells.lookup x = some c → c ≠ b) ∧ ∀ p ∈ X.pn ++ pins, p.1 ≠ b) :
    Inv X pins σ H' { s with heap := h', gens := g', drawn := d', toks := t' } := by
  obtain ⟨m, ⟨o, es, ep, ho, r⟩, _⟩ := id I.loc
  obtain ⟨sl, hL⟩ := u.any ho I.free fun z => (hch _ z).2.1 rfl
  exact I.step (ch := ch) hch (fun b o hL hb hc e n => u.keep b o e n (fun z => (List.mem_cons.mp (I.stkSub b z)).elim hL hb) hc) (fun b o _ _ hc e n => u.any e n hc) (fun b o hc e n => u.free b o e n hc) (fun b o hc e => u.there b o e hc) u.tups u.frzs u.tbls (fun m' hm => by
    obtain ⟨o', es', ep', ho', r'⟩ := hm
    rw [ho] at ho'; cases ho'
    exact ⟨_, es', ep', hL, r'⟩) hok hg
theorem Inv.turned {t' : Nat} {it : Addr} (I : Inv X pins σ H s) (k : ∀ b o, b ≠ it → s.heap.get? b = some o → h'.get? b = some o) (hn : H it = none) (hL : it ≠ X.env.locals)
    (h1 : it ∈ X.ex ∨ X.s₀.heap.objs.size ≤ it) (h2 : ∀ x c, X.env.cells.lookup x = some c → c ≠ it) (h3 : ∀ p ∈ X.pn ++ pins, p.1 ≠ it) : Inv X pins σ H { s with heap := h', toks := t' } := by
  have nit : ∀ b u, H b = some u → b ≠ it := fun b u e z => by rw [z, hn] at e; cases e
  refine I.step (g' := s.gens) (d' := s.drawn) (ch := [it]) (fun b hb => ?_) (fun b o _ _ hc e _ => k b o (fun z => hc (by simp [z])) e) (fun b o _ _ hc e _ => ⟨o.slots, k b o (fun z => hc (by simp [z])) e⟩) (fun _ _ _ _ n => n)
    (fun b o hc e => ⟨o, k b o (fun z => hc (by simp [z])) e⟩) (fun _ _ e => e) (fun _ _ _ e => e) (fun b ps e => ⟨#[], by rw [e]; simp⟩) (fun m hm => ?_) (fun b u e => ?_) I.bare
  · have e : b = it := by simpa using hb
    subst e
    exact ⟨h1, hL, h2, h3⟩
  · obtain ⟨o, es, ep, ho, r⟩ := hm
    exact ⟨o, es, ep, k _ o (Ne.symm hL) ho, r⟩
  · refine (I.hok b u e).stay (fun c v hc q => k c v ?_ q) (fun _ q => q) fun _ _ q => q
    rcases hc with z | z
    · rw [z]; exact nit b u e
    · exact nit c _ z
theorem Inv.tok (I : Inv X pins σ H s) (t : Nat) : Inv X pins σ H { s with toks := t } := I.un (h' := s.heap) (t' := t) Un.refl I.hok
theorem Inv.kept {t' : Nat} (I : Inv X pins σ H s) (k : ∀ b u, s.heap.get? b = some u → h'.get? b = some u) : Inv X pins σ H { s with heap := h', toks := t' } := I.un (Un.kept k) (I.hok.kept k)
theorem Inv.laid {a : Addr} {o : HO} {t' : Nat} (I : Inv X pins σ H s) (k : ∀ b u, s.heap.get? b = some u → h'.get? b = some u) (hp : s.heap.objs.size ≤ a) (new : ObjOk X.prog X.w (upd H a o) h' a o) :
    Inv X pins σ (upd H a o) { s with heap := h', toks := t' } := I.un (Un.laid k hp (I.hok.fresh hp)) (I.hok.laid k hp new)
theorem Inv.write {x e : Addr} {o : HO} {t' : Nat} (I : Inv X pins σ H s) (mu : Mut (H x)) (he : e = x ∨ H e = some (.own x)) (k : ∀ b u, b ≠ e → s.heap.get? b = some u → h'.get? b = some u) (heo : ∃ u, h'.get? e = some u)
    (new : ObjOk X.prog X.w (upd H x o) h' x o) : Inv X pins σ (upd H x o) { s with heap := h', toks := t' } := I.un (Un.write mu he k heo) (I.hok.write mu he k heo new)
theorem Inv.pins_of {pins' : List (Addr × Obj)} (I : Inv X pins σ H s) (h : ∀ p ∈ pins', s.heap.get? p.1 = some p.2 ∧ H p.1 = none ∧ p.1 ≠ X.env.locals ∧ p.1 ∉ X.fs ∧ ∀ v, p.2.data ≠ .cell v) : Inv X pins' σ H s :=
  ⟨I.ok, I.os, I.bare, I.base, I.loc, I.cell, I.free, I.freeC, fun p hp => (List.mem_append.mp hp).elim (fun z => I.pin p (List.mem_append_left _ z)) (h p), I.hok, I.len⟩
theorem nodup_ix {N : List Str} (hN : N.Nodup) {i j : Nat} {x : Str} (a : N[i]? = some x) (b : N[j]? = some x) : i = j := by
  obtain ⟨h1, e1⟩ := List.getElem?_eq_some_iff.mp a
  obtain ⟨h2, e2⟩ := List.getElem?_eq_some_iff.mp b
  exact (List.getElem_inj hN).mp (e1.trans e2.symm)
theorem store_ok2 {M : Model} {A : Around} {E : Value → Shared → Prop} {i : Nat} {x : Str} {v : V} {u : Value} {Q : Unit → Shared → Prop} (I : Inv X pins σ H s) (hN : X.N.Nodup) (hi : X.N[i]? = some x) (hx : Loc X.env.scope x) (r : RelV v u)
    (h : ∀ s', Inv X pins (σ.set i (some v)) H s' → (∃ a, Heap.SameBut a s.heap s'.heap ∧ (a = X.env.locals ∨ X.env.cells.lookup x = some a)) → Q () s') (hf : X.fn x = true ∨ X.env.scope.names.lookup x = some .local := by first | exact .inl rfl | exact .inr rfl | assumption) : wpAny M A (storeName X.env x u) Q E s := by
  obtain ⟨m, hn, hl⟩ := id I.loc
  have hcls : (X.env.scope.kind == .class || (X.env.scope.kind == .module && X.env.locals != X.env.globals)) = false := by rw [I.ok.kind]; rfl
  have hiσ : i < σ.length := by rw [I.len]; exact (List.getElem?_eq_some_iff.mp hi).1
  have cne := I.cne
  have tracked : ∀ {a : Addr} {h' : Heap}, (∃ o, s.heap.get? a = some o ∧ H a = none) → Heap.SameBut a s.heap h' → HOk X.prog X.w H h' := fun {a h'} ha hs b ob e => by
    obtain ⟨_, _, hfree⟩ := ha
    refine (I.hok b ob e).stay (fun c w' hc q => (hs.2 c ?_).trans q) (fun _ q => q) fun _ _ q => q
    rintro rfl
    rcases hc with rfl | hc
    · rw [hfree] at e; cases e
    · rw [hfree] at hc; cases hc
  rcases hx with hk | hk
  · refine wpAny_storeName_local hk hn (fun h' hn' hs => ?_) hcls
    obtain ⟨oL, _, _, hoL, _⟩ := id hn
    refine h _ ⟨I.ok, I.os, I.bare, ⟨fun b o e n hb hx => ?_, fun b o e n hb hx => ?_, I.base.free, fun b o e hx => ?_, I.base.tups, I.base.frzs, I.base.tbls⟩, ⟨_, hn', fun j y v' e1 e2 e3 => ?_⟩, fun y c e => ?_, I.free, I.freeC, fun p hp => ?_, tracked ⟨oL, hoL, I.free⟩ hs, by simpa using I.len⟩ ⟨_, hs, .inl rfl⟩
    · exact (hs.2 b (Nat.ne_of_lt (Nat.lt_of_lt_of_le (Heap.lt_size e) I.ok.above))).trans (I.base.keep b o e n hb hx)
    · obtain ⟨sl, e1⟩ := I.base.slot b o e n hb hx
      exact ⟨sl, (hs.2 b (Nat.ne_of_lt (Nat.lt_of_lt_of_le (Heap.lt_size e) I.ok.above))).trans e1⟩
    · obtain ⟨o', e1⟩ := I.base.there b o e hx
      exact ⟨o', (hs.2 b (Nat.ne_of_lt (Nat.lt_of_lt_of_le (Heap.lt_size e) I.ok.above))).trans e1⟩
    · by_cases hj : j = i
      · subst hj
        rw [hi] at e1; cases e1
        rw [List.getElem?_set_self hiσ] at e2
        cases e2
        exact ⟨u, r, .inl ⟨hk, by simp⟩⟩
      · rw [List.getElem?_set_ne (Ne.symm hj)] at e2
        obtain ⟨u', r', q⟩ := hl j y v' e1 e2 e3
        refine ⟨u', r', ?_⟩
        rcases q with ⟨k, e⟩ | ⟨k, c, e, z⟩
        · refine .inl ⟨k, ?_⟩
          have : y ≠ x := fun e => hj (nodup_ix hN e1 (e ▸ hi))
          simp [this, e]
        · exact .inr ⟨k, c, e, z.sameBut hs (cne y c e)⟩
    · obtain ⟨w', z⟩ := I.cell y c e
      exact ⟨w', z.sameBut hs (cne y c e)⟩
    · obtain ⟨e, n, ne, nf, d⟩ := I.pin p hp
      exact ⟨(hs.2 p.1 ne).trans e, n, ne, nf, d⟩
  · have hfn : X.fn x = true := by
      rcases hf with z | z
      · exact z
      · rw [z] at hk; cases hk
    obtain ⟨c, hc⟩ := I.ok.has x (.inl hk)
    obtain ⟨w', z⟩ := I.cell x c hc
    refine wpAny_storeName_cell I.ok.kind hk hc z (fun h' hc' hs => ?_)
    obtain ⟨oc, hoc, hocd⟩ := id z
    refine h { s with heap := h' } ⟨I.ok, I.os, I.bare, ⟨fun b o e n hb hx => ?_, fun b o e n hb hx => ?_, I.base.free, fun b o e hx => ?_, I.base.tups, I.base.frzs, I.base.tbls⟩, ⟨m, hn.sameBut hs (Ne.symm (cne x c hc)), fun j y v' e1 e2 e3 => ?_⟩, fun y c' e => ?_, I.free, I.freeC, fun p hp => ?_, tracked ⟨oc, hoc, I.freeC x c hc⟩ hs, by simpa using I.len⟩ ⟨c, hs, .inr hc⟩
    · exact (hs.2 b (Nat.ne_of_lt (Nat.lt_of_lt_of_le (Heap.lt_size e) (I.ok.cab x c hfn hc)))).trans (I.base.keep b o e n hb hx)
    · obtain ⟨sl, e1⟩ := I.base.slot b o e n hb hx
      exact ⟨sl, (hs.2 b (Nat.ne_of_lt (Nat.lt_of_lt_of_le (Heap.lt_size e) (I.ok.cab x c hfn hc)))).trans e1⟩
    · obtain ⟨o', e1⟩ := I.base.there b o e hx
      exact ⟨o', (hs.2 b (Nat.ne_of_lt (Nat.lt_of_lt_of_le (Heap.lt_size e) (I.ok.cab x c hfn hc)))).trans e1⟩
    · by_cases hj : j = i
      · subst hj
        rw [hi] at e1; cases e1
        rw [List.getElem?_set_self hiσ] at e2
        cases e2
        exact ⟨u, r, .inr ⟨.inl hk, c, hc, hc'⟩⟩
      · rw [List.getElem?_set_ne (Ne.symm hj)] at e2
        obtain ⟨u', r', q⟩ := hl j y v' e1 e2 e3
        refine ⟨u', r', ?_⟩
        rcases q with q | ⟨k, c', e, z'⟩
        · exact .inl q
        · refine .inr ⟨k, c', e, z'.sameBut hs ?_⟩
          rintro rfl
          exact hj (nodup_ix hN e1 (I.ok.inj _ _ _ e hc ▸ hi))
    · by_cases hcc : c' = c
      · subst hcc; exact ⟨_, hc'⟩
      · obtain ⟨w2, z2⟩ := I.cell y c' e
        exact ⟨w2, z2.sameBut hs hcc⟩
    · obtain ⟨e, n, ne, nf, d⟩ := I.pin p hp
      refine ⟨(hs.2 p.1 ?_).trans e, n, ne, nf, d⟩
      intro q
      rw [q, hoc] at e
      have q' : oc = p.2 := Option.some.inj e
      exact d w' (by rw [← q']; exact hocd)
theorem store_ok {M : Model} {A : Around} {E : Value → Shared → Prop} {i : Nat} {x : Str} {v : V} {u : Value} {Q : Unit → Shared → Prop} (I : Inv X pins σ H s) (hN : X.N.Nodup) (hi : X.N[i]? = some x) (hx : Loc X.env.scope x) (r : RelV v u)
    (h : ∀ s', Inv X pins (σ.set i (some v)) H s' → Q () s') (hf : X.fn x = true ∨ X.env.scope.names.lookup x = some .local := by first | exact .inl rfl | exact .inr rfl | assumption) : wpAny M A (storeName X.env x u) Q E s :=
  store_ok2 I hN hi hx r (fun s' I' _ => h s' I') hf
theorem Inv.call' {s' : Shared} {ch : List Addr} (I : Inv X pins σ H s) (ho : s'.os = s.os) (u : Un (frs X.stack) ch H H' s.heap s'.heap) (hok : HOk X.prog X.w H' s'.heap) (hg : AllBare s'.gens)
    (hch : ∀ b ∈ ch, (b ∈ X.ex ∨ X.s₀.heap.objs.size ≤ b) ∧ b ≠ X.env.locals ∧ (∀ x c, X.env.cells.lookup x = some c → c ≠ b) ∧ ∀ p ∈ X.pn ++ pins, p.1 ≠ b) : Inv X pins σ H' s' := by
  obtain ⟨h', g', d', t', o'⟩ := s'
  have e : o' = s.os := ho
  subst e
  exact I.call (g' := g') (t' := t') (d' := d') u hok hg hch
end
abbrev XK := Value → Option Addr → Hp → Prop
abbrev St := List (Option V)
abbrev VK := V → Hp → Prop
abbrev TE := St → Hp → VK → Prop
abbrev TT := St → Hp → (Bool → Hp → Prop) → Prop
abbrev TA := St → Hp → (List V → Hp → Prop) → Prop
structure Ends where
  nx : St → Hp → Prop
  rt : VK
  bk : St → Hp → Prop := fun _ _ => False
  ct : St → Hp → Prop := fun _ _ => False
abbrev TS := Ends → St → Hp → Prop
def EP (X : Cx) (pins : List (Addr × Obj)) (σ : St) (Q : VK) (u : Value) (s' : Shared) : Prop := ∃ v H', Inv X pins σ H' s' ∧ RelV v u ∧ Q v H'
def TP (X : Cx) (pins : List (Addr × Obj)) (σ : St) (Q : Bool → Hp → Prop) (b : Bool) (s' : Shared) : Prop := ∃ H', Inv X pins σ H' s' ∧ Q b H'
def AP (X : Cx) (pins : List (Addr × Obj)) (σ : St) (Q : List V → Hp → Prop) (us : List Value) (s' : Shared) : Prop := ∃ vs H', Inv X pins σ H' s' ∧ Vals vs us ∧ Q vs H'
def SP (X : Cx) (pins : List (Addr × Obj)) (D : Ends) (f : Flow) (s' : Shared) : Prop :=
  match f with
  | .next => ∃ σ' H', Inv X pins σ' H' s' ∧ D.nx σ' H'
  | .brk => ∃ σ' H', Inv X pins σ' H' s' ∧ D.bk σ' H'
  | .cont => ∃ σ' H', Inv X pins σ' H' s' ∧ D.ct σ' H'
  | .ret u => ∃ v σ' H', Inv X pins σ' H' s' ∧ RelV v u ∧ D.rt v H'
def PE (X : Cx) (e : Expr) (t : TE) : Prop :=
  ∀ (pins : List (Addr × Obj)) (s : Shared) (σ : St) (H : Hp) (Q : VK), Inv X pins σ H s → t σ H Q → wpAny (model X.prog X.w) X.A (eval e X.env) (EP X pins σ Q) X.xe s
def PT (X : Cx) (e : Expr) (t : TT) : Prop :=
  ∀ (pins : List (Addr × Obj)) (s : Shared) (σ : St) (H : Hp) (Q : Bool → Hp → Prop), Inv X pins σ H s → t σ H Q → wpAny (model X.prog X.w) X.A (isTrue e X.env (eval e X.env)) (TP X pins σ Q) X.xe s
def PW (X : Cx) (e : Expr) (t : TT) : Prop :=
  ∀ (whole : Sem Value) (pins : List (Addr × Obj)) (s : Shared) (σ : St) (H : Hp) (Q : Bool → Hp → Prop), Inv X pins σ H s → t σ H Q → wpAny (model X.prog X.w) X.A (isTrue e X.env whole) (TP X pins σ Q) X.xe s
theorem PW.pt {X : Cx} {e : Expr} {t : TT} (h : PW X e t) : PT X e t := h _
def PA (X : Cx) (es : List Expr) (t : TA) : Prop :=
  ∀ (pos : Pos) (pins : List (Addr × Obj)) (s : Shared) (σ : St) (H : Hp) (Q : List V → Hp → Prop), Inv X pins σ H s → t σ H Q → wpAny (model X.prog X.w) X.A (spliced (backTo pos (starEach es X.env))) (AP X pins σ Q) X.xe s
def PS (X : Cx) (st : Stmt) (t : TS) : Prop :=
  ∀ (pins : List (Addr × Obj)) (s : Shared) (σ : St) (H : Hp) (D : Ends), Inv X pins σ H s → t D σ H → wpAny (model X.prog X.w) X.A (exec st X.env) (SP X pins D) X.xe s
def PSs (X : Cx) (st : List Stmt) (t : TS) : Prop :=
  ∀ (pins : List (Addr × Obj)) (s : Shared) (σ : St) (H : Hp) (D : Ends), Inv X pins σ H s → t D σ H → wpAny (model X.prog X.w) X.A (execs st X.env) (SP X pins D) X.xe s
theorem thn {α : Type} {t : Sem α} {Q Q' : α → Shared → Prop} {M : Model} {A : Around} {E : Value → Shared → Prop} {s : Shared} (h : wpAny M A t Q E s) (hQ : ∀ a s, Q a s → Q' a s) : wpAny M A t Q' E s := wpAny_mono h hQ fun _ _ x => x
end L2
namespace L2
open PySem PySem.Spec PyProof.Rows
section
variable {X : Cx}
theorem bin {a b : Expr} {ta tb : TE} (ha : PE X a ta) (hb : PE X b tb) {pins : List (Addr × Obj)} {s : Shared} {σ : St} {H : Hp} {R : V → V → Hp → Prop} (I : Inv X pins σ H s) (h : ta σ H fun x H1 => tb σ H1 fun y H2 => R x y H2)
    {α : Type} {Q : α → Shared → Prop} {f : Value → Value → Sem α}
    (hf : ∀ v u s2 x y H2, Inv X pins σ H2 s2 → RelV x v → RelV y u → R x y H2 → wpAny (model X.prog X.w) X.A (f v u) Q X.xe s2) :
    wpAny (model X.prog X.w) X.A (eval a X.env) (fun v s₁ => wpAny (model X.prog X.w) X.A (eval b X.env) (fun u s₂ => wpAny (model X.prog X.w) X.A (f v u) Q X.xe s₂) X.xe s₁) X.xe s := by
  refine thn (ha pins s σ H _ I h) fun v s1 ⟨x, H1, I1, r1, q1⟩ => ?_
  refine thn (hb pins s1 σ H1 _ I1 q1) fun u s2 ⟨y, H2, I2, r2, q2⟩ => ?_
  exact hf v u s2 x y H2 I2 r1 r2 q2
def tVar (i : Nat) : TE := fun σ H Q => ∃ v, σ[i]? = some (some v) ∧ Q v H
def tC (v : V) : TE := fun _ H Q => Q v H
theorem pe_var {i : Nat} {x : Str} {pos : Pos} (hN : X.N[i]? = some x) (hv : Vis X.env.scope x) (hd : (x == ("__debug__" : Str)) = false := by decide) (hcd : (x == ("__classdict__" : Str)) = false := by decide) : PE X (.Name x pos) (tVar i) := by
  intro pins s σ H Q I h
  obtain ⟨v, e, h⟩ := h
  obtain ⟨m, hn, hl⟩ := I.loc
  obtain ⟨u, r, l⟩ := hl i x v hN e hv
  have fin : EP X pins σ Q u s := ⟨v, H, I, r, h⟩
  rcases l with ⟨hk, hm⟩ | ⟨hk, c, hc, hcell⟩
  · exact wpAny_Name (wpAny_loadName_local I.ok.kind hk hn hm fin) hd
  · rcases hk with hk | hk
    · exact wpAny_Name (wpAny_loadName_cell I.ok.kind hk hc hcell fin) hd
    · exact wpAny_Name (wpAny_loadName_free I.ok.kind hk hc hcell fin hcd) hd
theorem pe_int {i j pos} : PE X (.Constant (.int i) j pos) (tC (.int i)) := fun _ _ _ H _ I h => wpAny_Constant_int ⟨.int i, H, I.tok _, ⟨_, rfl⟩, h⟩
theorem pe_bl {b j pos} : PE X (.Constant (.bool b) j pos) (tC (.bl b)) := fun _ _ _ H _ I h => Constant_bool ⟨.bl b, H, I, rfl, h⟩
theorem pe_non {j pos} : PE X (.Constant .none j pos) (tC .non) := fun _ _ _ H _ I h => Constant_none ⟨.non, H, I, rfl, h⟩
theorem pe_str {x j pos} : PE X (.Constant (.str x) j pos) (tC (.str x)) := fun _ _ _ H _ I h => Calls.Constant_str ⟨.str x, H, I.tok _, ⟨_, rfl⟩, h⟩
def Gl (X : Cx) (x : Str) : Prop := X.env.kindOf x = some .globalImplicit
theorem ld_glob {E : Value → Shared → Prop} {pins : List (Addr × Obj)} {s : Shared} {σ : St} {H : Hp} {x : Str} {u : Value} {pos : Pos} {Q : Value → Shared → Prop} (I : Inv X pins σ H s) (hg : Gl X x) (hm : X.mg x = some u) (h : Q u s)
    (hd : (x == ("__debug__" : Str)) = false := by decide) : wpAny (model X.prog X.w) X.A (eval (.Name x pos) X.env) Q E s :=
  Calls.Name_function_global I.ok.kind hg (Calls.loadGlobal_global (by rw [I.ok.glob]; exact I.mod.glob.keeps I.bk) hm h) hd
theorem ld_blt {E : Value → Shared → Prop} {pins : List (Addr × Obj)} {s : Shared} {σ : St} {H : Hp} {x : Str} {u : Value} {pos : Pos} {Q : Value → Shared → Prop} (I : Inv X pins σ H s) (hg : Gl X x) (hm : X.mg x = none) (hv : bootBuiltins x = some u) (h : Q u s)
    (hn : x ≠ "__name__" := by decide) (hd : (x == ("__debug__" : Str)) = false := by decide) : wpAny (model X.prog X.w) X.A (eval (.Name x pos) X.env) Q E s := by
  obtain ⟨mb, h1, h2⟩ := I.mod.blt
  exact Calls.Name_function_global I.ok.kind hg (Calls.loadGlobal_builtin (by rw [I.ok.glob]; exact I.mod.glob.keeps I.bk) hm (by rw [I.ok.blt]; exact h1.keeps I.bk) ((h2 x hn).trans hv) h) hd
theorem pe_glob {x : Str} {v : V} {u : Value} {pos : Pos} (hg : Gl X x) (hm : X.mg x = some u) (r : RelV v u) (hd : (x == ("__debug__" : Str)) = false := by decide) : PE X (.Name x pos) (tC v) :=
  fun _ _ _ H _ I h => ld_glob I hg hm ⟨v, H, I, r, h⟩ hd
theorem pe_bltn {x : Str} {v : V} {u : Value} {pos : Pos} (hg : Gl X x) (hm : X.mg x = none) (hv : bootBuiltins x = some u) (r : RelV v u) (hn : x ≠ "__name__" := by decide) (hd : (x == ("__debug__" : Str)) = false := by decide) : PE X (.Name x pos) (tC v) :=
  fun _ _ _ H _ I h => ld_blt I hg hm hv ⟨v, H, I, r, h⟩ hn hd
variable {a b : Expr} {ta tb : TE} {pos : Pos}
def PC (X : Cx) (op : CmpOp) (a b : Expr) (t : TE) : Prop :=
  ∀ (pins : List (Addr × Obj)) (s : Shared) (σ : St) (H : Hp) (Q : VK), Inv X pins σ H s → t σ H Q →
    wpAny (model X.prog X.w) X.A (eval a X.env) (fun v s₁ => wpAny (model X.prog X.w) X.A (eval b X.env) (fun u s₂ => wpAny (model X.prog X.w) X.A (compareOp op v u) (EP X pins σ Q) X.xe s₂) X.xe s₁) X.xe s
theorem nobehind (b : Expr) {op : CmpOp} (h : op ≠ .In) (h2 : op ≠ .NotIn) : behindInMarks op b = false := by
  have e1 : (op == CmpOp.In) = false := by cases op <;> first | rfl | exact absurd rfl h
  have e2 : (op == CmpOp.NotIn) = false := by cases op <;> first | rfl | exact absurd rfl h2
  cases b <;> simp [behindInMarks, e1, e2]
def tIsN (ta : TE) : TE := fun σ H Q => ta σ H fun x H1 => Q (.bl (decide (x = .non))) H1
theorem RelV.none_iff {x : V} {v : Value} (r : RelV x v) : (v == Value.none) = decide (x = .non) := by
  cases x with
  | non => cases r; rfl
  | bl _ => cases r; rfl
  | int _ => obtain ⟨t, rfl⟩ := r; rfl
  | str _ => obtain ⟨t, rfl⟩ := r; rfl
  | byt _ => obtain ⟨t, rfl⟩ := r; rfl
  | flt _ => obtain ⟨t, rfl⟩ := r; rfl
  | ref _ => cases r; rfl
  | ty _ => cases r; rfl
theorem pc_isN {j pos'} (ha : PE X a ta) : PC X .Is a (.Constant .none j pos') (tIsN ta) := by
  intro pins s σ H Q I h
  refine thn (ha pins s σ H _ I h) fun v s1 ⟨x, H1, I1, r1, q1⟩ => ?_
  exact Constant_none (is_none_gen ⟨.bl _, H1, I1, by rw [r1.none_iff]; rfl, q1⟩)
def tB (t : TE) : TT := fun σ H Q => t σ H fun x H1 => ∃ c, x = .bl c ∧ Q c H1
theorem pe_cmp {op : CmpOp} {t : TE} (h : PC X op a b t) (h1 : behindInMarks op b = false := by first | exact nobehind _ (by decide) (by decide) | rfl) : PE X (.Compare a [op] [b] pos) t := fun pins s σ H Q I hw => wpAny_Compare1 (h pins s σ H Q I hw) h1
theorem pt_cmp {op : CmpOp} {t : TE} (h : PC X op a b t) (h1 : behindInMarks op b = false := by first | exact nobehind _ (by decide) (by decide) | rfl) : PT X (.Compare a [op] [b] pos) (tB t) := by
  intro pins s σ H Q I hw
  refine wpAny_isTrue_Compare1 (thn (h pins s σ H _ I hw) fun v s1 h1 => thn h1 fun u s2 h2 => thn h2 fun c s3 ⟨x, H1, I1, r1, q1⟩ => ?_) h1
  obtain ⟨d, rfl, q⟩ := q1
  cases r1
  exact wpAny_truthy_bool ⟨H1, I1, q⟩
theorem pt_val {e : Expr} {t : TE} (h : PE X e t) (he : ∀ whole, isTrue e X.env whole = (do let v ← whole; standAt e.pos; holding [v] (truthy v)) := by intro _; rfl) : PT X e (tB t) := by
  intro pins s σ H Q I hw
  refine isTrue_plain (thn (h pins s σ H _ I hw) fun v s1 ⟨x, H1, I1, r1, q1⟩ => ?_) (he _)
  obtain ⟨d, rfl, q⟩ := q1
  cases r1
  exact wpAny_truthy_bool ⟨H1, I1, q⟩
variable {tA tB' : TT} {rest : List Expr}
def tOr (t u : TT) : TT := fun σ H Q => t σ H fun c H1 => if c = true then Q true H1 else u σ H1 Q
def tNot (t : TT) : TT := fun σ H Q => t σ H fun c H1 => Q (!c) H1
theorem pw_or1 (ha : PT X a tA) : PW X (.BoolOp .Or [a] pos) tA := by
  intro wh pins s σ H Q I h
  refine isTrue_or (thn (ha pins s σ H Q I h) fun c s1 e => ?_)
  cases c with
  | false => exact isTrue_or_nil e
  | true => exact e
theorem pw_or (ha : PT X a tA) (hb : PW X (.BoolOp .Or (b :: rest) pos) tB') : PW X (.BoolOp .Or (a :: b :: rest) pos) (tOr tA tB') := by
  intro wh pins s σ H Q I h
  refine isTrue_or (thn (ha pins s σ H _ I h) fun c s1 ⟨H1, I1, q1⟩ => ?_)
  cases c with
  | true => exact ⟨H1, I1, q1⟩
  | false => exact hb wh pins s1 σ H1 Q I1 q1
theorem pt_not (ha : PT X a tA) : PT X (.UnaryOp .Not a pos) (tNot tA) := by
  intro pins s σ H Q I h
  exact isTrue_not (ha pins s σ H (fun c H1 => Q (!c) H1) I h)
def tAndV (ta tb : TE) : TE := fun σ H Q => ta σ H fun x H1 => ∃ c, x = .bl c ∧ if c = true then tb σ H1 Q else Q (.bl false) H1
def tNotV (ta : TE) : TE := fun σ H Q => ta σ H fun x H1 => ∃ c, x = .bl c ∧ Q (.bl (!c)) H1
theorem pe_one {op} {t : TE} (h : PE X a t) : PE X (.BoolOp op [a] pos) t := fun pins s σ H Q I hw => BoolOp_one (h pins s σ H Q I hw)
theorem pe_and (ha : PE X a ta) (hb : PE X (.BoolOp .And (b :: rest) pos) tb) : PE X (.BoolOp .And (a :: b :: rest) pos) (tAndV ta tb) := by
  intro pins s σ H Q I h
  refine BoolOp_and (thn (ha pins s σ H _ I h) fun v s1 ⟨x, H1, I1, r1, q1⟩ => ?_)
  obtain ⟨c, rfl, q1⟩ := q1
  cases r1
  refine wpAny_truthy_bool ?_
  cases c with
  | true => exact hb pins s1 σ H1 Q I1 q1
  | false => exact ⟨.bl false, H1, I1, rfl, q1⟩
theorem pe_not (ha : PE X a ta) : PE X (.UnaryOp .Not a pos) (tNotV ta) := by
  intro pins s σ H Q I h
  refine UnaryOp_ (thn (ha pins s σ H _ I h) fun v s1 ⟨x, H1, I1, r1, q1⟩ => ?_)
  obtain ⟨c, rfl, q1⟩ := q1
  cases r1
  exact not_of (wpAny_truthy_bool ⟨.bl (!c), H1, I1, rfl, q1⟩)
end
end L2
namespace L2
open PySem PySem.Spec PyProof.Rows
def SqL (K : PySem.W.Frag) (H : Hp) (a : Addr) (xs : List V) : Prop :=
  Rd H a (.lst xs) ∨
    ∃ (o : Obj) (its : Array Value) (n : Nat), K.lookup a = some o ∧ o.cls = .type "list" ∧ o.dict = none ∧ o.data = .seq its n ∧ its.size ≤ sizeLine ∧ Vals xs its.toList
def SqT (K : PySem.W.Frag) (H : Hp) (a : Addr) (xs : List V) : Prop :=
  Rd H a (.tup xs) ∨
    ∃ (o : Obj) (its : Array Value) (n : Nat), K.lookup a = some o ∧ o.cls = .type "tuple" ∧ o.data = .seq its n ∧ its.size ≤ sizeLine ∧ Vals xs its.toList
def absV : Value → Option V
  | .none => some .non
  | .bool b => some (.bl b)
  | .int i _ => some (.int i)
  | .str x _ => some (.str x)
  | .bytes b _ => some (.byt b)
  | .float b _ => some (.flt b)
  | .ref a => some (.ref a)
  | .type n => some (.ty n)
  | _ => none
theorem RelV.abs {x : V} {u : Value} (r : RelV x u) : absV u = some x := by
  cases x with
  | non => cases r; rfl
  | bl _ => cases r; rfl
  | int _ => obtain ⟨t, rfl⟩ := r; rfl
  | str _ => obtain ⟨t, rfl⟩ := r; rfl
  | byt _ => obtain ⟨t, rfl⟩ := r; rfl
  | flt _ => obtain ⟨t, rfl⟩ := r; rfl
  | ref _ => cases r; rfl
  | ty _ => cases r; rfl
theorem RelV.inj {x y : V} {u : Value} (r : RelV x u) (q : RelV y u) : x = y := Option.some.inj (r.abs.symm.trans q.abs)
theorem Vals.inj : ∀ {xs ys : List V} {us : List Value}, Vals xs us → Vals ys us → xs = ys
  | _, _, _, .nil, .nil => rfl
  | _, _, _, .cons r t, .cons r' t' => by rw [r.inj r', Vals.inj t t']
section
variable {X : Cx} {pins : List (Addr × Obj)} {σ : St} {H : Hp} {s : Shared} {a : Addr} {xs ys : List V}
theorem SqL.of {K : PySem.W.Frag} (h : H a = some (.lst xs)) : SqL K H a xs := .inl (.inl h)
theorem SqT.of {K : PySem.W.Frag} (h : H a = some (.tup xs)) : SqT K H a xs := .inl (.inl h)
theorem Inv.list (I : Inv X pins σ H s) (h : SqL X.K H a xs) : ∃ its : List Value, Vals xs its ∧ PlainL s.heap a its.toArray ∧ xs.length ≤ sizeLine := by
  rcases h with h | ⟨o, its, n, hk, hc, hd, hs, hz, r⟩
  · obtain ⟨z, its, n, r, e⟩ := h.ok I.hok
    exact ⟨its, r, ⟨_, n, e, rfl, rfl, rfl⟩, z⟩
  · refine ⟨its.toList, r, ⟨o, n, I.kIn a o hk, hc, hd, by simpa using hs⟩, ?_⟩
    have e := r.length
    simp only [Array.length_toList] at e
    omega
theorem Inv.tuple (I : Inv X pins σ H s) (h : SqT X.K H a xs) : ∃ its : List Value, Vals xs its ∧ IsTup s.heap a its.toArray ∧ xs.length ≤ sizeLine := by
  rcases h with h | ⟨o, its, n, hk, hc, hs, hz, r⟩
  · obtain ⟨z, its, r, p, _⟩ := h.ok I.hok
    exact ⟨its, r, p, z⟩
  · refine ⟨its.toList, r, ⟨o, I.kIn a o hk, hc, n, by simpa using hs⟩, ?_⟩
    have e := r.length
    simp only [Array.length_toList] at e
    omega
theorem Inv.list_inj (I : Inv X pins σ H s) (h : SqL X.K H a xs) (h' : SqL X.K H a ys) : xs = ys := by
  obtain ⟨its, r, ⟨o, n, e, _, _, d⟩, _⟩ := I.list h
  obtain ⟨its', r', ⟨o', n', e', _, _, d'⟩, _⟩ := I.list h'
  rw [e] at e'; cases e'
  rw [d] at d'
  injection d' with d1 _
  have : its = its' := by simpa using congrArg Array.toList d1
  subst this
  exact r.inj r'
theorem Inv.tuple_inj (I : Inv X pins σ H s) (h : SqT X.K H a xs) (h' : SqT X.K H a ys) : xs = ys := by
  obtain ⟨its, r, ⟨o, e, _, n, d⟩, _⟩ := I.tuple h
  obtain ⟨its', r', ⟨o', e', _, n', d'⟩, _⟩ := I.tuple h'
  rw [e] at e'; cases e'
  rw [d] at d'
  injection d' with d1 _
  have : its = its' := by simpa using congrArg Array.toList d1
  subst this
  exact r.inj r'
end
abbrev Cx.wish (X : Cx) (E : Value → Shared → Prop) : Cx := { X with xe := E }
abbrev Cx.nox (X : Cx) : Cx := X.wish fun _ _ => False
theorem Cx.Ok.wish {X : Cx} (ok : X.Ok) (E : Value → Shared → Prop) : (X.wish E).Ok :=
  ⟨ok.mod, ok.kind, ok.glob, ok.blt, ok.above, ok.inj, ok.has, ok.cab, ok.hd, ok.frames, ok.stk, ok.exf, ok.bs, ok.bsz, ok.noex, ok.exfs, ok.funs, ok.frf⟩
theorem Cx.Ok.unwish {X : Cx} {E : Value → Shared → Prop} (ok : (X.wish E).Ok) : X.Ok :=
  ⟨ok.mod, ok.kind, ok.glob, ok.blt, ok.above, ok.inj, ok.has, ok.cab, ok.hd, ok.frames, ok.stk, ok.exf, ok.bs, ok.bsz, ok.noex, ok.exfs, ok.funs, ok.frf⟩
section
variable {X : Cx} {pins : List (Addr × Obj)} {σ : St} {H : Hp} {s : Shared} {E : Value → Shared → Prop}
theorem Inv.wish (I : Inv X pins σ H s) (E : Value → Shared → Prop) : Inv (X.wish E) pins σ H s := ⟨I.ok.wish E, I.os, I.bare, I.base, I.loc, I.cell, I.free, I.freeC, I.pin, I.hok, I.len⟩
theorem Inv.unwish (I : Inv (X.wish E) pins σ H s) : Inv X pins σ H s := ⟨I.ok.unwish, I.os, I.bare, I.base, I.loc, I.cell, I.free, I.freeC, I.pin, I.hok, I.len⟩
theorem SP.unwish {D : Ends} {f : Flow} {s' : Shared} (h : SP (X.wish E) pins D f s') : SP X pins D f s' := by
  cases f with
  | next => obtain ⟨σ', H', I, q⟩ := h; exact ⟨σ', H', I.unwish, q⟩
  | brk => obtain ⟨σ', H', I, q⟩ := h; exact ⟨σ', H', I.unwish, q⟩
  | cont => obtain ⟨σ', H', I, q⟩ := h; exact ⟨σ', H', I.unwish, q⟩
  | ret u => obtain ⟨v, σ', H', I, r, q⟩ := h; exact ⟨v, σ', H', I.unwish, r, q⟩
theorem PE.nox {e : Expr} {t : TE} (h : PE X.nox e t) : PE X e t := fun pins s σ H Q I hw =>
  wpAny_mono (h pins s σ H Q (I.wish _) hw) (fun _ _ ⟨v, H', I', r, q⟩ => ⟨v, H', I'.unwish, r, q⟩) fun _ _ z => False.elim z
theorem PT.nox {e : Expr} {t : TT} (h : PT X.nox e t) : PT X e t := fun pins s σ H Q I hw =>
  wpAny_mono (h pins s σ H Q (I.wish _) hw) (fun _ _ ⟨H', I', q⟩ => ⟨H', I'.unwish, q⟩) fun _ _ z => False.elim z
theorem PSs.nox {st : List Stmt} {t : TS} (h : PSs X.nox st t) : PSs X st t := fun pins s σ H D I hw =>
  wpAny_mono (h pins s σ H D (I.wish _) hw) (fun _ _ q => q.unwish) fun _ _ z => False.elim z
end
section
variable {X : Cx} {st : Stmt} {rest : List Stmt} {t u : TS} {e : Expr} {te : TE} {pos : Pos}
def tNext : TS := fun D σ H => D.nx σ H
def tSeq (t u : TS) : TS := fun D σ H => t { D with nx := u D } σ H
theorem pss_nil : PSs X [] tNext := fun _ _ σ H _ I h => wpAny_execs_nil ⟨σ, H, I, h⟩
theorem pss_cons (h1 : PS X st t) (h2 : PSs X rest u) : PSs X (st :: rest) (tSeq t u) := by
  intro pins s σ H D I h
  refine wpAny_execs_cons (thn (h1 pins s σ H { D with nx := u D } I h) fun f s1 q => ?_)
  cases f with
  | next =>
    obtain ⟨σ', H', I', q⟩ := q
    exact h2 pins s1 σ' H' D I' q
  | ret v => exact q
  | brk => exact q
  | cont => exact q
theorem pss_one (h1 : PS X st t) : PSs X [st] t := by
  intro pins s σ H D I h
  refine wpAny_execs_cons (thn (h1 pins s σ H D I h) fun f s1 q => ?_)
  cases f with
  | next => exact wpAny_execs_nil q
  | ret v => exact q
  | brk => exact q
  | cont => exact q
theorem Inv.quiet {pins : List (Addr × Obj)} {σ : St} {H : Hp} {s : Shared} (I : Inv X pins σ H s) : interactive X.env = false := by simp [interactive, I.ok.kind]
def tDrop (te : TE) : TS := fun D σ H => te σ H fun _ H1 => D.nx σ H1
theorem ps_expr (he : PE X e te) (hs : swapsWith e none pos.line X.env = pure false := by rfl) : PS X (.Expr e pos) (tDrop te) := by
  intro pins s σ H D I h
  exact wpAny_Expr_any (thn (he pins s σ H _ I h) fun v s1 ⟨x, H1, I1, r1, q1⟩ => ⟨σ, H1, I1, q1⟩) I.quiet hs
def tRet (te : TE) : TS := fun D σ H => te σ H D.rt
theorem ps_ret (he : PE X e te) : PS X (.Return (some e) pos) (tRet te) := by
  intro pins s σ H D I h
  exact wpAny_Return_some (thn (he pins s σ H _ I h) fun v s1 ⟨x, H1, I1, r1, q1⟩ => ⟨x, σ, H1, I1, r1, q1⟩)
def tIfS (c : TT) (t u : TS) : TS := fun D σ H => c σ H fun b H1 => if b = true then t D σ H1 else u D σ H1
theorem ps_if {c : Expr} {a b : List Stmt} {tc : TT} (hc : PT X c tc) (ha : PSs X a t) (hb : PSs X b u) : PS X (.If c a b pos) (tIfS tc t u) := by
  intro pins s σ H D I h
  refine wpAny_If (thn (hc pins s σ H _ I h) fun d s1 ⟨H1, I1, q1⟩ => ?_)
  cases d with
  | true => exact ha pins s1 σ H1 D I1 q1
  | false => exact hb pins s1 σ H1 D I1 q1
def tNever : TS := fun _ _ _ => False
theorem pss_never {sts : List Stmt} : PSs X sts tNever := fun _ _ _ _ _ _ h => h.elim
end
abbrev TG := V → St → Hp → (St → Hp → Prop) → Prop
abbrev TGs := List V → St → Hp → (St → Hp → Prop) → Prop
def PG (X : Cx) (target : Expr) (t : TG) : Prop :=
  ∀ (pins : List (Addr × Obj)) (s : Shared) (σ : St) (H : Hp) (v : V) (u : Value) (Q : St → Hp → Prop), Inv X pins σ H s → RelV v u → t v σ H Q →
    wpAny (model X.prog X.w) X.A (assign target X.env u) (fun _ s' => ∃ σ' H', Inv X pins σ' H' s' ∧ Q σ' H') X.xe s
def PGs (X : Cx) (ts : List Expr) (t : TGs) : Prop :=
  ∀ (pins : List (Addr × Obj)) (s : Shared) (σ : St) (H : Hp) (vs : List V) (us : List Value) (Q : St → Hp → Prop), Inv X pins σ H s → Vals vs us → t vs σ H Q →
    wpAny (model X.prog X.w) X.A (assignInOrder ((assignEach ts X.env).map (·.2)) us) (fun _ s' => ∃ σ' H', Inv X pins σ' H' s' ∧ Q σ' H') X.xe s
section
variable {X : Cx} {pos : Pos}
def gName (i : Nat) : TG := fun v σ H Q => Q (σ.set i (some v)) H
theorem pg_name {i : Nat} {x : Str} (hN : X.N.Nodup) (hi : X.N[i]? = some x) (hx : Loc X.env.scope x) (hf : X.fn x = true ∨ X.env.scope.names.lookup x = some .local := by first | exact .inl rfl | exact .inr rfl | assumption) : PG X (.Name x pos) (gName i) := by
  intro pins s σ H v u Q I r h
  exact wpAny_assign_Name (store_ok I hN hi hx r (fun s' I' => ⟨_, H, I', h⟩) hf)
def gNil : TGs := fun vs σ H Q => vs = [] ∧ Q σ H
def gCons (t : TG) (u : TGs) : TGs := fun vs σ H Q => ∃ v r, vs = v :: r ∧ t v σ H fun σ' H' => u r σ' H' Q
theorem pgs_nil : PGs X [] gNil := by
  intro pins s σ H vs us Q I r h
  obtain ⟨e, h⟩ := h
  subst e
  cases r
  exact assignInOrder_nil ⟨σ, H, I, h⟩
theorem pgs_cons {e : Expr} {es : List Expr} {t : TG} {u : TGs} (h1 : PG X e t) (h2 : PGs X es u)
    (hs : (assignEach (e :: es) X.env).map (·.2) = assign e X.env :: (assignEach es X.env).map (·.2) := by rfl) : PGs X (e :: es) (gCons t u) := by
  intro pins s σ H vs us Q I r h
  obtain ⟨v, vr, e1, h⟩ := h
  subst e1
  cases r with
  | cons r rr =>
    rw [hs]
    refine assignInOrder_cons (thn (h1 pins s σ H _ _ _ I r h) fun _ s1 ⟨σ1, H1, I1, q1⟩ => ?_)
    exact h2 pins s1 σ1 H1 _ _ Q I1 rr q1
def gTup (K : PySem.W.Frag) (n : Nat) (t : TGs) : TG := fun v σ H Q => ∃ a xs, v = .ref a ∧ SqT K H a xs ∧ xs.length = n ∧ t xs σ H Q
theorem pg_tup {es : List Expr} {k : Nat} {t : TGs} {n : Nat} (hc : X.calm = true) (h : PGs X es t)
    (hn : (assignEach es X.env).length = n := by rfl) (hst : (assignEach es X.env).findIdx? (·.1) = none := by rfl) : PG X (.Tuple es k pos) (gTup X.K n t) := by
  intro pins s σ H v u Q I r hw
  obtain ⟨a, xs, e1, hq, hl, hw⟩ := hw
  subst e1
  cases r
  obtain ⟨its, rv, ht, hz⟩ := I.tuple hq
  refine assign_Tuple_tuple (I.ok.hd hc) ht (by simp [hn, ← hl, rv.length]) hst fun h' hx => ?_
  have I1 : Inv X pins σ H { s with heap := h' } := I.kept (t' := s.toks) fun b o e => hx b o (Nat.ne_of_lt (Heap.lt_size e)) e
  exact h pins _ σ H xs _ Q I1 (by simpa using rv) hw
def tAsg (te : TE) (g : TG) : TS := fun D σ H => te σ H fun x H1 => g x σ H1 D.nx
theorem ps_set {i : Nat} {x : Str} {e : Expr} {te : TE} {pos' : Pos} (hN : X.N.Nodup) (hi : X.N[i]? = some x) (hx : Loc X.env.scope x) (he : PE X e te) (hs : swapsWith e (some (.Name x pos')) pos.line X.env = pure false := by rfl) (hf : X.fn x = true ∨ X.env.scope.names.lookup x = some .local := by first | exact .inl rfl | exact .inr rfl | assumption) :
    PS X (.Assign [.Name x pos'] e pos) (tAsg te (gName i)) := by
  intro pins s σ H D I h
  refine wpAny_Assign_Name (thn (he pins s σ H _ I h) fun v s1 ⟨y, H1, I1, r1, q1⟩ => ?_) hs
  exact store_ok I1 hN hi hx r1 (fun s2 I2 => ⟨_, H1, I2, q1⟩) hf
end
section
variable {X : Cx} {pos : Pos}
end
structure It where
  go : Nat → Hp → Prop
  yld : Nat → Hp → V → Hp → Prop
  stop : Nat → Hp → Prop
def FpOk (X : Cx) (pins : List (Addr × Obj)) (H : Hp) (b : Addr) : Prop :=
  H b = none ∧ b ≠ X.env.locals ∧ b ∉ X.fs ∧ (b ∈ X.ex ∨ X.s₀.heap.objs.size ≤ b) ∧ (∀ x c, X.env.cells.lookup x = some c → c ≠ b) ∧ ∀ p ∈ X.pn ++ pins, p.1 ≠ b
theorem Inv.fpOk {X : Cx} {pins : List (Addr × Obj)} {σ : St} {H H' : Hp} {s : Shared} {b : Addr} (I : Inv X pins σ H s) (hb : s.heap.objs.size ≤ b) (hn : H' b = none) : FpOk X pins H' b := by
  refine ⟨hn, Nat.ne_of_gt (Nat.lt_of_lt_of_le I.lt hb), I.nofs hb, .inr (Nat.le_trans I.sz hb), fun x c e z => ?_, fun p hp z => ?_⟩
  · obtain ⟨v, q⟩ := I.cell x c e
    exact absurd (Nat.lt_of_lt_of_le q.lt (by rw [z]; exact hb)) (Nat.lt_irrefl _)
  · exact absurd (Nat.lt_of_lt_of_le (Heap.lt_size (I.pin p hp).1) (by rw [z]; exact hb)) (Nat.lt_irrefl _)
structure Turn (P : Program) (w : World) (K : PySem.W.Frag) (tg : Expr) (J : It) (fp : List Addr) (it : Addr) (tn : Nat → Heap → Prop) : Prop where
  mem : it ∈ fp
  obj : ∀ i h, tn i h → ∀ b ∈ fp, ∃ o, h.get? b = some o ∧ ∀ v, o.data ≠ .cell v
  keep : ∀ i h h', tn i h → (∀ b ∈ fp, ∀ o, h.get? b = some o → h'.get? b = some o) → tn i h'
  item : ∀ (X : Cx), X.prog = P → X.w = w → X.K = K → X.calm = true → ∀ (i : Nat) (pins : List (Addr × Obj)) (s : Shared) (σ : St) (H : Hp) (E : Value → Shared → Prop), Inv X pins σ H s → (∀ b ∈ fp, FpOk X pins H b) → tn i s.heap → J.go i H →
    wpAny (model P w) X.A (pyNext (.ref it)) (fun r s1 => ∃ u, r = some u ∧
      wpAny (model P w) X.A (letOwnedTupleGo tg (.ref it) u) (fun _ s2 => ∃ x H', Inv X pins σ H' s2 ∧ RelV x u ∧ J.yld i H x H' ∧ tn (i + 1) s2.heap ∧ ∀ b ∈ fp, H' b = none) E s1) E s
  done : ∀ (X : Cx), X.prog = P → X.w = w → X.K = K → X.calm = true → ∀ (i : Nat) (pins : List (Addr × Obj)) (s : Shared) (σ : St) (H : Hp) (E : Value → Shared → Prop), Inv X pins σ H s → (∀ b ∈ fp, FpOk X pins H b) → tn i s.heap → J.stop i H →
    wpAny (model P w) X.A (pyNext (.ref it)) (fun r s1 => r = none ∧ Inv X pins σ H s1) E s
  self : ∀ (A : Around) (i : Nat) (s : Shared) (Q : Value → Shared → Prop) (E : Value → Shared → Prop), tn i s.heap → Q (.ref it) s → wpAny (model P w) A (pyIter (.ref it)) Q E s
abbrev TI := St → Hp → (It → Hp → Prop) → Prop
def PIE (X : Cx) (pins : List (Addr × Obj)) (σ : St) (tg : Expr) (R : It → Hp → Prop) (itv : Value) (s2 : Shared) : Prop :=
  ∃ (it : Addr) (fp : List Addr) (tn : Nat → Heap → Prop) (J : It) (H' : Hp), itv = .ref it ∧ Inv X pins σ H' s2 ∧ Turn X.prog X.w X.K tg J fp it tn ∧ tn 0 s2.heap ∧ (∀ b ∈ fp, FpOk X pins H' b) ∧ R J H'
def PI (X : Cx) (tg iter : Expr) (wi : TI) : Prop :=
  ∀ (pins : List (Addr × Obj)) (s : Shared) (σ : St) (H : Hp) (R : It → Hp → Prop), Inv X pins σ H s → wi σ H R →
    wpAny (model X.prog X.w) X.A (eval iter X.env) (fun v s1 => wpAny (model X.prog X.w) X.A (pyIter v) (PIE X pins σ tg R) X.xe s1) X.xe s
theorem go_of {M : Model} {A : Around} {E : Value → Shared → Prop} {s : Shared} {tg : Expr} {it : Addr} {u : Value} {o : Obj} {n : String} {vs : Array Value} {Q : Unit → Shared → Prop} (ho : s.heap.get? it = some o) (hc : o.cls = .type n) (hd : o.data = .fields vs)
    (hn : ["enumerate", "zip", "dict_itemiterator", "dict_reverseitemiterator", "odict_iterator", "itertools.zip_longest", "itertools.pairwise"].contains n = false) (hQ : Q () s) : wpAny M A (letOwnedTupleGo tg (.ref it) u) Q E s := by
  unfold letOwnedTupleGo
  cases tg <;> first
    | exact wpAny_pure hQ
    | (cases u <;> first
        | exact wpAny_pure hQ
        | (refine wpAny_bind (wpAny_load ho ?_)
           rw [hc, hd]
           show wpAny M A (if (["enumerate", "zip", "dict_itemiterator", "dict_reverseitemiterator", "odict_iterator", "itertools.zip_longest", "itertools.pairwise"].contains n && vs[0]? == some (rawInt _)) = true then _ else _) Q E s
           rw [if_neg (by intro h; rw [hn, Bool.false_and] at h; cases h)]
           exact wpAny_pure hQ))
def Itl (K : PySem.W.Frag) (a : Addr) : It :=
  ⟨fun i H => ∃ xs x, SqL K H a xs ∧ xs[i]? = some x, fun i H x H' => H' = H ∧ ∀ xs, SqL K H a xs → xs[i]? = some x, fun i H => ∃ xs, SqL K H a xs ∧ xs.length ≤ i⟩
def Itt (K : PySem.W.Frag) (a : Addr) : It :=
  ⟨fun i H => ∃ xs x, SqT K H a xs ∧ xs[i]? = some x, fun i H x H' => H' = H ∧ ∀ xs, SqT K H a xs → xs[i]? = some x, fun i H => ∃ xs, SqT K H a xs ∧ xs.length ≤ i⟩
def Itr (lo : Int) (n : Nat) : It := ⟨fun i _ => i < n, fun i H x H' => H' = H ∧ x = .int (lo + i), fun i _ => n ≤ i⟩
theorem turn_list {P : Program} {w : World} {K : PySem.W.Frag} {tg : Expr} (a it : Addr) : Turn P w K tg (Itl K a) [it] it (fun i h => h.IsListIter it a i) where
  mem := by simp
  obj := fun i h st b hb => by
    have e : b = it := by simpa using hb
    subst e
    obtain ⟨o, e, c, d⟩ := st
    exact ⟨o, e, fun v z => by rw [d] at z; cases z⟩
  keep := fun i h h' st k => st.at fun o e => k it (by simp) o e
  item := by
    intro X hP hw hK hc i pins s σ H E I hf st hg
    subst hP hw hK
    obtain ⟨xs, x, hq, hx⟩ := hg
    obtain ⟨its, rv, p, hz⟩ := I.list hq
    obtain ⟨u, hu, ru⟩ := rv.get hx
    obtain ⟨f0, f1, f2, f3, f4, f5⟩ := hf it (by simp)
    refine wpAny_pyNext_list_item st p.isList (x := u) (by simpa using hu) fun h' st' sb => ?_
    have I1 : Inv X pins σ H { s with heap := h' } := I.turned (t' := s.toks) (fun b o hb e => (sb.2 b hb).trans e) f0 f1 f3 f4 f5
    obtain ⟨o, e, c, d⟩ := id st'
    exact ⟨u, rfl, go_of (s := { s with heap := h' }) e c d (by decide) ⟨x, H, I1, ru, ⟨rfl, fun ys hy => by rw [I.list_inj hy hq]; exact hx⟩, st', fun b hb => (hf b hb).1⟩⟩
  done := by
    intro X hP hw hK hc i pins s σ H E I hf st hg
    subst hP hw hK
    obtain ⟨xs, hq, hx⟩ := hg
    obtain ⟨its, rv, p, hz⟩ := I.list hq
    obtain ⟨f0, f1, f2, f3, f4, f5⟩ := hf it (by simp)
    have hl := rv.length
    exact wpAny_pyNext_list_end (I.ok.hd hc) st p.isList (by simp; omega) fun h' eb => ⟨rfl, I.turned (t' := s.toks) (fun b o hb e => eb b o hb e) f0 f1 f3 f4 f5⟩
  self := fun _ _ _ _ _ st h => wpAny_pyIter_listiter st h
theorem turn_tuple {P : Program} {w : World} {K : PySem.W.Frag} {tg : Expr} (a it : Addr) : Turn P w K tg (Itt K a) [it] it (fun i h => h.IsTupleIter it a i) where
  mem := by simp
  obj := fun i h st b hb => by
    have e : b = it := by simpa using hb
    subst e
    obtain ⟨o, e, c, d⟩ := st
    exact ⟨o, e, fun v z => by rw [d] at z; cases z⟩
  keep := fun i h h' st k => st.at fun o e => k it (by simp) o e
  item := by
    intro X hP hw hK hc i pins s σ H E I hf st hg
    subst hP hw hK
    obtain ⟨xs, x, hq, hx⟩ := hg
    obtain ⟨its, rv, p, hz⟩ := I.tuple hq
    obtain ⟨u, hu, ru⟩ := rv.get hx
    obtain ⟨f0, f1, f2, f3, f4, f5⟩ := hf it (by simp)
    refine wpAny_pyNext_tuple_item st (show s.heap.IsTuple a its.toArray from p) (x := u) (by simpa using hu) fun h' st' sb => ?_
    have I1 : Inv X pins σ H { s with heap := h' } := I.turned (t' := s.toks) (fun b o hb e => (sb.2 b hb).trans e) f0 f1 f3 f4 f5
    obtain ⟨o, e, c, d⟩ := id st'
    exact ⟨u, rfl, go_of (s := { s with heap := h' }) e c d (by decide) ⟨x, H, I1, ru, ⟨rfl, fun ys hy => by rw [I.tuple_inj hy hq]; exact hx⟩, st', fun b hb => (hf b hb).1⟩⟩
  done := by
    intro X hP hw hK hc i pins s σ H E I hf st hg
    subst hP hw hK
    obtain ⟨xs, hq, hx⟩ := hg
    obtain ⟨its, rv, p, hz⟩ := I.tuple hq
    obtain ⟨f0, f1, f2, f3, f4, f5⟩ := hf it (by simp)
    have hl := rv.length
    exact wpAny_pyNext_tuple_end (I.ok.hd hc) st (show s.heap.IsTuple a its.toArray from p) (by simp; omega) fun h' eb => ⟨rfl, I.turned (t' := s.toks) (fun b o hb e => eb b o hb e) f0 f1 f3 f4 f5⟩
  self := fun _ _ _ _ _ st h => wpAny_pyIter_tupleiter st h
theorem turn_range {P : Program} {w : World} {K : PySem.W.Frag} {tg : Expr} (it : Addr) (lo : Int) (n : Nat) : Turn P w K tg (Itr lo n) [it] it (fun i h => IsRangeIter h it (lo + (i : Nat) * 1) ((n : Int) - (i : Nat)) 1) where
  mem := by simp
  obj := fun i h st b hb => by
    have e : b = it := by simpa using hb
    subst e
    exact ⟨_, st, fun v z => by
      have z' : Data.fields _ = Data.cell v := z
      cases z'⟩
  keep := fun i h h' st k => k it (by simp) _ st
  item := by
    intro X hP hw hK hc i pins s σ H E I hf st hg
    subst hP hw hK
    obtain ⟨f0, f1, f2, f3, f4, f5⟩ := hf it (by simp)
    have W := Walks.range (prog := X.prog) (w := X.w) (I.ok.hd hc) it lo 1 n
    refine W.item i s _ _ hg st fun v h' tk hv st' kk => ?_
    obtain ⟨t, rfl⟩ := hv
    have I1 : Inv X pins σ H { s with heap := h', toks := tk } := I.turned (fun b o hb e => kk b o (by simpa using hb) e) f0 f1 f3 f4 f5
    refine ⟨_, rfl, go_of (s := { s with heap := h', toks := tk }) (n := "range_iterator") st' rfl rfl (by decide) ⟨.int (lo + i), H, I1, ⟨t, ?_⟩, ⟨rfl, rfl⟩, st', fun b hb => (hf b hb).1⟩⟩
    rw [Int.mul_one]
  done := by
    intro X hP hw hK hc i pins s σ H E I hf st hg
    subst hP hw hK
    obtain ⟨f0, f1, f2, f3, f4, f5⟩ := hf it (by simp)
    exact wpAny_pyNext_range_end (I.ok.hd hc) st (by have : n ≤ i := hg; omega) fun h' eb => ⟨rfl, I.turned (t' := s.toks) (fun b o hb e => eb b o hb e) f0 f1 f3 f4 f5⟩
  self := fun _ _ _ _ _ st h => wpAny_pyIter_rangeiter st h
end L2
namespace L2
open PySem PySem.Spec PyProof.Rows
section
variable {X : Cx} {tg : Expr}
def iList (K : PySem.W.Frag) (tl : TE) : TI := fun σ H R => tl σ H fun x H1 => ∃ a, x = .ref a ∧ (∃ xs, SqL K H1 a xs) ∧ R (Itl K a) H1
def iTup (K : PySem.W.Frag) (tl : TE) : TI := fun σ H R => tl σ H fun x H1 => ∃ a, x = .ref a ∧ (∃ xs, SqT K H1 a xs) ∧ R (Itt K a) H1
theorem pi_list {l : Expr} {tl : TE} (hl : PE X l tl) : PI X tg l (iList X.K tl) := by
  intro pins s σ H R I h
  refine thn (hl pins s σ H _ I h) fun v s1 ⟨x, H1, I1, r1, q1⟩ => ?_
  obtain ⟨a, e, ⟨xs, hq⟩, q⟩ := q1
  subst e
  cases r1
  obtain ⟨its, rv, p, hz⟩ := I1.list hq
  refine wpAny_pyIter_list p.isList ?_
  refine ⟨s1.heap.objs.size, [s1.heap.objs.size], _, _, H1, rfl, I1.kept (t' := s1.toks) fun b o e => Heap.get?_push_of_some _ e, turn_list a _, ⟨_, Heap.get?_push_size _ rfl, rfl, rfl⟩, fun b hb => ?_, q⟩
  have e : b = s1.heap.objs.size := by simpa using hb
  subst e
  exact I1.fpOk (Nat.le_refl _) (I1.hok.fresh (Nat.le_refl _))
theorem pi_tup {l : Expr} {tl : TE} (hl : PE X l tl) : PI X tg l (iTup X.K tl) := by
  intro pins s σ H R I h
  refine thn (hl pins s σ H _ I h) fun v s1 ⟨x, H1, I1, r1, q1⟩ => ?_
  obtain ⟨a, e, ⟨xs, hq⟩, q⟩ := q1
  subst e
  cases r1
  obtain ⟨its, rv, p, hz⟩ := I1.tuple hq
  refine wpAny_pyIter_tuple (show s1.heap.IsTuple a its.toArray from p) ?_
  refine ⟨s1.heap.objs.size, [s1.heap.objs.size], _, _, H1, rfl, I1.kept (t' := s1.toks) fun b o e => Heap.get?_push_of_some _ e, turn_tuple a _, ⟨_, Heap.get?_push_size _ rfl, rfl, rfl⟩, fun b hb => ?_, q⟩
  have e : b = s1.heap.objs.size := by simpa using hb
  subst e
  exact I1.fpOk (Nat.le_refl _) (I1.hok.fresh (Nat.le_refl _))
theorem range_it {pins : List (Addr × Obj)} {σ : St} {H : Hp} {s : Shared} {R : It → Hp → Prop} {E : Value → Shared → Prop} {lo hi : Int} {t u v : Tok} {tk : Nat} (I : Inv X pins σ H s) (h1 : -(2 ^ 62) ≤ lo) (h2 : lo < 2 ^ 62) (h3 : -(2 ^ 62) ≤ hi) (h4 : hi < 2 ^ 62)
    (q : R (Itr lo (hi - lo).toNat) H) : wpAny (model X.prog X.w) X.A (pyIter (.ref s.heap.objs.size)) (PIE X pins σ tg R) E { s with heap := s.heap.push { cls := .type "range", data := .fields #[.int lo t, .int hi u, .int 1 v] }, toks := tk } := by
  refine wpAny_pyIter_range (IsRange.new ..) (small_one h1 h2 h3 h4) ?_
  have I1 : Inv X pins σ H { s with heap := s.heap.push { cls := .type "range", data := .fields #[.int lo t, .int hi u, .int 1 v] }, toks := tk } := I.kept fun b o e => Heap.get?_push_of_some _ e
  refine ⟨(s.heap.push { cls := .type "range", data := .fields #[.int lo t, .int hi u, .int 1 v] }).objs.size, [(s.heap.push { cls := .type "range", data := .fields #[.int lo t, .int hi u, .int 1 v] }).objs.size], _, _, H, rfl,
    I1.kept (t' := tk) fun b o e => Heap.get?_push_of_some _ e, turn_range _ lo (hi - lo).toNat, ?_, fun b hb => ?_, q⟩
  · have e1 : lo + ((0 : Nat) : Int) * 1 = lo := by simp
    have e2 : (((hi - lo).toNat : Nat) : Int) - ((0 : Nat) : Int) = Builtin.Range.rangeSize lo hi 1 := by rw [rangeSize_one]; split <;> omega
    show IsRangeIter _ _ (lo + ((0 : Nat) : Int) * 1) ((((hi - lo).toNat : Nat) : Int) - ((0 : Nat) : Int)) 1
    rw [e1, e2]
    exact Heap.get?_push_size _ rfl
  · have e : b = (s.heap.push { cls := .type "range", data := .fields #[.int lo t, .int hi u, .int 1 v] }).objs.size := by simpa using hb
    subst e
    exact I1.fpOk (Nat.le_refl _) (I1.hok.fresh (Nat.le_refl _))
def iRng1 (ta : TA) : TI := fun σ H R => ta σ H fun vs H1 => ∃ j : Int, vs = [.int j] ∧ -(2 ^ 62) ≤ j ∧ j < 2 ^ 62 ∧ R (Itr 0 j.toNat) H1
theorem pi_range1 {a : Expr} {ta : TA} {p pos : Pos} (hg : Gl X "range") (hm : X.mg "range" = none) (ha : PA X [a] ta) (hs : starEach [a] X.env = [(false, eval a X.env)] := by rfl) : PI X tg (.Call (.Name "range" p) [a] [] pos) (iRng1 ta) := by
  intro pins s σ H R I h
  refine Call_ (ld_blt I hg hm boot_range (PyProof.Rows.callWith_type1 (thn (ha pos pins s σ H _ I h) fun us s1 ⟨vs, H1, I1, r1, q1⟩ => ?_) hs rfl))
  obtain ⟨j, e, q1, q2, q⟩ := q1
  subst e
  cases r1 with
  | cons r rr =>
    cases rr
    obtain ⟨t, rfl⟩ := r
    exact call_range_1 (range_it I1 (by omega) (by omega) q1 q2 (by simpa using q))
def tFor (wi : TI) (g : TG) (tb : TS) : TS := fun D σ H => wi σ H fun J H1 => ∃ W : Nat → Nat → St → Hp → Prop, (∃ m, W 0 m σ H1) ∧ ∀ i m σ H, W i m σ H →
  (J.stop i H ∧ D.nx σ H) ∨ (J.go i H ∧ ∃ N : St → Hp → Prop, (∀ σ' H', N σ' H' → ∃ m', m' < m ∧ W (i + 1) m' σ' H') ∧ ∀ x H', J.yld i H x H' → g x σ H' fun σ2 H2 => tb { D with nx := N, ct := N, bk := D.nx } σ2 H2)
def pinsAt (fp : List Addr) (h : Heap) : List (Addr × Obj) := fp.filterMap fun b => (h.get? b).map fun o => (b, o)
theorem mem_pinsAt {fp : List Addr} {h : Heap} {b : Addr} {o : Obj} (hb : b ∈ fp) (e : h.get? b = some o) : (b, o) ∈ pinsAt fp h := List.mem_filterMap.mpr ⟨b, hb, by rw [e]; rfl⟩
theorem of_pinsAt {fp : List Addr} {h : Heap} {p : Addr × Obj} (hp : p ∈ pinsAt fp h) : p.1 ∈ fp ∧ h.get? p.1 = some p.2 := by
  obtain ⟨b, hb, e⟩ := List.mem_filterMap.mp hp
  cases q : h.get? b with
  | none => rw [q] at e; cases e
  | some o =>
    rw [q] at e
    have e' : (b, o) = p := Option.some.inj e
    subst e'
    exact ⟨hb, q⟩
theorem Inv.pinned {pins : List (Addr × Obj)} {σ : St} {H : Hp} {s : Shared} {fp : List Addr} (I : Inv X pins σ H s) (hf : ∀ b ∈ fp, FpOk X pins H b) (ho : ∀ b ∈ fp, ∃ o, s.heap.get? b = some o ∧ ∀ v, o.data ≠ .cell v) : Inv X (pins ++ pinsAt fp s.heap) σ H s :=
  I.pins_of fun p hp => (List.mem_append.mp hp).elim (fun z => I.pin p (List.mem_append_right _ z)) fun z => by
    obtain ⟨hb, e⟩ := of_pinsAt z
    obtain ⟨f0, f1, f2, _⟩ := hf p.1 hb
    obtain ⟨o, e', d⟩ := ho p.1 hb
    rw [e] at e'; cases e'
    exact ⟨e, f0, f1, f2, d⟩
theorem Inv.unpinned {pins pl : List (Addr × Obj)} {σ : St} {H : Hp} {s : Shared} (I : Inv X (pins ++ pl) σ H s) : Inv X pins σ H s := I.pins_of fun p hp => I.pin p (List.mem_append_right _ (List.mem_append_left _ hp))
theorem ps_for {iter : Expr} {body : List Stmt} {wi : TI} {g : TG} {tb : TS} {pos : Pos} (hp : PassesOwn (model X.prog X.w) X.A X.env X.xe) (hc : X.calm = true) (hi : PI X tg iter wi) (hg : PG X tg g) (hb : PSs X body tb)
    (hs : ∀ x, foldedSetIterable iter X.env x = pure x := by intro _; rfl) : PS X (.For tg iter body [] pos) (tFor wi g tb) := by
  intro pins s σ H D I h
  refine wpAny_For (thn (hi pins s σ H _ I h) fun v s1 h1 => thn h1 fun itv s2 h2 => ?_) hs
  obtain ⟨it, fp, tn, J, H2, e, I2, T, st2, f2, W, ⟨m0, w0⟩, turn⟩ := h2
  subst e
  -- what stays true of the iterator's objects through the loop
  have stat : ∀ {H' : Hp}, (∀ b ∈ fp, H' b = none) → ∀ b ∈ fp, FpOk X pins H' b := fun hn b hb => ⟨hn b hb, (f2 b hb).2⟩
  refine codeAny_forLoop_any (fun n s' => ∃ i σ' H', Inv X pins σ' H' s' ∧ tn i s'.heap ∧ (∀ b ∈ fp, H' b = none) ∧ W i n σ' H') ?_ m0 ⟨0, σ, H2, I2, st2, fun b hb => (f2 b hb).1, w0⟩
  rintro n s3 ⟨i, σ3, H3, I3, st3, fr3, w3⟩
  rcases turn i n σ3 H3 w3 with ⟨stop, qn⟩ | ⟨go, N, hN, step⟩
  · refine wpAny_passesOwn hp (thn (T.done X rfl rfl rfl hc i pins s3 σ3 H3 X.xe I3 (stat fr3) st3 stop) fun r s4 ⟨hr, I4⟩ => ?_)
    subst hr
    exact wpAny_execs_nil ⟨σ3, H3, I4, qn⟩
  · refine wpAny_passesOwn hp (thn (T.item X rfl rfl rfl hc i pins s3 σ3 H3 X.xe I3 (stat fr3) st3 go) fun r s4 ⟨u, hr, h4⟩ => ?_)
    subst hr
    refine wpAny_passesOwn hp (thn h4 fun _ s5 ⟨x, H5, I5, r5, y5, st5, fr5⟩ => ?_)
    have I5' := I5.pinned (stat fr5) (T.obj _ _ st5)
    refine wpAny_passesOwn hp (thn (hg _ s5 σ3 H5 x u _ I5' r5 (step x H5 y5)) fun _ s6 ⟨σ6, H6, I6, q6⟩ => ?_)
    refine wpAny_passesOwn hp (thn (hb _ s6 σ6 H6 _ I6 q6) fun f s7 q7 => ?_)
    have again : ∀ {σ7 : St} {H7 : Hp}, Inv X (pins ++ pinsAt fp s5.heap) σ7 H7 s7 → N σ7 H7 → ∃ m, m < n ∧ ∃ i σ' H', Inv X pins σ' H' s7 ∧ tn i s7.heap ∧ (∀ b ∈ fp, H' b = none) ∧ W i m σ' H' := fun {σ7 H7} I7 n7 => by
      obtain ⟨m', hm, w7⟩ := hN σ7 H7 n7
      refine ⟨m', hm, i + 1, σ7, H7, I7.unpinned, T.keep _ _ _ st5 fun b hb o e => (I7.pin (b, o) (List.mem_append_right _ (List.mem_append_right _ (mem_pinsAt hb e)))).1, fun b hb => ?_, w7⟩
      obtain ⟨o, e, d⟩ := T.obj _ _ st5 b hb
      exact (I7.pin (b, o) (List.mem_append_right _ (List.mem_append_right _ (mem_pinsAt hb e)))).2.1
    cases f with
    | next => obtain ⟨σ7, H7, I7, n7⟩ := q7; exact again I7 n7
    | cont => obtain ⟨σ7, H7, I7, n7⟩ := q7; exact again I7 n7
    | brk => obtain ⟨σ7, H7, I7, q7⟩ := q7; exact ⟨σ7, H7, I7.unpinned, q7⟩
    | ret v => obtain ⟨x7, σ7, H7, I7, r7, q7⟩ := q7; exact ⟨x7, σ7, H7, I7.unpinned, r7, q7⟩
end
theorem for_list {K : PySem.W.Frag} {a : Addr} {xs : List V} {g : TG} {tb : TS} {D : Ends} {σ : St} {H : Hp} (Pv : Nat → St → Hp → Prop) (h0 : Pv 0 σ H) (hl : ∀ i σ H, i ≤ xs.length → Pv i σ H → SqL K H a xs)
    (hs : ∀ i x σ H, xs[i]? = some x → Pv i σ H → g x σ H fun σ2 H2 => tb { D with nx := Pv (i + 1), ct := Pv (i + 1), bk := D.nx } σ2 H2) (hd : ∀ σ H, Pv xs.length σ H → D.nx σ H) :
    ∃ W : Nat → Nat → St → Hp → Prop, (∃ m, W 0 m σ H) ∧ ∀ i m σ H, W i m σ H →
      ((Itl K a).stop i H ∧ D.nx σ H) ∨ ((Itl K a).go i H ∧ ∃ N : St → Hp → Prop, (∀ σ' H', N σ' H' → ∃ m', m' < m ∧ W (i + 1) m' σ' H') ∧ ∀ x H', (Itl K a).yld i H x H' → g x σ H' fun σ2 H2 => tb { D with nx := N, ct := N, bk := D.nx } σ2 H2) := by
  refine ⟨fun i m σ H => m = xs.length - i ∧ i ≤ xs.length ∧ Pv i σ H, ⟨xs.length, by simp, Nat.zero_le _, h0⟩, ?_⟩
  rintro i m σ H ⟨rfl, hi, p⟩
  have q := hl i σ H hi p
  by_cases hlt : i < xs.length
  · refine .inr ⟨⟨xs, xs[i], q, by simp [hlt]⟩, Pv (i + 1), fun σ' H' p' => ⟨xs.length - (i + 1), by omega, rfl, hlt, p'⟩, fun x H' y => ?_⟩
    obtain ⟨e, y⟩ := y
    subst e
    exact hs i x σ _ (y xs q) p
  · have e : i = xs.length := by omega
    subst e
    exact .inl ⟨⟨xs, q, Nat.le_refl _⟩, hd σ H p⟩
theorem for_tup {K : PySem.W.Frag} {a : Addr} {xs : List V} {g : TG} {tb : TS} {D : Ends} {σ : St} {H : Hp} (Pv : Nat → St → Hp → Prop) (h0 : Pv 0 σ H) (hl : ∀ i σ H, i ≤ xs.length → Pv i σ H → SqT K H a xs)
    (hs : ∀ i x σ H, xs[i]? = some x → Pv i σ H → g x σ H fun σ2 H2 => tb { D with nx := Pv (i + 1), ct := Pv (i + 1), bk := D.nx } σ2 H2) (hd : ∀ σ H, Pv xs.length σ H → D.nx σ H) :
    ∃ W : Nat → Nat → St → Hp → Prop, (∃ m, W 0 m σ H) ∧ ∀ i m σ H, W i m σ H →
      ((Itt K a).stop i H ∧ D.nx σ H) ∨ ((Itt K a).go i H ∧ ∃ N : St → Hp → Prop, (∀ σ' H', N σ' H' → ∃ m', m' < m ∧ W (i + 1) m' σ' H') ∧ ∀ x H', (Itt K a).yld i H x H' → g x σ H' fun σ2 H2 => tb { D with nx := N, ct := N, bk := D.nx } σ2 H2) := by
  refine ⟨fun i m σ H => m = xs.length - i ∧ i ≤ xs.length ∧ Pv i σ H, ⟨xs.length, by simp, Nat.zero_le _, h0⟩, ?_⟩
  rintro i m σ H ⟨rfl, hi, p⟩
  have q := hl i σ H hi p
  by_cases hlt : i < xs.length
  · refine .inr ⟨⟨xs, xs[i], q, by simp [hlt]⟩, Pv (i + 1), fun σ' H' p' => ⟨xs.length - (i + 1), by omega, rfl, hlt, p'⟩, fun x H' y => ?_⟩
    obtain ⟨e, y⟩ := y
    subst e
    exact hs i x σ _ (y xs q) p
  · have e : i = xs.length := by omega
    subst e
    exact .inl ⟨⟨xs, q, Nat.le_refl _⟩, hd σ H p⟩
theorem for_range {lo : Int} {n : Nat} {g : TG} {tb : TS} {D : Ends} {σ : St} {H : Hp} (Pv : Nat → St → Hp → Prop) (h0 : Pv 0 σ H)
    (hs : ∀ i σ H, i < n → Pv i σ H → g (.int (lo + i)) σ H fun σ2 H2 => tb { D with nx := Pv (i + 1), ct := Pv (i + 1), bk := D.nx } σ2 H2) (hd : ∀ σ H, Pv n σ H → D.nx σ H) :
    ∃ W : Nat → Nat → St → Hp → Prop, (∃ m, W 0 m σ H) ∧ ∀ i m σ H, W i m σ H →
      ((Itr lo n).stop i H ∧ D.nx σ H) ∨ ((Itr lo n).go i H ∧ ∃ N : St → Hp → Prop, (∀ σ' H', N σ' H' → ∃ m', m' < m ∧ W (i + 1) m' σ' H') ∧ ∀ x H', (Itr lo n).yld i H x H' → g x σ H' fun σ2 H2 => tb { D with nx := N, ct := N, bk := D.nx } σ2 H2) := by
  refine ⟨fun i m σ H => m = n - i ∧ i ≤ n ∧ Pv i σ H, ⟨n, by simp, Nat.zero_le _, h0⟩, ?_⟩
  rintro i m σ H ⟨rfl, hi, p⟩
  by_cases hlt : i < n
  · refine .inr ⟨hlt, Pv (i + 1), fun σ' H' p' => ⟨n - (i + 1), by omega, rfl, hlt, p'⟩, fun x H' y => ?_⟩
    obtain ⟨e, y⟩ := y
    subst e y
    exact hs i σ _ hlt p
  · have e : i = n := by omega
    subst e
    exact .inl ⟨Nat.le_refl _, hd σ H p⟩
end L2
namespace L2
open PySem PySem.Spec PyProof.Rows
abbrev R2 := V → V → Hp → VK → Prop
def OpR (X : Cx) (f : Value → Value → Sem Value) (r : R2) : Prop :=
  ∀ (pins : List (Addr × Obj)) (s : Shared) (σ : St) (H : Hp) (x y : V) (v u : Value) (Q : VK), Inv X pins σ H s → RelV x v → RelV y u → r x y H Q →
    wpAny (model X.prog X.w) X.A (f v u) (EP X pins σ Q) X.xe s
def UnR (X : Cx) (f : Value → Sem Value) (r : V → Hp → VK → Prop) : Prop :=
  ∀ (pins : List (Addr × Obj)) (s : Shared) (σ : St) (H : Hp) (x : V) (v : Value) (Q : VK), Inv X pins σ H s → RelV x v → r x H Q →
    wpAny (model X.prog X.w) X.A (f v) (EP X pins σ Q) X.xe s
def CallR (X : Cx) (f : Value) (r : List V → Hp → VK → Prop) : Prop :=
  ∀ (pins : List (Addr × Obj)) (s : Shared) (σ : St) (H : Hp) (xs : List V) (us : List Value) (Q : VK), Inv X pins σ H s → Vals xs us → r xs H Q →
    wpAny (model X.prog X.w) X.A (call f us) (EP X pins σ Q) X.xe s
def TruR (X : Cx) (r : V → Hp → (Bool → Hp → Prop) → Prop) : Prop :=
  ∀ (pins : List (Addr × Obj)) (s : Shared) (σ : St) (H : Hp) (x : V) (v : Value) (Q : Bool → Hp → Prop), Inv X pins σ H s → RelV x v → r x H Q →
    wpAny (model X.prog X.w) X.A (truthy v) (TP X pins σ Q) X.xe s
def tOp (r : R2) (ta tb : TE) : TE := fun σ H Q => ta σ H fun x H1 => tb σ H1 fun y H2 => r x y H2 Q
def tUn (r : V → Hp → VK → Prop) (ta : TE) : TE := fun σ H Q => ta σ H fun x H1 => r x H1 Q
def rI (C : Int → Int → Prop) (g : Int → Int → V) : R2 := fun x y H Q => ∃ i j, x = .int i ∧ y = .int j ∧ C i j ∧ Q (g i j) H
def rI0 (g : Int → Int → V) : R2 := fun x y H Q => ∃ i j, x = .int i ∧ y = .int j ∧ Q (g i j) H
def rU (g : Int → V) : V → Hp → VK → Prop := fun x H Q => ∃ i, x = .int i ∧ Q (g i) H
section
variable {X : Cx} {a b c : Expr} {ta tb tc : TE} {pos : Pos}
theorem binT (ha : PE X a ta) (hb : PE X b tb) {pins : List (Addr × Obj)} {s : Shared} {σ : St} {H : Hp} {R : V → V → Hp → Prop} (I : Inv X pins σ H s)
    (h : ta σ H fun x H1 => tb σ H1 fun y H2 => R x y H2) {Q : Value → Shared → Prop} {f : Value → Value → Sem Value}
    (hf : ∀ v u s2 x y H2, Inv X pins σ H2 s2 → RelV x v → RelV y u → R x y H2 → wpAny (model X.prog X.w) X.A (f v u) Q X.xe s2) :
    wpAny (model X.prog X.w) X.A (eval a X.env) (fun v s₁ => wpAny (model X.prog X.w) X.A (eval b X.env) (fun u s₂ => wpAny (model X.prog X.w) X.A (f v u) Q X.xe s₂) X.xe s₁) X.xe s := by
  refine thn (ha pins s σ H _ I h) fun v s1 ⟨x, H1, I1, r1, q1⟩ => ?_
  refine thn (hb pins s1 σ H1 _ I1 q1) fun u s2 ⟨y, H2, I2, r2, q2⟩ => ?_
  exact hf v u s2 x y H2 I2 r1 r2 q2
theorem pe_op {op : Operator} {r : R2} (ho : OpR X (binaryOp op) r) (ha : PE X a ta) (hb : PE X b tb) : PE X (.BinOp a op b pos) (tOp r ta tb) := by
  intro pins s σ H Q I h
  exact wpAny_BinOp (binT ha hb I h fun v u s2 x y H2 I2 rx ry q => ho pins s2 σ H2 x y v u Q I2 rx ry q)
theorem pe_un {op : UnaryOp} {r : V → Hp → VK → Prop} (ho : UnR X (unaryOp op) r) (ha : PE X a ta) : PE X (.UnaryOp op a pos) (tUn r ta) := by
  intro pins s σ H Q I h
  exact UnaryOp_ (thn (ha pins s σ H _ I h) fun v s1 ⟨x, H1, I1, r1, q1⟩ => ho pins s1 σ H1 x v Q I1 r1 q1)
theorem opI {f : Value → Value → Sem Value} {C : Int → Int → Prop} {g : Int → Int → Int}
    (rule : ∀ (i j : Int) (t u : Tok) (s : Shared) (Q : Value → Shared → Prop) (E : Value → Shared → Prop), C i j → Q (.int (g i j) s.toks) { s with toks := s.toks + 1 } → wpAny (model X.prog X.w) X.A (f (.int i t) (.int j u)) Q E s) :
    OpR X f (rI C fun i j => .int (g i j)) := by
  intro pins s σ H x y v u Q I rx ry h
  obtain ⟨i, j, rfl, rfl, hc, q⟩ := h
  obtain ⟨t, rfl⟩ := rx
  obtain ⟨t', rfl⟩ := ry
  exact rule i j t t' s _ _ hc ⟨.int (g i j), H, I.tok _, ⟨_, rfl⟩, q⟩
theorem opI0 {f : Value → Value → Sem Value} {g : Int → Int → Int}
    (rule : ∀ (i j : Int) (t u : Tok) (s : Shared) (Q : Value → Shared → Prop) (E : Value → Shared → Prop), Q (.int (g i j) s.toks) { s with toks := s.toks + 1 } → wpAny (model X.prog X.w) X.A (f (.int i t) (.int j u)) Q E s) :
    OpR X f (rI0 fun i j => .int (g i j)) := by
  intro pins s σ H x y v u Q I rx ry h
  obtain ⟨i, j, rfl, rfl, q⟩ := h
  obtain ⟨t, rfl⟩ := rx
  obtain ⟨t', rfl⟩ := ry
  exact rule i j t t' s _ _ ⟨.int (g i j), H, I.tok _, ⟨_, rfl⟩, q⟩
theorem opB0 {f : Value → Value → Sem Value} {g : Int → Int → Bool}
    (rule : ∀ (i j : Int) (t u : Tok) (s : Shared) (Q : Value → Shared → Prop) (E : Value → Shared → Prop), Q (.bool (g i j)) s → wpAny (model X.prog X.w) X.A (f (.int i t) (.int j u)) Q E s) :
    OpR X f (rI0 fun i j => .bl (g i j)) := by
  intro pins s σ H x y v u Q I rx ry h
  obtain ⟨i, j, rfl, rfl, q⟩ := h
  obtain ⟨t, rfl⟩ := rx
  obtain ⟨t', rfl⟩ := ry
  exact rule i j t t' s _ _ ⟨.bl (g i j), H, I, rfl, q⟩
def CDiv (i j : Int) : Prop := 0 < j ∧ j < 1073741824
def CMul (i j : Int) : Prop := (-(2 ^ 64) < i ∧ i < 2 ^ 64) ∨ (-(2 ^ 64) < j ∧ j < 2 ^ 64)
theorem CMul.ok {i j : Int} (h : CMul i j) : IntMulOk i j := by
  rcases h with ⟨h1, h2⟩ | ⟨h1, h2⟩
  · exact .of_left (intBits_le_64 h1 h2)
  · exact .of_right (intBits_le_64 h1 h2)
theorem op_add : OpR X (binaryOp .Add) (rI0 fun i j => .int (i + j)) := opI0 fun _ _ _ _ _ _ _ q => add_int q
theorem op_mul : OpR X (binaryOp .Mult) (rI CMul fun i j => .int (i * j)) := opI fun _ _ _ _ _ _ _ hc q => mul_int q hc.ok
theorem op_fdiv : OpR X (binaryOp .FloorDiv) (rI CDiv fun i j => .int (i / j)) := opI fun i j _ _ _ _ _ hc q => by
  have h1 : (0 : Int) < j := hc.1
  have h2 : j < 1073741824 := hc.2
  exact floordiv_int (by omega) (by rw [Int.fdiv_eq_ediv_of_nonneg i (by omega)]; exact q) (.inl (PyProof.noPylong_small (by omega)))
theorem op_mod : OpR X (binaryOp .Mod) (rI (fun _ j => 0 < j) fun i j => .int (i % j)) := opI fun i j _ _ _ _ _ hc q => by
  have h1 : (0 : Int) < j := hc
  exact mod_int' (by omega) (by rw [Int.fmod_eq_emod_of_nonneg i (by omega)]; exact q)
theorem unI {f : Value → Sem Value} {g : Int → Int}
    (rule : ∀ (i : Int) (t : Tok) (s : Shared) (Q : Value → Shared → Prop) (E : Value → Shared → Prop), Q (.int (g i) s.toks) { s with toks := s.toks + 1 } → wpAny (model X.prog X.w) X.A (f (.int i t)) Q E s) :
    UnR X f (rU fun i => .int (g i)) := by
  intro pins s σ H x v Q I rx h
  obtain ⟨i, rfl, q⟩ := h
  obtain ⟨t, rfl⟩ := rx
  exact rule i t s _ _ ⟨.int (g i), H, I.tok _, ⟨_, rfl⟩, q⟩
theorem un_neg : UnR X (unaryOp .USub) (rU fun i => .int (-i)) := unI fun _ _ _ _ _ q => neg_int q
end
def scal : V → V → Bool
  | .non, .non => true | .non, .int _ => true | .int _, .non => true | .non, .bl _ => true | .bl _, .non => true | .non, .str _ => true | .str _, .non => true
  | .int _, .int _ => true | .bl _, .bl _ => true | .str _, .str _ => true | .byt _, .byt _ => true
  | .int _, .str _ => true | .str _, .int _ => true | .bl _, .str _ => true | .str _, .bl _ => true
  | _, _ => false
def rEq : R2 := fun x y H Q => scal x y = true ∧ Q (.bl (decide (x = y))) H
def rNe : R2 := fun x y H Q => scal x y = true ∧ Q (.bl (!decide (x = y))) H
theorem dec_int {i j : Int} : decide (V.int i = V.int j) = (i == j) := by
  rw [Bool.eq_iff_iff]
  simp
theorem dec_bl {i j : Bool} : decide (V.bl i = V.bl j) = (i == j) := by
  rw [Bool.eq_iff_iff]
  simp
theorem dec_str {i j : Str} : decide (V.str i = V.str j) = (i == j) := by
  rw [Bool.eq_iff_iff]
  simp
theorem dec_byt {i j : Array UInt8} : decide (V.byt i = V.byt j) = (i.toList == j.toList) := by
  rw [Bool.eq_iff_iff]
  cases i
  cases j
  simp
section
variable {X : Cx} {a b c : Expr} {ta tb tc : TE} {pos : Pos}
theorem fin_bl {pins : List (Addr × Obj)} {σ : St} {H : Hp} {s : Shared} {Q : VK} {k k' : Bool} (I : Inv X pins σ H s) (q : Q (.bl k) H) (e : k = k') : EP X pins σ Q (.bool k') s := by
  subst e
  exact ⟨.bl k, H, I, rfl, q⟩
theorem op_eq : OpR X (compareOp .Eq) rEq := by
  intro pins s σ H x y v u Q I rx ry h
  obtain ⟨hs, q⟩ := h
  cases x with
  | non =>
    cases rx
    cases y with
    | non => cases ry; exact PySem.EqNone.eq_none_none (fin_bl I q (by simp))
    | bl j => cases ry; exact PySem.EqNone.eq_none_bool (fin_bl I q (by simp))
    | int j => obtain ⟨t', rfl⟩ := ry; exact PySem.EqNone.eq_none_int (fin_bl I q (by simp))
    | str j => obtain ⟨t', rfl⟩ := ry; exact PySem.EqNone.eq_none_str (fin_bl I q (by simp))
    | _ => exact absurd (show false = true from hs) Bool.false_ne_true
  | bl i =>
    cases rx
    cases y with
    | non => cases ry; exact PySem.EqNone.eq_bool_none (fin_bl I q (by simp))
    | bl j => cases ry; exact eq_bool (fin_bl I q dec_bl)
    | str j => obtain ⟨t', rfl⟩ := ry; exact PySem.EqMixed.eq_bool_str (fin_bl I q (by simp))
    | _ => exact absurd (show false = true from hs) Bool.false_ne_true
  | int i =>
    obtain ⟨t, rfl⟩ := rx
    cases y with
    | non => cases ry; exact PySem.EqNone.eq_int_none (fin_bl I q (by simp))
    | int j => obtain ⟨t', rfl⟩ := ry; exact eq_int (fin_bl I q dec_int)
    | str j => obtain ⟨t', rfl⟩ := ry; exact PySem.EqMixed.eq_int_str (fin_bl I q (by simp))
    | _ => exact absurd (show false = true from hs) Bool.false_ne_true
  | str i =>
    obtain ⟨t, rfl⟩ := rx
    cases y with
    | non => cases ry; exact PySem.EqNone.eq_str_none (fin_bl I q (by simp))
    | bl j => cases ry; exact PySem.EqMixed.eq_str_bool (fin_bl I q (by simp))
    | int j => obtain ⟨t', rfl⟩ := ry; exact PySem.EqMixed.eq_str_int (fin_bl I q (by simp))
    | str j => obtain ⟨t', rfl⟩ := ry; exact eq_str (fin_bl I q dec_str)
    | _ => exact absurd (show false = true from hs) Bool.false_ne_true
  | byt i =>
    obtain ⟨t, rfl⟩ := rx
    cases y with
    | byt j => obtain ⟨t', rfl⟩ := ry; exact PySem.W.eq_bytes (fin_bl I q dec_byt)
    | _ => exact absurd (show false = true from hs) Bool.false_ne_true
  | _ => cases y <;> exact absurd (show false = true from hs) Bool.false_ne_true
theorem op_ne : OpR X (compareOp .NotEq) rNe := by
  intro pins s σ H x y v u Q I rx ry h
  obtain ⟨hs, q⟩ := h
  cases x with
  | non =>
    cases rx
    cases y with
    | non => cases ry; exact PySem.EqNone.ne_none_none (fin_bl I q (by simp))
    | bl j => cases ry; exact PySem.EqNone.ne_none_bool (fin_bl I q (by simp))
    | int j => obtain ⟨t', rfl⟩ := ry; exact PySem.EqNone.ne_none_int (fin_bl I q (by simp))
    | str j => obtain ⟨t', rfl⟩ := ry; exact PySem.EqNone.ne_none_str (fin_bl I q (by simp))
    | _ => exact absurd (show false = true from hs) Bool.false_ne_true
  | bl i =>
    cases rx
    cases y with
    | non => cases ry; exact PySem.EqNone.ne_bool_none (fin_bl I q (by simp))
    | bl j => cases ry; exact ne_bool (fin_bl I q (congrArg not dec_bl))
    | str j => obtain ⟨t', rfl⟩ := ry; exact PySem.EqMixed.ne_bool_str (fin_bl I q (by simp))
    | _ => exact absurd (show false = true from hs) Bool.false_ne_true
  | int i =>
    obtain ⟨t, rfl⟩ := rx
    cases y with
    | non => cases ry; exact PySem.EqNone.ne_int_none (fin_bl I q (by simp))
    | int j => obtain ⟨t', rfl⟩ := ry; exact ne_int (fin_bl I q (congrArg not dec_int))
    | str j => obtain ⟨t', rfl⟩ := ry; exact PySem.EqMixed.ne_int_str (fin_bl I q (by simp))
    | _ => exact absurd (show false = true from hs) Bool.false_ne_true
  | str i =>
    obtain ⟨t, rfl⟩ := rx
    cases y with
    | non => cases ry; exact PySem.EqNone.ne_str_none (fin_bl I q (by simp))
    | bl j => cases ry; exact PySem.EqMixed.ne_str_bool (fin_bl I q (by simp))
    | int j => obtain ⟨t', rfl⟩ := ry; exact PySem.EqMixed.ne_str_int (fin_bl I q (by simp))
    | str j => obtain ⟨t', rfl⟩ := ry; exact ne_str (fin_bl I q (congrArg not dec_str))
    | _ => exact absurd (show false = true from hs) Bool.false_ne_true
  | byt i =>
    obtain ⟨t, rfl⟩ := rx
    cases y with
    | byt j => obtain ⟨t', rfl⟩ := ry; exact PySem.W.ne_bytes (fin_bl I q (congrArg not dec_byt))
    | _ => exact absurd (show false = true from hs) Bool.false_ne_true
  | _ => cases y <;> exact absurd (show false = true from hs) Bool.false_ne_true
theorem op_le : OpR X (compareOp .LtE) (rI0 fun i j => .bl (decide (i ≤ j))) := opB0 fun _ _ _ _ _ _ _ q => le_int q
theorem op_gt : OpR X (compareOp .Gt) (rI0 fun i j => .bl (decide (j < i))) := opB0 fun _ _ _ _ _ _ _ q => gt_int q
theorem op_in_str : OpR X (compareOp .In) (fun x y H Q => ∃ i j, x = .str i ∧ y = .str j ∧ Q (.bl (!(Builtin.Str.occurrences j i 0 j.length 1).isEmpty)) H) := by
  intro pins s σ H x y v u Q I rx ry h
  obtain ⟨i, j, rfl, rfl, q⟩ := h
  obtain ⟨t, rfl⟩ := rx
  obtain ⟨t', rfl⟩ := ry
  exact in_str (fin_bl I q rfl)
theorem OpR.or {f : Value → Value → Sem Value} {r r' : R2} (h : OpR X f r) (h' : OpR X f r') : OpR X f (fun x y H Q => r x y H Q ∨ r' x y H Q) := by
  intro pins s σ H x y v u Q I rx ry q
  rcases q with q | q
  · exact h pins s σ H x y v u Q I rx ry q
  · exact h' pins s σ H x y v u Q I rx ry q
theorem nomark (b : Expr) {op : CmpOp} (h : op ≠ .In := by decide) (h2 : op ≠ .NotIn := by decide) : behindInMarks op b = false := by
  have e1 : (op == CmpOp.In) = false := by cases op <;> first | rfl | exact absurd rfl h
  have e2 : (op == CmpOp.NotIn) = false := by cases op <;> first | rfl | exact absurd rfl h2
  cases b <;> simp [behindInMarks, e1, e2]
theorem pe_cmpR {op : CmpOp} {r : R2} (ho : OpR X (compareOp op) r) (ha : PE X a ta) (hb : PE X b tb) (hm : behindInMarks op b = false) : PE X (.Compare a [op] [b] pos) (tOp r ta tb) := by
  intro pins s σ H Q I h
  exact wpAny_Compare1 (binT ha hb I h fun v u s2 x y H2 I2 rx ry q => ho pins s2 σ H2 x y v u Q I2 rx ry q) hm
def tTest (t : TE) : TT := fun σ H Q => t σ H fun x H' => ∃ k, x = .bl k ∧ Q k H'
theorem pt_cmpR {op : CmpOp} {r : R2} (ho : OpR X (compareOp op) r) (ha : PE X a ta) (hb : PE X b tb) (hm : behindInMarks op b = false) : PT X (.Compare a [op] [b] pos) (tTest (tOp r ta tb)) := by
  intro pins s σ H Q I h
  refine wpAny_isTrue_Compare1 (thn (ha pins s σ H _ I h) fun v s1 ⟨x, H1, I1, r1, q1⟩ => thn (hb pins s1 σ H1 _ I1 q1) fun u s2 ⟨y, H2, I2, r2, q2⟩ =>
    thn (ho pins s2 σ H2 x y v u _ I2 r1 r2 q2) fun c s3 ⟨z, H3, I3, r3, k, e, q3⟩ => ?_) hm
  subst e
  cases r3
  exact wpAny_truthy_bool ⟨H3, I3, q3⟩
def tChain (r r' : R2) (ta tb tc : TE) : TE := fun σ H Q => ta σ H fun x H1 => tb σ H1 fun y H2 => r x y H2 fun z H3 => ∃ k, z = .bl k ∧
  (if k = true then tc σ H3 fun w' H4 => r' y w' H4 Q else Q (.bl false) H3)
theorem pe_chain {op op' : CmpOp} {r r' : R2} (ho : OpR X (compareOp op) r) (ho' : OpR X (compareOp op') r') (ha : PE X a ta) (hb : PE X b tb) (hc : PE X c tc)
    (hm : lastMarks [op, op'] [b, c] = false := by with_unfolding_all rfl) : PE X (.Compare a [op, op'] [b, c] pos) (tChain r r' ta tb tc) := by
  intro pins s σ H Q I h
  refine Compare_chain (thn (ha pins s σ H _ I h) fun v s1 ⟨x, H1, I1, r1, q1⟩ => chain_link (thn (hb pins s1 σ H1 _ I1 q1) fun u s2 ⟨y, H2, I2, r2, q2⟩ =>
    thn (ho pins s2 σ H2 x y v u _ I2 r1 r2 q2) fun d s3 ⟨z, H3, I3, r3, k, e, q3⟩ => ?_)) hm
  subst e
  cases r3
  refine wpAny_truthy_bool ?_
  cases k with
  | false => exact ite_ff ⟨.bl false, H3, I3, rfl, q3⟩
  | true => exact ite_tt (chain_last (thn (hc pins s3 σ H3 _ I3 q3) fun w' s4 ⟨z', H4, I4, r4, q4⟩ => ho' pins s4 σ H4 y z' u w' Q I4 r2 r4 q4))
theorem pt_chain {op op' : CmpOp} {r r' : R2} (ho : OpR X (compareOp op) r) (ho' : OpR X (compareOp op') r') (ha : PE X a ta) (hb : PE X b tb) (hc : PE X c tc)
    (hm : lastMarks [op, op'] [b, c] = false := by with_unfolding_all rfl) : PT X (.Compare a [op, op'] [b, c] pos) (tTest (tChain r r' ta tb tc)) := by
  intro pins s σ H Q I h
  refine isTrue_chain (thn (ha pins s σ H _ I h) fun v s1 ⟨x, H1, I1, r1, q1⟩ => test_link (thn (hb pins s1 σ H1 _ I1 q1) fun u s2 ⟨y, H2, I2, r2, q2⟩ =>
    thn (ho pins s2 σ H2 x y v u _ I2 r1 r2 q2) fun d s3 ⟨z, H3, I3, r3, k, e, q3⟩ => ?_)) hm
  subst e
  cases r3
  refine wpAny_truthy_bool ?_
  cases k with
  | false =>
    obtain ⟨k', e', q'⟩ := q3
    cases e'
    exact ite_ff ⟨H3, I3, q'⟩
  | true =>
    refine ite_tt (test_last (thn (hc pins s3 σ H3 _ I3 q3) fun w' s4 ⟨z', H4, I4, r4, q4⟩ => thn (ho' pins s4 σ H4 y z' u w' _ I4 r2 r4 q4) fun d' s5 ⟨z2, H5, I5, r5, k2, e2, q5⟩ => ?_))
    subst e2
    cases r5
    exact wpAny_truthy_bool ⟨H5, I5, q5⟩
def TruV (K : PySem.W.Frag) (x : V) (H : Hp) (k : Bool) : Prop :=
  match x with
  | .non => k = false
  | .bl b => k = b
  | .int i => k = (i != 0)
  | .str y => y.length ≤ sizeLine ∧ k = ((y.length : Int) != 0)
  | .byt y => y.size ≤ sizeLine ∧ k = ((y.size : Int) != 0)
  | .ref p => (∃ xs, SqL K H p xs ∧ k = !xs.isEmpty) ∨ (∃ xs, SqT K H p xs ∧ k = !xs.isEmpty) ∨ ∃ kvs, H p = some (.dK kvs) ∧ k = !kvs.isEmpty
  | _ => False
theorem isEmpty_kv {κ : Type} {kvs : List (κ × V)} {vs : List (κ × Value)} (r : KV kvs vs) : (!vs.isEmpty) = !kvs.isEmpty := by
  cases r <;> rfl
theorem isEmpty_of {xs : List V} {its : List Value} (r : Vals xs its) : (!its.toArray.isEmpty) = !xs.isEmpty := by
  cases r <;> simp
theorem line63 : (sizeLine : Nat) < 2 ^ 63 := by rw [sizeLine_eq]; decide
theorem tru_ok : TruR X (fun x H Q => ∃ k, TruV X.K x H k ∧ Q k H) := by
  intro pins s σ H x v Q I rx h
  obtain ⟨k, e, q⟩ := h
  have hl := line63
  have hs : sizeLine = 16777216 := sizeLine_eq
  cases x with
  | non =>
    cases rx
    have e' : k = false := e
    subst e'
    exact truthy_none ⟨H, I, q⟩
  | bl b =>
    cases rx
    have e' : k = b := e
    subst e'
    exact wpAny_truthy_bool ⟨H, I, q⟩
  | int i =>
    obtain ⟨t, rfl⟩ := rx
    have e' : k = (i != 0) := e
    subst e'
    exact PySem.P.truthy_int ⟨H, I, q⟩
  | str y =>
    obtain ⟨t, rfl⟩ := rx
    obtain ⟨hy, e'⟩ : y.length ≤ sizeLine ∧ k = ((y.length : Int) != 0) := e
    subst e'
    exact PySem.P.truthy_str (by omega) ⟨H, I.tok _, q⟩
  | byt y =>
    obtain ⟨t, rfl⟩ := rx
    obtain ⟨hy, e'⟩ : y.size ≤ sizeLine ∧ k = ((y.size : Int) != 0) := e
    subst e'
    exact PySem.W.truthy_bytes (by omega) ⟨H, I.tok _, q⟩
  | ref p =>
    cases rx
    have e' : (∃ xs, SqL X.K H p xs ∧ k = !xs.isEmpty) ∨ (∃ xs, SqT X.K H p xs ∧ k = !xs.isEmpty) ∨ ∃ kvs, H p = some (.dK kvs) ∧ k = !kvs.isEmpty := e
    rcases e' with ⟨xs, hx, e'⟩ | ⟨xs, hx, e'⟩ | ⟨kvs, hx, e'⟩
    · subst e'
      obtain ⟨its, r, pl, hz⟩ := I.list hx
      have hlen := r.length
      exact wpAny_truthy_list pl.isList (by simp only [List.size_toArray]; omega) ⟨H, I.tok _, by rw [isEmpty_of r]; exact q⟩
    · subst e'
      obtain ⟨its, r, pl, hz⟩ := I.tuple hx
      have hlen := r.length
      exact truthy_tuple pl (by simp only [List.size_toArray]; omega) ⟨H, I.tok _, by rw [isEmpty_of r]; exact q⟩
    · subst e'
      obtain ⟨hz, hS, vs, r, m⟩ : kvs.length ≤ sizeLine ∧ (p == sysModules) = false ∧ ∃ vs, KV kvs vs ∧ s.heap.DictOf (mixKind X.prog X.w) p vs := I.hok p _ hx
      have hlen : kvs.length = vs.length := Paired.length r
      exact wpAny_truthy_dict hS m (by omega) ⟨H, I.tok _, by rw [isEmpty_kv r]; exact q⟩
  | _ => exact (show False from e).elim
theorem pt_truth (ha : PE X a ta) (he : ∀ whole, isTrue a X.env whole = (do let v ← whole; standAt a.pos; holding [v] (truthy v))) :
    PT X a (fun σ H Q => ta σ H fun x H' => ∃ k, TruV X.K x H' k ∧ Q k H') := by
  intro pins s σ H Q I h
  exact isTrue_plain (thn (ha pins s σ H _ I h) fun v s1 ⟨x, H1, I1, r1, q1⟩ => tru_ok pins s1 σ H1 x v Q I1 r1 q1) (he _)
theorem op_add_str : OpR X (binaryOp .Add) (fun x y H Q => ∃ i j, x = .str i ∧ y = .str j ∧ i.length + j.length ≤ sizeLine ∧ Q (.str (i ++ j)) H) := by
  intro pins s σ H x y v u Q I rx ry h
  obtain ⟨i, j, rfl, rfl, hz, q⟩ := h
  obtain ⟨t, rfl⟩ := rx
  obtain ⟨t', rfl⟩ := ry
  exact add_str (fun t' tk => ⟨.str (i ++ j), H, I.tok _, ⟨_, rfl⟩, q⟩) hz
theorem vals1 {x : V} {us : List Value} (r : Vals [x] us) : ∃ u, us = [u] ∧ RelV x u := by
  cases r with
  | cons r1 r2 => cases r2; exact ⟨_, rfl, r1⟩
theorem vals2 {x y : V} {us : List Value} (r : Vals [x, y] us) : ∃ u w', us = [u, w'] ∧ RelV x u ∧ RelV y w' := by
  cases r with
  | cons r1 r2 =>
    cases r2 with
    | cons r3 r4 => cases r4; exact ⟨_, _, rfl, r1, r3⟩
end
end L2
namespace L2
open PySem PySem.Spec PyProof.Rows
structure ObjM (h : Heap) (x dx C : Addr) (mA : Str → Option Value) : Prop where
  obj : h.get? x = some (PySem.W.instObj C dx)
  ns : h.Ns1 dx mA
  ne : dx ≠ x
theorem lookIn_ns {h : Heap} {dx : Addr} {mA : Str → Option Value} (n : h.Ns1 dx mA) : ∃ od, h.get? dx = some od ∧ ∀ name, PySem.W.lookIn name od = some (mA name) := by
  obtain ⟨o, es, ep, ho, hd, hk, _, hm⟩ := n
  refine ⟨o, ho, fun name => ?_⟩
  have e := hm name
  unfold nsFind findBy at e
  rw [← Array.find?_toList] at e
  unfold PySem.W.lookIn
  rw [hd]
  dsimp only
  split
  · rename_i y q
    rw [q] at e
    exact congrArg some e
  · rename_i q
    rw [q] at e
    have a : es.toList.any (·.refKey) = false := by
      rw [List.any_eq_false]
      intro y hy
      obtain ⟨z, t, hkey⟩ := hk y (Array.mem_toList_iff.mp hy)
      simp [DictEntry.refKey, hkey]
    have a' : ¬ es.toList.any (·.refKey) = true := by rw [a]; exact Bool.false_ne_true
    rw [if_neg a']
    exact congrArg some e
theorem ObjM.look {h : Heap} {x dx C : Addr} {mA : Str → Option Value} (I : ObjM h x dx C mA) : ∃ od, PySem.W.InstAt h x (PySem.W.instObj C dx) C (some od) ∧ ∀ name, PySem.W.lookIn name od = some (mA name) :=
  let ⟨od, ho, hl⟩ := lookIn_ns I.ns
  ⟨od, ⟨I.obj, rfl, rfl, ho⟩, hl⟩
section
variable {prog : Program} {w : World} {A : Around} {E : Value → Shared → Prop} {s : Shared} {K : PySem.W.Frag} {x dx C f : Addr} {mA : Str → Option Value} {name : Str} {v : Value}
end
section
variable {P : Program} {w : World} {H H' : Hp} {h h' : Heap} {a C dx : Addr} {fs fs' : List (Str × V)}
theorem ins_get (hok : HOk P w H h) (e : H a = some (.ins C dx fs)) : ∃ mA, ObjM h a dx C mA ∧ (∀ f, RelO (fs.lookup f) (mA f)) ∧ PySem.Within mA (fs.map (·.1)) ∧ fs.length ≤ 1000 ∧ H dx = some (.own a) := by
  obtain ⟨d, z, ne, ob, mA, n, r, q⟩ := (show ObjOk P w H h a (.ins C dx fs) from hok a _ e)
  exact ⟨mA, ⟨ob, n, ne⟩, r, q, z, d⟩
end
structure Cls (K : PySem.W.Frag) (C : Addr) : Prop where
  pg : PySem.W.plainGet K C Str.empty = true
  hd : PySem.W.hasDictIn K C = true
  po : PySem.W.plainOver K C = true
  sa : PySem.W.findIn K (.ref C) "__setattr__" = some (some (.builtin "object.__setattr__"))
theorem Cls.get {K : PySem.W.Frag} {C : Addr} (c : Cls K C) (f : Str) : PySem.W.plainGet K C f = true := c.pg
section
variable {X : Cx} {pins : List (Addr × Obj)} {σ : St} {H : Hp} {s : Shared} {a C dx : Addr} {fs : List (Str × V)} {f : Str} {v : V} {A : Around} {E : Value → Shared → Prop}
theorem Inv.made (I : Inv X pins σ H s) : Inv X pins σ (upd (upd H s.heap.objs.size (.own (s.heap.objs.size + 1))) (s.heap.objs.size + 1) (.ins C s.heap.objs.size []))
    { s with heap := (s.heap.push PySem.W.emptyDict).push (PySem.W.instObj C s.heap.objs.size) } := by
  have e1 : (s.heap.push PySem.W.emptyDict).get? s.heap.objs.size = some PySem.W.emptyDict := Heap.get?_push_size s.heap rfl
  have e2 : ((s.heap.push PySem.W.emptyDict).push (PySem.W.instObj C s.heap.objs.size)).get? (s.heap.objs.size + 1) = some (PySem.W.instObj C s.heap.objs.size) := by
    have := Heap.get?_push_size (s.heap.push PySem.W.emptyDict) (o := PySem.W.instObj C s.heap.objs.size) rfl
    rwa [Heap.size_push] at this
  have e3 : (s.heap.push PySem.W.emptyDict).Ns s.heap.objs.size (fun _ => none) := ⟨PySem.W.emptyDict, #[], _, e1, rfl, (fun e he => absurd he (by simp)), fun _ => rfl⟩
  have I1 := I.laid (a := s.heap.objs.size) (o := .own (s.heap.objs.size + 1)) (h' := s.heap.push PySem.W.emptyDict) (t' := s.toks) (fun b u q => Heap.get?_push_of_some _ q) (Nat.le_refl _) ⟨_, e1⟩
  refine I1.laid (a := s.heap.objs.size + 1) (o := .ins C s.heap.objs.size []) (t' := s.toks) (fun b u q => Heap.get?_push_of_some _ q) (Nat.le_of_eq (Heap.size_push _ _)) ?_
  have ne : s.heap.objs.size ≠ s.heap.objs.size + 1 := Nat.ne_of_lt (Nat.lt_succ_self _)
  refine ⟨by rw [upd_ne ne, upd_same], Nat.zero_le _, ne, e2, fun _ => none, (Heap.Ns1.of_empty e3).at fun o q => Heap.get?_push_of_some _ q, fun _ => True.intro, fun y hy => absurd rfl hy⟩
end
section
variable {X : Cx} {o e value : Expr} {f : Str} {pos pos' tpos : Pos} {ta tv : TE}
end
section
variable {X : Cx} {pins : List (Addr × Obj)} {σ : St} {H : Hp} {s : Shared} {A : Around} {E : Value → Shared → Prop} {Q : Value → Shared → Prop} {c : Value} {b : Bool}
inductive TyOf (K : PySem.W.Frag) (H : Hp) : V → Value → Prop where
  | non : TyOf K H .non (.type "NoneType")
  | bl (x : Bool) : TyOf K H (.bl x) (.type "bool")
  | int (i : Int) : TyOf K H (.int i) (.type "int")
  | str (x : Str) : TyOf K H (.str x) (.type "str")
  | flt (x : UInt64) : TyOf K H (.flt x) (.type "float")
  | lst {a : Addr} {xs : List V} (e : H a = some (.lst xs)) : TyOf K H (.ref a) (.type "list")
  | frz {a : Addr} {o : Obj} {xs : List V} (e : H a = some (.frz o (.lst xs))) : TyOf K H (.ref a) (.type "list")
  | tup {a : Addr} {xs : List V} (e : H a = some (.tup xs)) : TyOf K H (.ref a) (.type "tuple")
  | dK {a : Addr} {kvs : List (Key × V)} (e : H a = some (.dK kvs)) : TyOf K H (.ref a) (.type "dict")
  | dT {a : Addr} {kvs : List (List Key × V)} (e : H a = some (.dT kvs)) : TyOf K H (.ref a) (.type "dict")
  | ins {a C dx : Addr} {fs : List (Str × V)} (e : H a = some (.ins C dx fs)) (cl : Cls K C) (ha : PySem.W.findIn K (.ref C) "__class__" = some (some (.builtin "object.__class__")))
      (hn : PySem.W.specialIn K (.builtin "object.__class__") "__get__" = some (some (.builtin "getset_descriptor.__get__"))) (htk : PySem.W.takesIn K (.builtin "object.__class__") = some true)
      (hm : PySem.W.mroIn K C (.type "object") = some true) : TyOf K H (.ref a) (.ref C)
theorem isinst_ok {x : V} {u t : Value} (I : Inv X pins σ H s) (rx : RelV x u) (ty : TyOf X.K H x t) (e : PySem.W.kitOne X.K t c = some b) (h : ∀ tk, Q (.bool b) { s with toks := tk }) :
    wpAny (model X.prog X.w) A (call (.builtin "isinstance") [u, c]) Q E s := by
  cases ty with
  | non => cases (show u = Value.none from rx); exact PySem.W.kia_one PySem.W.kitx_none I.kIn True.intro e (fun z => nomatch z) h
  | bl y => cases (show u = Value.bool y from rx); exact PySem.W.kia_one PySem.W.kitx_bool I.kIn True.intro e (fun z => nomatch z) h
  | int i => obtain ⟨t, q⟩ := (show ∃ t, u = Value.int i t from rx); cases q; exact PySem.W.kia_one PySem.W.kitx_int I.kIn True.intro e (fun z => nomatch z) h
  | str y => obtain ⟨t, q⟩ := (show ∃ t, u = Value.str y t from rx); cases q; exact PySem.W.kia_one PySem.W.kitx_str I.kIn True.intro e (fun z => nomatch z) h
  | flt y => obtain ⟨t, q⟩ := (show ∃ t, u = Value.float y t from rx); cases q; exact PySem.W.kia_one PySem.W.kitx_float I.kIn True.intro e (fun z => nomatch z) h
  | @lst a xs ea =>
    cases (show u = Value.ref a from rx)
    obtain ⟨_, _, n, _, h1⟩ := (show ObjOk X.prog X.w H s.heap a (.lst xs) from I.hok a _ ea)
    exact PySem.W.kia_one PySem.W.kitx_list I.kIn ⟨_, h1, rfl⟩ e (fun z => nomatch z) h
  | @frz a ob xs ea =>
    cases (show u = Value.ref a from rx)
    obtain ⟨_, _, _, n, _, h1⟩ := (show ObjOk X.prog X.w H s.heap a (.frz ob (.lst xs)) from I.hok a _ ea)
    exact PySem.W.kia_one PySem.W.kitx_list I.kIn ⟨_, h1, rfl⟩ e (fun z => nomatch z) h
  | @tup a xs ea =>
    cases (show u = Value.ref a from rx)
    obtain ⟨_, _, _, p, _⟩ := (show ObjOk X.prog X.w H s.heap a (.tup xs) from I.hok a _ ea)
    obtain ⟨o, h1, h2, _⟩ := p
    exact PySem.W.kia_one PySem.W.kitx_tuple I.kIn ⟨o, h1, h2⟩ e (fun z => nomatch z) h
  | @dK a kvs ea =>
    cases (show u = Value.ref a from rx)
    obtain ⟨_, _, vs, _, p⟩ := (show ObjOk X.prog X.w H s.heap a (.dK kvs) from I.hok a _ ea)
    obtain ⟨o, es, ep, h1, h2, _⟩ := p
    exact PySem.W.kia_one PySem.W.kitx_dict I.kIn ⟨o, h1, h2.1⟩ e (fun z => nomatch z) h
  | @dT a kvs ea =>
    cases (show u = Value.ref a from rx)
    obtain ⟨_, _, xs, _, o, es, ep, h1, h2, _⟩ := (show ObjOk X.prog X.w H s.heap a (.dT kvs) from I.hok a _ ea)
    exact PySem.W.kia_one PySem.W.kitx_dict I.kIn ⟨o, h1, h2.1⟩ e (fun z => nomatch z) h
  | @ins a C dx fs ea cl ha hn htk hm =>
    cases (show u = Value.ref a from rx)
    obtain ⟨mA, O, _⟩ := ins_get I.hok ea
    obtain ⟨od, J, _⟩ := O.look
    exact PySem.W.kia_one (PySem.W.kitx_own (cl.get _) cl.hd ha hn htk hm) I.kIn J e (fun z => nomatch z) h
end
end L2
namespace L2
open PySem PySem.Spec PyProof.Rows
structure Room (k : Nat) (A : Around) : Prop where
  hd : A.handled = none
  dp : A.depth + 3 * k + 5 < recursionLimit
  un : A.units + 16 * k + 200 < cLine
theorem Room.mono {j k : Nat} {A : Around} (r : Room k A) (h : j ≤ k) : Room j A := ⟨r.hd, by have := r.dp; omega, by have := r.un; omega⟩
theorem Room.deeper {k : Nat} {A : Around} (r : Room (k + 1) A) (env : Env) : Room k (A.deeper env) :=
  ⟨r.hd, by have := r.dp; show A.depth + 1 + 3 * k + 5 < _; omega, by have := r.un; show A.units + 3 + 16 * k + 200 < _; omega⟩
theorem Room.depth {k : Nat} {A : Around} (r : Room k A) : A.depth < recursionLimit := by have := r.dp; omega
theorem Room.units {k : Nat} {A : Around} (r : Room k A) : A.units + 64 < cLine := by have := r.un; omega
def tNil : TA := fun _ H Q => Q [] H
def tCons (ta : TE) (tr : TA) : TA := fun σ H Q => ta σ H fun x H1 => tr σ H1 fun xs H2 => Q (x :: xs) H2
section
variable {X : Cx} {e : Expr} {es : List Expr} {te : TE} {t : TA} {pos : Pos}
theorem pa_nil : PA X [] tNil := fun _ _ _ _ H Q I h => Calls.spliced_nil ⟨[], H, I, .nil, h⟩
theorem pa_cons (ha : PE X e te) (hr : PA X es t) (hs : starEach (e :: es) X.env = (false, eval e X.env) :: starEach es X.env := by rfl) : PA X (e :: es) (tCons te t) := by
  intro pos pins s σ H Q I h
  rw [hs]
  show wpAny _ _ (spliced ((false, eval e X.env) :: backTo pos (starEach es X.env))) _ _ s
  refine Calls.spliced_cons (thn (ha pins s σ H _ I h) fun u s1 ⟨x, H1, I1, r1, q1⟩ => ?_)
  exact thn (hr pos pins s1 σ H1 _ I1 q1) fun us s2 ⟨xs, H2, I2, r2, q2⟩ => ⟨x :: xs, H2, I2, .cons r1 r2, q2⟩
def tTup (t : TA) : TE := fun σ H Q => t σ H fun xs H1 => xs.length ≤ sizeLine ∧ ∀ p, H1 p = none → Q (.ref p) (upd H1 p (.tup xs))
def tLst (t : TA) : TE := fun σ H Q => t σ H fun xs H1 => xs.length ≤ sizeLine ∧ ∀ p, H1 p = none → Q (.ref p) (upd H1 p (.lst xs))
theorem pe_tup {x1} (h : PA X es t) : PE X (.Tuple es x1 pos) (tTup t) := by
  intro pins s σ H Q I hq
  refine wpAny_Tuple_spliced (thn (h pos pins s σ H _ I hq) fun us s1 ⟨xs, H1, I1, r, z, q⟩ => ⟨by rw [← r.length]; exact z, ?_⟩)
  have hf : H1 s1.heap.objs.size = none := I1.hok.fresh (Nat.le_refl _)
  refine ⟨.ref s1.heap.objs.size, upd H1 s1.heap.objs.size (.tup xs), I1.laid (t' := s1.toks) (fun b u e => Heap.get?_push_of_some _ e) (Nat.le_refl _) ?_, rfl, q _ hf⟩
  exact ⟨z, us, r, ⟨⟨_, Heap.get?_push_size _ rfl, rfl, _, rfl⟩, _, Heap.get?_push_size _ rfl, rfl⟩⟩
theorem pe_lst (h : PA X es t) : PE X (.List es pos) (tLst t) := by
  intro pins s σ H Q I hq
  refine wpAny_List_spliced (thn (h pos pins s σ H _ I hq) fun us s1 ⟨xs, H1, I1, r, z, q⟩ => ⟨by rw [← r.length]; exact z, ?_⟩)
  have hf : H1 s1.heap.objs.size = none := I1.hok.fresh (Nat.le_refl _)
  refine ⟨.ref s1.heap.objs.size, upd H1 s1.heap.objs.size (.lst xs), I1.laid (t' := s1.toks) (fun b u e => Heap.get?_push_of_some _ e) (Nat.le_refl _) ?_, rfl, q _ hf⟩
  exact ⟨z, us, 0, r, Heap.get?_push_size _ rfl⟩
end
abbrev Sp := List V → Hp → VK → XK → Prop
abbrev CXT := List Env → Hp → Shared → XK → Value → Shared → Prop
structure Env0 (P : Program) (w : World) (K : PySem.W.Frag) (mg : Str → Option Value) (base : Heap) (A : Around) (outer : List Env) (s : Shared) (H : Hp) : Prop where
  frames : A.frames = some outer
  mod : Mod K mg base
  bs : ∀ b o, base.get? b = some o → s.heap.get? b = some o ∧ H b = none
  bsz : base.objs.size ≤ s.heap.objs.size
  funs : s.heap.FunFrames base outer
  frf : ∀ b ∈ frs outer, H b = none
  hok : HOk P w H s.heap
  bare : AllBare s.gens
def CE (outer : List Env) (P : Program) (w : World) (H : Hp) (s : Shared) (Q : VK) (u : Value) (s' : Shared) : Prop :=
  ∃ v H', s'.os = s.os ∧ AllBare s'.gens ∧ Un (frs outer) [] H H' s.heap s'.heap ∧ HOk P w H' s'.heap ∧ RelV v u ∧ Q v H'
def CR (CX : CXT) (outer : List Env) (P : Program) (w : World) (H : Hp) (s : Shared) (Q : VK) (E : XK) (r : Result) (s' : Shared) : Prop :=
  match r with
  | .ok (.ret u) => CE outer P w H s Q u s'
  | .ok _ => False
  | .error e => CX outer H s E e s'
structure FnOk (P : Program) (w : World) (K : PySem.W.Frag) (mg : Str → Option Value) (base : Heap) (CX : CXT) (k : Nat) (f : Addr) (fd : FuncData) (ps : List Str) (sp : Sp) : Prop where
  len : ∀ vs H Q E, sp vs H Q E → vs.length = ps.length
  run : ∀ (A : Around) (outer : List Env) (s : Shared) (H : Hp) (args : Args) (us : List Value) (vs : List V) (Q : VK) (E : XK), Room k A → Env0 P w K mg base A outer s H → BindsTo s fd args (ps.zip us) → Vals vs us → sp vs H Q E →
    codeAny (model P w) A (.call (.ref f) args) (CR CX outer P w H s Q E) s
theorem FnOk.mono {P : Program} {w : World} {K : PySem.W.Frag} {mg : Str → Option Value} {base : Heap} {CX : CXT} {j k : Nat} {f : Addr} {fd : FuncData} {ps : List Str} {sp : Sp} (F : FnOk P w K mg base CX j f fd ps sp) (h : j ≤ k) :
    FnOk P w K mg base CX k f fd ps sp := ⟨F.len, fun A outer s H args us vs Q E hr => F.run A outer s H args us vs Q E (hr.mono h)⟩
theorem FnOk.imp {P : Program} {w : World} {K : PySem.W.Frag} {mg : Str → Option Value} {base : Heap} {CX : CXT} {k : Nat} {f : Addr} {fd : FuncData} {ps : List Str} {sp sp' : Sp} (F : FnOk P w K mg base CX k f fd ps sp)
    (h : ∀ vs H Q E, sp' vs H Q E → sp vs H Q E) : FnOk P w K mg base CX k f fd ps sp' :=
  ⟨fun vs H Q E q => F.len vs H Q E (h _ _ _ _ q), fun A outer s H args us vs Q E hr he hb hv hs => F.run A outer s H args us vs Q E hr he hb hv (h _ _ _ _ hs)⟩
section
variable {X : Cx} {pins : List (Addr × Obj)} {σ : St} {H : Hp} {s s' : Shared}
theorem Inv.env0 (I : Inv X pins σ H s) : Env0 X.prog X.w X.K X.mg X.base X.A X.stack s H :=
  ⟨I.ok.frames, I.ok.mod, I.bs, Nat.le_trans I.ok.bsz I.sz, I.stack, I.stkFree, I.hok, I.bare⟩
theorem Inv.after {Q : VK} {u : Value} (I : Inv X pins σ H s) (h : CE X.stack X.prog X.w H s Q u s') : EP X pins σ Q u s' := by
  obtain ⟨v, H', os, bare, un, hok, r, q⟩ := h
  obtain ⟨hh, g, d, t, os'⟩ := s'
  obtain rfl : os' = s.os := os
  exact ⟨v, H', I.call (h' := hh) (g' := g) (d' := d) (t' := t) (ch := []) un hok bare (fun b z => absurd z (by simp)), r, q⟩
end
def tCall (sp : Sp) (dvs : List V) (E : XK) (t : TA) : TE := fun σ H Q => t σ H fun vs H1 => sp (vs ++ dvs) H1 Q E
def Binds (K : PySem.W.Frag) (fd : FuncData) (ps : List Str) (ds : List Value) : Prop :=
  ∀ (s : Shared) (us : List Value), K.In s.heap → (us ++ ds).length = ps.length → BindsTo s fd ⟨us, []⟩ (ps.zip (us ++ ds))
theorem Binds.all {K : PySem.W.Frag} {fd : FuncData} {ps : List Str} (h : ∀ us : List Value, us.length = ps.length → bindArgs fd ⟨us, []⟩ = pure (ps.zip us)) : Binds K fd ps [] := fun s us _ hl => by
  rw [List.append_nil] at hl ⊢
  exact .of_eq (h us hl)
def Passes (CX : CXT) (X : Cx) (E : XK) : Prop := ∀ (pins : List (Addr × Obj)) (σ : St) (H : Hp) (s : Shared) (e : Value) (s' : Shared), Inv X pins σ H s → CX X.stack H s E e s' → X.xe e s'
section
variable {X : Cx} {CX : CXT} {k : Nat} {f C : Addr} {fd : FuncData} {ps : List Str} {sp : Sp} {dvs : List V} {ds : List Value} {E : XK} {x m : Str} {p pos apos : Pos} {e o : Expr} {es : List Expr} {ta : TE} {t : TA}
theorem run_fn {pins : List (Addr × Obj)} {σ : St} {H : Hp} {s : Shared} {Q : VK} {us : List Value} {vs : List V} (F : FnOk X.prog X.w X.K X.mg X.base CX k f fd ps sp) (hr : Room k X.A) (hb : Binds X.K fd ps ds) (hd : Vals dvs ds) (hx : Passes CX X E)
    (I : Inv X pins σ H s) (r : Vals vs us) (h : sp (vs ++ dvs) H Q E) : wpAny (model X.prog X.w) X.A (call (.ref f) us) (EP X pins σ Q) X.xe s := by
  have r2 : Vals (vs ++ dvs) (us ++ ds) := r.append hd
  have hl : (us ++ ds).length = ps.length := by rw [← r2.length]; exact F.len _ _ _ _ h
  refine wpAny_call (codeAny_mono (F.run X.A X.stack s H ⟨us, []⟩ (us ++ ds) (vs ++ dvs) Q E hr I.env0 (hb s us I.kIn hl) r2 h) fun r s' hq => ?_)
  cases r with
  | error e => exact hx pins σ H s e s' I hq
  | ok fl =>
    cases fl with
    | ret u => exact I.after hq
    | next => exact False.elim hq
    | brk => exact False.elim hq
    | cont => exact False.elim hq
theorem pe_call (F : FnOk X.prog X.w X.K X.mg X.base CX k f fd ps sp) (hr : Room k X.A) (hg : Gl X x) (hm : X.mg x = some (.ref f)) (hk : PySem.W.keepIn X.K (.ref f) = true) (hb : Binds X.K fd ps ds) (hd : Vals dvs ds) (hx : Passes CX X E)
    (ha : PA X (e :: es) t) (hdb : (x == ("__debug__" : Str)) = false := by decide) (he : starEach (e :: es) X.env = (false, eval e X.env) :: starEach es X.env := by rfl) (hpl : (backTo pos (starEach es X.env)).any (·.1) = false := by rfl) :
    PE X (.Call (.Name x p) (e :: es) [] pos) (tCall sp dvs E t) := by
  intro pins s σ H Q I h
  refine wpAny_Call_Name_kw (ld_glob I hg hm ?_ hdb)
  refine PySem.W.callWith_K (h₀ := X.base) I.ok.mod.kin hk (thn (ha pos pins s σ H _ I h) fun us s1 ⟨vs, H1, I1, r, q⟩ => ⟨I1.kIn, ?_⟩) he hpl
  exact run_fn F hr hb hd hx I1 r q
end
section
variable {X : Cx} {CX : CXT} {k : Nat} {f C : Addr} {fd : FuncData} {ps ks : List Str} {sp : Sp} {E : XK} {x m : Str} {p pos apos kpos : Pos} {e o : Expr} {es : List Expr} {kws : List Keyword} {te ta : TE} {t tk : TA} {nm : Option Str}
variable {g : List Value → List Value → List Value} {gV : List V → List V → List V}
end
structure FnScope (N P : List Str) (sc : Scope) : Prop where
  kind : sc.kind = .function
  co : sc.isCoroutine = false
  gen : sc.isGenerator = false
  nd : N.Nodup
  pre : N.take P.length = P
  par : ∀ x ∈ P, sc.names.lookup x = some .local ∨ sc.names.lookup x = some .cell
  nofree : ∀ y ∈ sc.names, y.2 ≠ .free
theorem bindL_out {kindOf : Str → Option NameKind} {x : Str} : ∀ {binds : List (Str × Value)} {m : Str → Option Value}, (∀ v, (x, v) ∉ binds) → bindL kindOf binds m x = m x
  | [], _, _ => rfl
  | (n, v) :: r, m, h => by
    unfold bindL
    rw [bindL_out fun w hw => h w (List.mem_cons_of_mem _ hw)]
    split
    · have : x ≠ n := by rintro rfl; exact h v List.mem_cons_self
      simp [this]
    · rfl
theorem bindC_out {kindOf : Str → Option NameKind} {x : Str} : ∀ {binds : List (Str × Value)} {m : Str → Option Value}, (∀ v, (x, v) ∉ binds) → bindC kindOf binds m x = m x
  | [], _, _ => rfl
  | (n, v) :: r, m, h => by
    unfold bindC
    rw [bindC_out fun w hw => h w (List.mem_cons_of_mem _ hw)]
    split
    · rfl
    · have : x ≠ n := by rintro rfl; exact h v List.mem_cons_self
      simp [this]
theorem bindL_get {kindOf : Str → Option NameKind} {x : Str} {v : Value} : ∀ {P : List Str} {vs : List Value} {i : Nat} {m : Str → Option Value}, P.Nodup → P[i]? = some x → vs[i]? = some v → kindOf x = some .local →
    bindL kindOf (P.zip vs) m x = some v
  | [], _, _, _, _, h, _, _ => by simp at h
  | _ :: _, [], _, _, _, _, h, _ => by simp at h
  | p :: P, w :: vs, 0, m, nd, h1, h2, hk => by
    simp at h1 h2; subst h1; subst h2
    show bindL kindOf ((p, w) :: P.zip vs) m p = _
    unfold bindL
    rw [bindL_out fun v hv => (List.nodup_cons.mp nd).1 (List.of_mem_zip hv).1, if_pos hk]
    simp
  | p :: P, w :: vs, i + 1, m, nd, h1, h2, hk => by
    show bindL kindOf ((p, w) :: P.zip vs) m x = _
    unfold bindL
    exact bindL_get (i := i) (List.nodup_cons.mp nd).2 (by simpa using h1) (by simpa using h2) hk
theorem bindC_get {kindOf : Str → Option NameKind} {x : Str} {v : Value} : ∀ {P : List Str} {vs : List Value} {i : Nat} {m : Str → Option Value}, P.Nodup → P[i]? = some x → vs[i]? = some v → kindOf x ≠ some .local →
    bindC kindOf (P.zip vs) m x = some v
  | [], _, _, _, _, h, _, _ => by simp at h
  | _ :: _, [], _, _, _, _, h, _ => by simp at h
  | p :: P, w :: vs, 0, m, nd, h1, h2, hk => by
    simp at h1 h2; subst h1; subst h2
    show bindC kindOf ((p, w) :: P.zip vs) m p = _
    unfold bindC
    rw [bindC_out fun v hv => (List.nodup_cons.mp nd).1 (List.of_mem_zip hv).1, if_neg hk]
    simp
  | p :: P, w :: vs, i + 1, m, nd, h1, h2, hk => by
    show bindC kindOf ((p, w) :: P.zip vs) m x = _
    unfold bindC
    exact bindC_get (i := i) (List.nodup_cons.mp nd).2 (by simpa using h1) (by simpa using h2) hk
def start (N : List Str) (vs : List V) : St := vs.map some ++ List.replicate (N.length - vs.length) none
def cxOf (CX : CXT) (P : Program) (w : World) (K : PySem.W.Frag) (mg : Str → Option Value) (base : Heap) (N : List Str) (qual : Str) (scope : Scope) (f : Addr) (cd : Value) (A : Around) (outer : List Env) (s : Shared) (H : Hp) (E : XK) : Cx where
  prog := P
  w := w
  K := K
  mg := mg
  base := base
  A := A.deeper (envOfC qual scope s.heap.objs.size f cd)
  N := N
  s₀ := s
  H₀ := H
  env := envOfC qual scope s.heap.objs.size f cd
  outer := outer
  stack := envOfC qual scope s.heap.objs.size f cd :: outer
  ex := []
  calm := true
  fn := fun _ => true
  pn := []
  xe := fun e s' => wpAny (model P w) (A.deeper (envOfC qual scope s.heap.objs.size f cd)) (leaving (envOfC qual scope s.heap.objs.size f cd) e) (fun _ s'' => CX outer H s E e s'') (fun e' s'' => CX outer H s E e' s'') s'
theorem cell_has {sc : Scope} {n : Nat} {x : Str} (h : sc.names.lookup x = some .cell) : ∃ c, (cellsFrom n sc.names []).lookup x = some c := by
  have q := PySem.W.cellsFrom_some sc.names n [] (.inl h)
  exact Option.isSome_iff_exists.mp q
theorem inv_start {CX : CXT} {P : Program} {w : World} {K : PySem.W.Frag} {mg : Str → Option Value} {base : Heap} {N ps : List Str} {qual : Str} {scope : Scope} {f : Addr} {cd : Value} {A : Around} {outer : List Env} {s s1 : Shared} {H : Hp} {E : XK} {us : List Value} {vs : List V}
    (S : FnScope N ps scope) (hd : A.handled = none) (e0 : Env0 P w K mg base A outer s H) (hl : vs.length = ps.length) (r : Vals vs us)
    (x : InCallC s s.heap.objs.size (bindL (envOfC qual scope s.heap.objs.size f cd).kindOf (ps.zip us) fun _ => none) (cellsFrom (s.heap.objs.size + 1) scope.names []) (bindC (envOfC qual scope s.heap.objs.size f cd).kindOf (ps.zip us) fun _ => none) s1) :
    Inv (cxOf CX P w K mg base N qual scope f cd A outer s H E) [] (start N vs) H s1 := by
  have hpl : ps.length ≤ N.length := by have := congrArg List.length S.pre; rw [List.length_take] at this; omega
  obtain ⟨h1, tk, rfl, hk⟩ := x.done
  have noA : ∀ b : Addr, b ∉ (cxOf CX P w K mg base N qual scope f cd A outer s H E).ex := fun b z => absurd (show b ∈ ([] : List Addr) from z) (by simp)
  refine ⟨⟨e0.mod, S.kind, rfl, rfl, Nat.le_refl _, fun y z c h1 h2 => ?_, fun y hy => ?_, fun y c _ h => ?_, fun _ => hd, Around.frames_deeper e0.frames, .inr ⟨rfl, rfl⟩, fun b z => absurd z (noA b), e0.bs, e0.bsz, fun b _ _ => noA b, fun b z => absurd z (noA b), e0.funs, e0.frf⟩,
    rfl, e0.bare, Un.kept hk, ⟨_, x.toInCall.ns, fun i y v h1 h2 h3 => ?_⟩, fun y c h => ⟨_, x.cell y c h⟩, e0.hok.fresh (Nat.le_refl _), fun y c h => ?_, fun p hp => absurd (show p ∈ ([] : List (Addr × Obj)) from hp) (by simp), e0.hok.kept hk, ?_⟩
  · exact name_of_addr x.apart (PySem.mem_of_lookup h1) (PySem.mem_of_lookup h2)
  · have hy : scope.names.lookup y = some .cell ∨ scope.names.lookup y = some .free := hy
    rcases hy with hy | hy
    · exact cell_has hy
    · exact absurd rfl (S.nofree _ (PySem.mem_of_lookup hy))
  · exact Nat.le_of_lt (x.above y c (PySem.mem_of_lookup h))
  · have hi : i < vs.length := by
      unfold start at h2
      by_cases hi : i < vs.length
      · exact hi
      · rw [List.getElem?_append_right (by simpa using hi)] at h2
        rw [List.getElem?_replicate] at h2
        split at h2 <;> cases h2
    have ha : vs[i]? = some v := by
      unfold start at h2
      rw [List.getElem?_append_left (by simpa using hi), List.getElem?_map] at h2
      cases e : vs[i]? with
      | none => rw [e] at h2; cases h2
      | some a => rw [e] at h2; cases h2; rfl
    obtain ⟨u, hu, rv⟩ := r.get ha
    have hp : ps[i]? = some y := by
      rw [← S.pre, List.getElem?_take_of_lt (by omega)]; exact h1
    have ndP : ps.Nodup := by rw [← S.pre]; exact S.nd.sublist (List.take_sublist _ _)
    refine ⟨u, rv, ?_⟩
    rcases S.par y (List.mem_of_getElem? hp) with k | k
    · exact .inl ⟨k, bindL_get ndP hp hu k⟩
    · obtain ⟨c, e⟩ := cell_has (n := s.heap.objs.size + 1) k
      refine .inr ⟨.inl k, c, e, ?_⟩
      have q := x.cell y c e
      rw [bindC_get ndP hp hu (by show scope.names.lookup y ≠ _; rw [k]; decide)] at q
      exact q
  · exact e0.hok.fresh (Nat.le_of_lt (x.above y c (PySem.mem_of_lookup h)))
  · unfold start
    show _ = N.length
    rw [List.length_append, List.length_map, List.length_replicate]
    omega
theorem fn_of {CX : CXT} {P : Program} {w : World} {K : PySem.W.Frag} {mg : Str → Option Value} {base : Heap} {k : Nat} {f : Addr} {name qual : Str} {params : Arguments} {body : List Stmt} {scope : Scope} {dV kV doc pm cdv ct oc : Value} {an od : Option Addr}
    {osl : Array (Option Value)} {N ps : List Str} {sp : Sp} (lk : K.lookup f = some ⟨oc, od, .func (PySem.W.fnOf name qual params body scope dV kV doc pm an cdv ct), osl⟩) (hcd : PySem.W.codeIn K cdv qual = true) (S : FnScope N ps scope)
    (len : ∀ vs H Q E, sp vs H Q E → vs.length = ps.length)
    (hbody : ∀ (A : Around) (outer : List Env) (s : Shared) (H : Hp) (vs : List V) (Q : VK) (E : XK), Room k (A.deeper (envOfC qual scope s.heap.objs.size f cdv)) → sp vs H Q E →
      ∃ t, PSs (cxOf CX P w K mg base N qual scope f cdv A outer s H E) body t ∧ t { nx := fun _ H' => Q .non H', rt := Q } (start N vs) H) :
    FnOk P w K mg base CX (k + 1) f (PySem.W.fnOf name qual params body scope dV kV doc pm an cdv ct) ps sp := by
  refine ⟨len, fun A outer s H args us vs Q E hr e0 hb r hsp => ?_⟩
  have hl := len _ _ _ _ hsp
  have KX : K.In s.heap := e0.mod.kin.keeps fun b o e => (e0.bs b o e).1
  have lim : s.heap.NoLimit := e0.mod.nolimit.keeps fun b o e => (e0.bs b o e).1
  have hkind : ∀ y ∈ ps.zip us, scope.names.lookup y.1 = some .local ∨ (scope.names.lookup y.1 = some .cell ∧ ((cellsFrom (s.heap.objs.size + 1) scope.names []).lookup y.1).isSome = true) := fun ⟨n, v⟩ hy => by
    rcases S.par n (List.of_mem_zip hy).1 with q | q
    · exact .inl q
    · exact .inr ⟨q, PySem.W.cellsFrom_some _ _ _ (.inl q)⟩
  refine codeAny_call_function hr.depth (KX _ _ lk) rfl S.co S.gen rfl (PySem.W.codeRec_of KX hcd) (hb _ _ _ _ ?_)
  refine wpAny_newFunctionEnv_cells S.kind hkind fun env he s1 x => ?_
  subst he
  refine ⟨lim.keeps x.toInCall.keep, codeAny_func ?_⟩
  obtain ⟨t, ht, hq⟩ := hbody A outer s H vs Q E (hr.deeper _) hsp
  have I : Inv (cxOf CX P w K mg base N qual scope f cdv A outer s H E) [] (start N vs) H s1 := inv_start S hr.hd e0 hl r x
  refine wpAny_mono (ht [] s1 (start N vs) H _ I hq) (fun fl s' hs => ?_) fun e s' hs => hs
  have fin : ∀ {σ' : St} {H' : Hp} {v : V} {u : Value}, Inv (cxOf CX P w K mg base N qual scope f cdv A outer s H E) [] σ' H' s' → RelV v u → Q v H' → CE outer P w H s Q u s' :=
    fun {σ' H' v u} J rv q => ⟨v, H', J.os, J.bare, J.base, J.hok, rv, q⟩
  cases fl with
  | ret u =>
    obtain ⟨v, σ', H', J, rv, q⟩ := hs
    exact fin J rv q
  | next =>
    obtain ⟨σ', H', J, q⟩ := hs
    exact fin (v := V.non) (u := Value.none) J rfl q
  | brk =>
    obtain ⟨_, _, _, q⟩ := hs
    exact False.elim q
  | cont =>
    obtain ⟨_, _, _, q⟩ := hs
    exact False.elim q
end L2
namespace L2
open PySem PySem.Spec PyProof.Rows
section
variable {X : Cx} {x : Str} {p pos : Pos} {e : Expr} {es : List Expr} {t : TA} {id T : String} {r : List V → Hp → VK → Prop}
def tCB (r : List V → Hp → VK → Prop) (t : TA) : TE := fun σ H Q => t σ H fun vs H1 => r vs H1 Q
theorem pe_callB (hc : CallR X (.builtin id) r) (hg : Gl X x) (hm : X.mg x = none) (hv : bootBuiltins x = some (.builtin id)) (ha : PA X (e :: es) t) (hn : x ≠ "__name__" := by decide) (hdb : (x == ("__debug__" : Str)) = false := by decide)
    (he : starEach (e :: es) X.env = (false, eval e X.env) :: starEach es X.env := by rfl) (hpl : (backTo pos (starEach es X.env)).any (·.1) = false := by rfl) : PE X (.Call (.Name x p) (e :: es) [] pos) (tCB r t) := by
  intro pins s σ H Q I h
  refine wpAny_Call_Name_kw (ld_blt I hg hm hv ?_ hn hdb)
  exact PyProof.Rows.callWith_builtin1 (thn (ha pos pins s σ H _ I h) fun us s1 ⟨vs, H1, I1, r1, q1⟩ => hc pins s1 σ H1 vs us Q I1 r1 q1) he hpl
theorem pe_callTy (hc : CallR X (.type T) r) (hg : Gl X x) (hm : X.mg x = none) (hv : bootBuiltins x = some (.type T)) (ha : PA X (e :: es) t) (hn : x ≠ "__name__" := by decide) (hdb : (x == ("__debug__" : Str)) = false := by decide)
    (he : starEach (e :: es) X.env = (false, eval e X.env) :: starEach es X.env := by rfl) (hpl : (backTo pos (starEach es X.env)).any (·.1) = false := by rfl) : PE X (.Call (.Name x p) (e :: es) [] pos) (tCB r t) := by
  intro pins s σ H Q I h
  refine wpAny_Call_Name_kw (ld_blt I hg hm hv ?_ hn hdb)
  exact PyProof.Rows.callWith_type1 (thn (ha pos pins s σ H _ I h) fun us s1 ⟨vs, H1, I1, r1, q1⟩ => hc pins s1 σ H1 vs us Q I1 r1 q1) he hpl
end
end L2
namespace HT
open PySem PyProof.Rows
section
open PySem.SeqAt
open PySem.AutoSeq1 (wpAny_loadPart')
open PySem.MeetsSeq PySem.MeetsSeq2 PySem.MeetsSeq3
end
section
variable {prog : Program} {w : World} {A : Around} {E : Value → Shared → Prop} {s : Shared}
theorem cat_tup {t b : Addr} {vs ws : List Value} {Q : Value → Shared → Prop} (ht : IsTup s.heap t vs.toArray) (hb : IsTup s.heap b ws.toArray) (hv : vs ≠ [])
    (h1 : ws = [] → Q (.ref t) s) (h2 : ws ≠ [] → Q (.ref s.heap.objs.size) { s with heap := s.heap.push { cls := .type "tuple", data := .seq (vs ++ ws).toArray } })
    (hsz : vs.length + ws.length ≤ sizeLine) : wpAny (model prog w) A (binaryOp .Add (.ref t) (.ref b)) Q E s := by
  obtain ⟨⟨cls, dd, data, sl⟩, ho, hc, n, hd⟩ := id ht
  obtain ⟨⟨cls2, dd2, data2, sl2⟩, ho2, hc2, n2, hd2⟩ := id hb
  simp only at hc hd hc2 hd2
  subst hc hd hc2 hd2
  have e : vs.toArray ++ ws.toArray = (vs ++ ws).toArray := by simp
  by_cases hw : ws = []
  · exact concat_meets ⟨_, ho, rfl⟩ ⟨_, ho2, rfl⟩ noFill_tuple_add seq_tuple_add PySem.F.slot_tuple_add PySem.F.entry_tuple_add (PySem.F.args_tuple_add_2 _ _)
      (tuple_addW1 t b vs.toArray ws.toArray n n2 dd dd2 sl sl2 (by simpa using hv) (by simp [hw])) ⟨ho, ho2, h1 hw⟩
  · refine concat_meets ⟨_, ho, rfl⟩ ⟨_, ho2, rfl⟩ noFill_tuple_add seq_tuple_add PySem.F.slot_tuple_add PySem.F.entry_tuple_add (PySem.F.args_tuple_add_2 _ _)
      (tuple_addW2 t b vs.toArray ws.toArray n n2 dd dd2 sl sl2 (by simpa using hv) (by simpa using hw) (by rw [List.size_toArray, List.size_toArray]; exact hsz)) ⟨ho, ho2, ?_⟩
    rw [e]
    exact h2 hw
def sIx (n d : Nat) : Option Int → Nat
  | none => d
  | some v => if v < 0 then (v + (n : Int)).toNat else min v.toNat n
theorem sIx_nat (n d k : Nat) : sIx n d (some (k : Int)) = min k n := by
  show (if (k : Int) < 0 then ((k : Int) + (n : Int)).toNat else min (k : Int).toNat n) = min k n
  rw [if_neg (by omega), Int.toNat_natCast]
theorem sIx_le (n d : Nat) (hd : d ≤ n) (o : Option Int) : sIx n d o ≤ n := by
  cases o with
  | none => exact hd
  | some v =>
    show (if v < 0 then (v + (n : Int)).toNat else min v.toNat n) ≤ n
    by_cases hv : v < 0
    · rw [if_pos hv]; omega
    · rw [if_neg hv]; exact Nat.min_le_right _ _
theorem clip_eq (v : Int) (n d : Nat) : (if v < 0 then max (v + (n : Int)) 0 else min v (n : Int)) = ((sIx n d (some v) : Nat) : Int) := by
  show (if v < 0 then max (v + (n : Int)) 0 else min v (n : Int)) = (((if v < 0 then (v + (n : Int)).toNat else min v.toNat n) : Nat) : Int)
  by_cases hv : v < 0
  · simp only [if_pos hv]; omega
  · simp only [if_neg hv]; omega
theorem adjust_gen (lo hi : Option Int) (n : Nat) : Builtin.Slice.sliceAdjust lo hi 1 (n : Int) = (((sIx n 0 lo : Nat) : Int), ((sIx n n hi : Nat) : Int)) := by
  have h1 : ¬ ((1 : Int) < 0) := by omega
  unfold Builtin.Slice.sliceAdjust
  simp only [h1, if_false]
  refine Prod.ext ?_ ?_
  · cases lo with
    | none => rfl
    | some v => exact clip_eq v n 0
  · cases hi with
    | none => rfl
    | some v => exact clip_eq v n n
theorem places_gen (i j : Nat) : Builtin.Slice.slicePlaces (i : Int) (j : Int) 1 = j - i := by
  unfold Builtin.Slice.slicePlaces
  have h1 : (1 : Int) > 0 := by omega
  simp only [h1, if_true, Int.ediv_one]
  split <;> omega
theorem slicePart_ {v : Value} {o : Option Int} {Q : Option Int → Shared → Prop} (p : IsPart v o) (h : Q o s) : wpAny (model prog w) A (Builtin.Slice.slicePartIndex v) Q E s := by
  cases p with
  | none => exact slicePart_none h
  | int i t => exact slicePart_int h
theorem sliceApplied_gen {sl : Addr} {vl vu : Value} {lo hi : Option Int} {n : Nat} {Q : Int × Int × Nat → Shared → Prop} (hs : s.heap.IsSliceOf sl vl vu .none) (pl : IsPart vl lo) (pu : IsPart vu hi)
    (h : Q (((sIx n 0 lo : Nat) : Int), 1, sIx n n hi - sIx n 0 lo) s) : wpAny (model prog w) A (Builtin.Slice.sliceApplied (.ref sl) (pure (n : Int))) Q E s := by
  obtain ⟨os, hos, hcs, hds⟩ := id hs
  unfold Builtin.Slice.sliceApplied Builtin.Slice.sliceFields
  refine wpAny_bind (wpAny_bind (wpAny_field hos hds (x := vl) rfl (wpAny_bind (wpAny_field hos hds (x := vu) rfl (wpAny_bind (wpAny_field hos hds (x := .none) rfl (wpAny_pure ?_)))))))
  refine wpAny_bind (slicePart_none ?_)
  show wpAny _ _ (if ((1 : Int) == 0) = true then _ else _) _ _ s
  rw [if_neg (by decide)]
  refine wpAny_bind (slicePart_ pl (wpAny_bind (slicePart_ pu (wpAny_bind (wpAny_pure ?_)))))
  show wpAny _ _ (match Builtin.Slice.sliceAdjust lo hi 1 (n : Int) with | (lo, hi) => pure (lo, (1 : Int), Builtin.Slice.slicePlaces lo hi 1)) _ _ s
  rw [adjust_gen lo hi n]
  show wpAny _ _ (pure (((sIx n 0 lo : Nat) : Int), (1 : Int), Builtin.Slice.slicePlaces ((sIx n 0 lo : Nat) : Int) ((sIx n n hi : Nat) : Int) 1)) _ _ s
  rw [places_gen]
  exact wpAny_pure h
theorem pick_gen (xs : Array Value) (i k : Nat) : ((List.range k).filterMap fun (m : Nat) => xs[((i : Int) + (m : Int) * 1).toNat]?).toArray = ((xs.toList.drop i).take k).toArray := by
  have e : (fun (m : Nat) => xs[((i : Int) + (m : Int) * 1).toNat]?) = fun m => xs[i + m]? := by
    funext m
    have : ((i : Int) + (m : Int) * 1).toNat = i + m := by omega
    rw [this]
  rw [e]
  have := pick_run xs i k
  rw [List.filterMap_map] at this
  have e2 : ((fun x => xs[x]?) ∘ fun x => i + x) = fun m => xs[i + m]? := rfl
  rw [e2] at this
  rw [this]
theorem getItem_tuple_cut {t sl : Addr} {items : Array Value} {vl vu : Value} {lo hi : Option Int} {Q : Value → Shared → Prop} (ht : IsTup s.heap t items) (hs : s.heap.IsSliceOf sl vl vu .none) (pl : IsPart vl lo) (pu : IsPart vu hi)
    (hw : ¬ (sIx items.size 0 lo = 0 ∧ sIx items.size items.size hi = items.size))
    (h : Q (.ref s.heap.objs.size) { s with heap := s.heap.push { cls := .type "tuple", data := .seq ((items.toList.drop (sIx items.size 0 lo)).take (sIx items.size items.size hi - sIx items.size 0 lo)).toArray } })
    (hsz : items.size ≤ sizeLine) : wpAny (model prog w) A (getItem (.ref t) (.ref sl)) Q E s := by
  have htake : sizeOk (.seq ((items.toList.drop (sIx items.size 0 lo)).take (sIx items.size items.size hi - sIx items.size 0 lo)).toArray) := by
    show ((items.toList.drop (sIx items.size 0 lo)).take (sIx items.size items.size hi - sIx items.size 0 lo)).toArray.size ≤ sizeLine
    rw [List.size_toArray, List.length_take, List.length_drop, Array.length_toList]
    omega
  have hj : sIx items.size items.size hi ≤ items.size := sIx_le _ _ (Nat.le_refl _) hi
  obtain ⟨os, hos, hcs, hds⟩ := id hs
  have hTs : s.TypeIs (.ref sl) "slice" := ⟨os, hos, hcs⟩
  unfold getItem
  try with_reducible refine wpAny_holding ?_
  first | refine wpAny_bind (wpAny_pure ?_) | skip
  refine wpAny_bind (wpAny_sequenceKey ht.typeIs (by decide) ?_)
  refine wpAny_bind (wpAny_callSpecial?_slot (name := Str.ofString "__getitem__") ht.typeIs PyProof.Rows.slot_tuple_getitem
    (wpAny_call_entry PyProof.Rows.slot_tuple_getitem ht.typeIs entry_tuple_getitem ?_ (args_tuple_getitem _ _)))
  show wpAny _ _ (Builtin.Tuple.tupleItemsOf (.ref t) >>= _) _ _ s
  refine wpAny_bind (tupleItemsOf_ ht ?_)
  refine wpAny_bind (wpAny_typeOf hTs ?_)
  rw [if_pos (by decide)]
  refine wpAny_bind (sliceApplied_gen hs pl pu ?_)
  have hno : ¬ ((((sIx items.size 0 lo : Nat) : Int) == 0 && (1 : Int) == 1 && (sIx items.size items.size hi - sIx items.size 0 lo) == items.size) = true) := by
    intro q
    rw [Bool.and_eq_true, Bool.and_eq_true] at q
    have q1 : ((sIx items.size 0 lo : Nat) : Int) = 0 := eq_of_beq q.1.1
    have q2 : sIx items.size items.size hi - sIx items.size 0 lo = items.size := eq_of_beq q.2
    exact hw ⟨by omega, by omega⟩
  show wpAny _ _ (if (((sIx items.size 0 lo : Nat) : Int) == 0 && (1 : Int) == 1 && (sIx items.size items.size hi - sIx items.size 0 lo) == items.size) = true then _ else _) _ _ s
  rw [if_neg hno, pick_gen]
  first
    | exact wpAny_bind (m := Builtin.Tuple.tupleExact _) (wpAny_newObj_type (wpAny_pure ⟨_, rfl, wpAny_pure h⟩) htake)
    | exact wpAny_bind (m := Builtin.Tuple.tupleExact _) (wpAny_newObj_type (wpAny_bind (wpAny_pure (wpAny_pure ⟨_, rfl, wpAny_pure h⟩))) htake)
    | exact wpAny_bind (wpAny_bind (m := Builtin.Tuple.tupleExact _) (wpAny_newObj_type (wpAny_pure (wpAny_pure ⟨_, rfl, wpAny_pure h⟩)) htake))
    | exact wpAny_bind (wpAny_bind (m := Builtin.Tuple.tupleExact _) (wpAny_newObj_type (wpAny_pure ⟨_, rfl, wpAny_pure h⟩) htake))
end
end HT
namespace L2
open PySem PySem.Spec PyProof.Rows
abbrev TO := St → Hp → (Option Int → Hp → Prop) → Prop
def PO (X : Cx) (e : Option Expr) (t : TO) : Prop :=
  ∀ (pins : List (Addr × Obj)) (s : Shared) (σ : St) (H : Hp) (Q : Option Int → Hp → Prop), Inv X pins σ H s → t σ H Q →
    wpAny (model X.prog X.w) X.A (evalPart e X.env) (fun u s' => ∃ o H', Inv X pins σ H' s' ∧ IsPart u o ∧ Q o H') X.xe s
def tNoPart : TO := fun _ H Q => Q none H
def tPart (t : TE) : TO := fun σ H Q => t σ H fun x H1 => ∃ i, x = .int i ∧ Q (some i) H1
section
variable {X : Cx} {e : Expr} {te : TE} {lo hi : Option Expr} {tl th : TO} {pos p2 : Pos}
theorem po_none : PO X none tNoPart := by
  intro pins s σ H Q I h
  rw [evalPart_none]
  exact wpAny_pure ⟨none, H, I, .none, h⟩
theorem po_some (h : PE X e te) : PO X (some e) (tPart te) := by
  intro pins s σ H Q I hw
  rw [evalPart_some]
  refine thn (h pins s σ H _ I hw) fun u s1 ⟨x, H1, I1, r1, q1⟩ => ?_
  obtain ⟨i, rfl, q⟩ := q1
  obtain ⟨t, rfl⟩ := r1
  exact ⟨some i, H1, I1, .int i t, q⟩
def SlR (X : Cx) (r : V → Option Int → Option Int → Hp → VK → Prop) : Prop :=
  ∀ (pins : List (Addr × Obj)) (s : Shared) (σ : St) (H : Hp) (x : V) (v vl vu : Value) (lo hi : Option Int) (sl : Addr) (Q : VK), Inv X pins σ H s → RelV x v → s.heap.IsSliceOf sl vl vu .none → IsPart vl lo → IsPart vu hi → r x lo hi H Q →
    ∃ T id, typeLookup (.type T) "__getitem__" = pure (some (.builtin id)) ∧ s.TypeIs v T ∧ wpAny (model X.prog X.w) X.A (getItem v (.ref sl)) (EP X pins σ Q) X.xe s
theorem SlR.or {r r' : V → Option Int → Option Int → Hp → VK → Prop} (h : SlR X r) (h' : SlR X r') : SlR X (fun x lo hi H Q => r x lo hi H Q ∨ r' x lo hi H Q) := by
  intro pins s σ H x v vl vu lo hi sl Q I rx hs pl pu q
  rcases q with q | q
  · exact h pins s σ H x v vl vu lo hi sl Q I rx hs pl pu q
  · exact h' pins s σ H x v vl vu lo hi sl Q I rx hs pl pu q
def tSl (r : V → Option Int → Option Int → Hp → VK → Prop) (te : TE) (tl th : TO) : TE := fun σ H Q => te σ H fun x H1 => tl σ H1 fun l H2 => th σ H2 fun u H3 => r x l u H3 Q
theorem pe_slice {r : V → Option Int → Option Int → Hp → VK → Prop} (hr : SlR X r) (he : PE X e te) (hl : PO X lo tl) (hu : PO X hi th) : PE X (.Subscript e (.Slice lo hi none p2) pos) (tSl r te tl th) := by
  intro pins s σ H Q I h
  refine Subscript_ (thn (he pins s σ H _ I h) fun v s1 ⟨x, H1, I1, r1, q1⟩ => ?_)
  refine wpAny_Slice (thn (hl pins s1 σ H1 _ I1 q1) fun vl s2 ⟨l, H2, I2, pl, q2⟩ => thn (hu pins s2 σ H2 _ I2 q2) fun vu s3 ⟨u, H3, I3, pu, q3⟩ => ?_)
  rw [evalPart_none]
  refine wpAny_pure ?_
  have I4 : Inv X pins σ H3 { s3 with heap := s3.heap.push { cls := .type "slice", data := .fields #[vl, vu, .none] } } := I3.kept (t' := s3.toks) fun b ob q => Heap.get?_push_of_some _ q
  obtain ⟨T, id, hT, ht, hg⟩ := hr pins { s3 with heap := s3.heap.push { cls := .type "slice", data := .fields #[vl, vu, .none] } } σ H3 x v vl vu l u s3.heap.objs.size Q I4 r1 (Heap.IsSliceOf.new ..) pl pu q3
  show wpAny (model X.prog X.w) X.A (subscriptTail e (.Slice lo hi none p2) v (.ref s3.heap.objs.size)) (EP X pins σ Q) X.xe { s3 with heap := s3.heap.push { cls := .type "slice", data := .fields #[vl, vu, .none] } }
  exact tail_any (ops := [.ref s3.heap.objs.size, v]) ht hT hg (by with_unfolding_all rfl)
def cutV (xs : List V) (lo hi : Option Int) : List V := (xs.drop (HT.sIx xs.length 0 lo)).take (HT.sIx xs.length xs.length hi - HT.sIx xs.length 0 lo)
theorem cutV_length (xs : List V) (lo hi : Option Int) : (cutV xs lo hi).length ≤ xs.length := by
  unfold cutV
  rw [List.length_take, List.length_drop]
  omega
def rSlT (K : PySem.W.Frag) : V → Option Int → Option Int → Hp → VK → Prop := fun x lo hi H Q => ∃ a xs, x = .ref a ∧ SqT K H a xs ∧
  ¬ (HT.sIx xs.length 0 lo = 0 ∧ HT.sIx xs.length xs.length hi = xs.length) ∧ ∀ p, H p = none → Q (.ref p) (upd H p (.tup (cutV xs lo hi)))
theorem sl_tup : SlR X (rSlT X.K) := by
  intro pins s σ H x v vl vu lo hi sl Q I rx hs pl pu h
  obtain ⟨a, xs, rfl, hx, hw, q⟩ := h
  cases rx
  obtain ⟨its, r, ht, hz⟩ := I.tuple hx
  have hlen : its.toArray.size = xs.length := by rw [List.size_toArray]; exact r.length.symm
  refine ⟨"tuple", _, PyProof.Rows.slot_tuple_getitem.lookup, ht.typeIs, ?_⟩
  refine HT.getItem_tuple_cut ht hs pl pu (by rw [hlen]; exact hw) ?_ (by rw [hlen]; exact hz)
  rw [hlen]
  refine ⟨.ref s.heap.objs.size, _, I.laid (t' := s.toks) (o := .tup (cutV xs lo hi)) (fun b ob q => Heap.get?_push_of_some _ q) (Nat.le_refl _) ?_, rfl, q _ (I.hok.fresh (Nat.le_refl _))⟩
  exact ⟨Nat.le_trans (cutV_length xs lo hi) hz, _, (r.drop (HT.sIx xs.length 0 lo)).take (HT.sIx xs.length xs.length hi - HT.sIx xs.length 0 lo), IsTupN.new _ _⟩
def rCatT (K : PySem.W.Frag) : R2 := fun x y H Q => ∃ a b xs ys, x = .ref a ∧ y = .ref b ∧ SqT K H a xs ∧ SqT K H b ys ∧ xs ≠ [] ∧ xs.length + ys.length ≤ sizeLine ∧
  (ys = [] → Q (.ref a) H) ∧ (ys ≠ [] → ∀ p, H p = none → Q (.ref p) (upd H p (.tup (xs ++ ys))))
theorem Vals.nil_iff {xs : List V} {us : List Value} (r : Vals xs us) : us = [] ↔ xs = [] := by
  cases r with
  | nil => simp
  | cons _ _ => simp
theorem op_catT : OpR X (binaryOp .Add) (rCatT X.K) := by
  intro pins s σ H x y v u Q I rx ry h
  obtain ⟨a, b, xs, ys, rfl, rfl, ha, hb, hx, hz, q1, q2⟩ := h
  cases rx
  cases ry
  obtain ⟨its, r1, p1, _⟩ := I.tuple ha
  obtain ⟨its2, r2, p2, _⟩ := I.tuple hb
  refine HT.cat_tup p1 p2 (fun z => hx (r1.nil_iff.mp z)) (fun z => ⟨.ref a, H, I, rfl, q1 (r2.nil_iff.mp z)⟩) (fun z => ?_) (by rw [← r1.length, ← r2.length]; exact hz)
  refine ⟨.ref s.heap.objs.size, _, I.laid (t' := s.toks) (o := .tup (xs ++ ys)) (fun b ob q => Heap.get?_push_of_some _ q) (Nat.le_refl _) ?_, rfl, q2 (fun w => z (r2.nil_iff.mpr w)) _ (I.hok.fresh (Nat.le_refl _))⟩
  exact ⟨by rw [List.length_append]; exact hz, _, r1.append r2, IsTupN.new _ _⟩
end
end L2
namespace L2
open PySem PySem.Spec PyProof.Rows
def ixN (n : Nat) (i : Int) : Option Nat := if 0 ≤ i then (if i < n then some i.toNat else none) else if -(n : Int) ≤ i then some (i + n).toNat else none
def atI {α : Type} (xs : List α) (i : Int) : Option α := (ixN xs.length i).bind fun j => xs[j]?
theorem ixN_seq {n : Nat} {i : Int} {j : Nat} (h : ixN n i = some j) : seqIndex? i n = some j ∧ j < n ∧ -(n : Int) ≤ i ∧ i < n := by
  unfold ixN at h
  by_cases h0 : 0 ≤ i
  · rw [if_pos h0] at h
    by_cases h1 : i < n
    · rw [if_pos h1] at h
      have e : i.toNat = j := Option.some.inj h
      exact ⟨by rw [seqIndex_of h0 h1, e], by omega, by omega, h1⟩
    · rw [if_neg h1] at h; cases h
  · rw [if_neg h0] at h
    by_cases h1 : -(n : Int) ≤ i
    · rw [if_pos h1] at h
      have e : (i + n).toNat = j := Option.some.inj h
      exact ⟨by rw [seqIndex_neg (by omega) h1, e], by omega, h1, by omega⟩
    · rw [if_neg h1] at h; cases h
theorem atI_get {α : Type} {xs : List α} {i : Int} {v : α} (h : atI xs i = some v) : ∃ j, seqIndex? i xs.length = some j ∧ xs[j]? = some v ∧ j < xs.length ∧ -(xs.length : Int) ≤ i ∧ i < xs.length := by
  unfold atI at h
  cases e : ixN xs.length i with
  | none => rw [e] at h; cases h
  | some j =>
    rw [e] at h
    obtain ⟨h1, h2, h3, h4⟩ := ixN_seq e
    exact ⟨j, h1, h, h2, h3, h4⟩
theorem atI_nat {α : Type} {xs : List α} {j : Nat} {v : α} (h : xs[j]? = some v) : atI xs (j : Int) = some v := by
  have hj : j < xs.length := (List.getElem?_eq_some_iff.mp h).1
  have e : ixN xs.length (j : Int) = some j := by
    unfold ixN
    rw [if_pos (by omega), if_pos (by omega)]; simp
  unfold atI; rw [e]; exact h
def PlainIx (b : Expr) : Prop := ∀ o i, subscripted b false o i = operate [o, i] (getItem o i)
def IxR (X : Cx) (r : R2) : Prop :=
  ∀ (value slice : Expr) (pins : List (Addr × Obj)) (s : Shared) (σ : St) (H : Hp) (x y : V) (v u : Value) (Q : VK), Inv X pins σ H s → RelV x v → RelV y u → r x y H Q →
    subscripted slice false v u = operate [v, u] (getItem v u) → wpAny (model X.prog X.w) X.A (subscriptTail value slice v u) (EP X pins σ Q) X.xe s
def MtR (X : Cx) (id : String) (r : V → List V → Hp → VK → Prop) : Prop :=
  ∀ (pins : List (Addr × Obj)) (s : Shared) (σ : St) (H : Hp) (x : V) (xs : List V) (v : Value) (us : List Value) (Q : VK), Inv X pins σ H s → RelV x v → Vals xs us → r x xs H Q →
    wpAny (model X.prog X.w) X.A (call (.builtin id) (v :: us)) (EP X pins σ Q) X.xe s
section
variable {X : Cx} {a b : Expr} {ta tb : TE} {pos : Pos}
theorem IxR.or {r r' : R2} (h : IxR X r) (h' : IxR X r') : IxR X (fun x y H Q => r x y H Q ∨ r' x y H Q) := by
  intro value slice pins s σ H x y v u Q I rx ry q hs
  rcases q with q | q
  · exact h value slice pins s σ H x y v u Q I rx ry q hs
  · exact h' value slice pins s σ H x y v u Q I rx ry q hs
theorem MtR.or {id : String} {r r' : V → List V → Hp → VK → Prop} (h : MtR X id r) (h' : MtR X id r') : MtR X id (fun x xs H Q => r x xs H Q ∨ r' x xs H Q) := by
  intro pins s σ H x xs v us Q I rx rs q
  rcases q with q | q
  · exact h pins s σ H x xs v us Q I rx rs q
  · exact h' pins s σ H x xs v us Q I rx rs q
theorem pe_ix {r : R2} (hr : IxR X r) (ha : PE X a ta) (hb : PE X b tb) (hs : PlainIx b) : PE X (.Subscript a b pos) (tOp r ta tb) := by
  intro pins s σ H Q I h
  exact Subscript_ (binT ha hb I h fun v u s2 x y H2 I2 rx ry q => hr a b pins s2 σ H2 x y v u Q I2 rx ry q (hs _ _))
def rIxL (K : PySem.W.Frag) : R2 := fun x y H Q => ∃ p xs i v, x = .ref p ∧ y = .int i ∧ SqL K H p xs ∧ atI xs i = some v ∧ Q v H
def rIxT (K : PySem.W.Frag) : R2 := fun x y H Q => ∃ p xs i v, x = .ref p ∧ y = .int i ∧ SqT K H p xs ∧ atI xs i = some v ∧ Q v H
def rIxS : R2 := fun x y H Q => ∃ z i c, x = .str z ∧ y = .int i ∧ z.length ≤ sizeLine ∧ atI z.cps.toList i = some c ∧ Q (.str ⟨#[c]⟩) H
theorem ix_list : IxR X (rIxL X.K) := by
  intro value slice pins s σ H x y v u Q I rx ry h hs
  obtain ⟨p, xs, i, z, rfl, rfl, hq, he, q⟩ := h
  cases rx
  obtain ⟨t, rfl⟩ := ry
  obtain ⟨its, r, pl, hz⟩ := I.list hq
  obtain ⟨j, h1, h2, h3, h4, h5⟩ := atI_get he
  obtain ⟨w, ew, rw'⟩ := r.get h2
  have hl := r.length
  have hn := line63
  have fin : EP X pins σ Q w s := ⟨z, H, I, rw', q⟩
  by_cases h0 : 0 ≤ i
  · have hj : i.toNat = j := by
      rw [seqIndex_of h0 h5] at h1
      exact Option.some.inj h1
    exact item_listR pl.isList h0 (by omega) (by rw [hj]; simpa using ew) fin hs
  · have hj : (i + (its.toArray.size : Int)).toNat = j := by
      rw [seqIndex_neg (by omega) h4] at h1
      rw [List.size_toArray, ← hl]
      exact Option.some.inj h1
    exact subscriptTail_builtinR (x := w) pl.isList.typeIs slot_list_getitem.lookup
      (wpAny_getItem_list_neg (Q := fun r s' => r = w ∧ EP X pins σ Q r s') pl.isList (by omega) (by rw [List.size_toArray] <;> omega) (by omega) (by rw [hj]; simpa using ew) ⟨rfl, fin⟩) hs
theorem ix_tup : IxR X (rIxT X.K) := by
  intro value slice pins s σ H x y v u Q I rx ry h hs
  obtain ⟨p, xs, i, z, rfl, rfl, hq, he, q⟩ := h
  cases rx
  obtain ⟨t, rfl⟩ := ry
  obtain ⟨its, r, pl, hz⟩ := I.tuple hq
  obtain ⟨j, h1, h2, h3, h4, h5⟩ := atI_get he
  obtain ⟨w, ew, rw'⟩ := r.get h2
  have hl := r.length
  have hn := line63
  have fin : EP X pins σ Q w s := ⟨z, H, I, rw', q⟩
  exact subscriptTail_builtinR (x := w) pl.typeIs slot_tuple_getitem.lookup
    (getItem_tuple (j := j) (Q := fun r s' => r = w ∧ EP X pins σ Q r s') pl (by omega) (by omega) (by rw [List.size_toArray, ← hl]; exact h1) (by simpa using ew) ⟨rfl, fin⟩) hs
theorem ix_str : IxR X rIxS := by
  intro value slice pins s σ H x y v u Q I rx ry h hs
  obtain ⟨z, i, c, rfl, rfl, hz, he, q⟩ := h
  obtain ⟨t, rfl⟩ := rx
  obtain ⟨t', rfl⟩ := ry
  obtain ⟨j, h1, h2, h3, h4, h5⟩ := atI_get he
  have hl : z.cps.toList.length = z.length := by simp [Str.length]
  rw [hl] at h1 h4 h5
  have hn := line63
  exact tail_any (typeIs_str s z t) slot_str_getitem.lookup (getItem_str (c := c) (by
    have e1 : decide (i < -(2 ^ 63 : Int)) = false := decide_eq_false (by omega)
    have e2 : decide (i ≥ 2 ^ 63) = false := decide_eq_false (by omega)
    rw [e1, e2, Bool.or_false]) (by rw [h1]; simpa using h2) ⟨.str ⟨#[c]⟩, H, I.tok _, ⟨_, rfl⟩, q⟩) hs
def rIx (K : PySem.W.Frag) : R2 := fun x y H Q => rIxL K x y H Q ∨ rIxT K x y H Q ∨ rIxS x y H Q
theorem ix_seq : IxR X (rIx X.K) := ix_list.or (ix_tup.or ix_str)
theorem Inv.lst {pins : List (Addr × Obj)} {σ : St} {H : Hp} {s : Shared} {p : Addr} {xs : List V} (I : Inv X pins σ H s) (h : H p = some (.lst xs)) :
    ∃ (its : List Value) (n : Nat), Vals xs its ∧ s.heap.get? p = some { cls := .type "list", data := .seq its.toArray n } ∧ xs.length ≤ sizeLine := by
  obtain ⟨z, its, n, r, e⟩ := I.hok p _ h
  exact ⟨its, n, r, e, z⟩
theorem slice_bounds (lo hi : Option Int) (n : Nat) : (sliceBounds lo hi none n).1 = ((HT.sIx n 0 lo : Nat) : Int) ∧ (sliceBounds lo hi none n).2.1 = ((HT.sIx n n hi : Nat) : Int) ∧ (sliceBounds lo hi none n).2.2 = 1 := by
  refine ⟨?_, ?_, rfl⟩
  · cases lo with
    | none => simp [sliceBounds, HT.sIx]
    | some i =>
      simp only [sliceBounds, HT.sIx, Option.getD_none, show (1 : Int) > 0 by decide, if_true]
      by_cases h : i < 0
      · simp only [h, if_true] <;> omega
      · simp only [h, if_false] <;> omega
  · cases hi with
    | none => simp [sliceBounds, HT.sIx]
    | some i =>
      simp only [sliceBounds, HT.sIx, Option.getD_none, show (1 : Int) > 0 by decide, if_true]
      by_cases h : i < 0
      · simp only [h, if_true] <;> omega
      · simp only [h, if_false] <;> omega
theorem slicePick_cut (its : List Value) (lo hi : Option Int) : slicePick its.toArray lo hi none = ((its.drop (HT.sIx its.length 0 lo)).take (HT.sIx its.length its.length hi - HT.sIx its.length 0 lo)).toArray := by
  obtain ⟨h1, h2, h3⟩ := slice_bounds lo hi its.toArray.size
  unfold slicePick
  rw [h1, h2, h3]
  simp only [sliceRange_one, pick_run, List.size_toArray] <;> rfl
def rSlL (K : PySem.W.Frag) : V → Option Int → Option Int → Hp → VK → Prop := fun x lo hi H Q => ∃ a xs, x = .ref a ∧ SqL K H a xs ∧ ∀ p, H p = none → Q (.ref p) (upd H p (.lst (cutV xs lo hi)))
theorem sl_list : SlR X (rSlL X.K) := by
  intro pins s σ H x v vl vu lo hi sl Q I rx hs pl pu h
  obtain ⟨a, xs, rfl, hx, q⟩ := h
  cases rx
  obtain ⟨its, r, ht, hz⟩ := I.list hx
  have hlen := r.length
  refine ⟨"list", _, slot_list_getitem.lookup, ht.isList.typeIs, ?_⟩
  refine wpAny_getItem_list_slice ht.isList hs pl pu .none (by simp) ?_ (by rw [List.size_toArray] <;> omega)
  rw [slicePick_cut, ← hlen]
  refine ⟨.ref s.heap.objs.size, _, I.laid (t' := s.toks) (o := .lst (cutV xs lo hi)) (fun b ob q => Heap.get?_push_of_some _ q) (Nat.le_refl _) ?_, rfl, q _ (I.hok.fresh (Nat.le_refl _))⟩
  exact ⟨Nat.le_trans (cutV_length xs lo hi) hz, _, 0, (r.drop (HT.sIx xs.length 0 lo)).take (HT.sIx xs.length xs.length hi - HT.sIx xs.length 0 lo), Heap.get?_push_size _ rfl⟩
def flatV : V → Bool
  | .non => true
  | .bl _ => true
  | .int _ => true
  | .str _ => true
  | _ => false
def eqV : V → V → Bool
  | .non, .non => true
  | .bl a, .bl b => a == b
  | .bl a, .int b => (if a then 1 else 0) == b
  | .int a, .bl b => a == (if b then 1 else 0)
  | .int a, .int b => a == b
  | .str a, .str b => a == b
  | _, _ => false
theorem eqAt_V {A : Around} {s : Shared} {y x : V} {u v : Value} (ry : RelV y u) (rx : RelV x v) (fy : flatV y = true) (fx : flatV x = true) : SeqAt.EqAt A s u v (eqV y x) := by
  cases y with
  | non =>
    cases ry
    cases x with
    | non => cases rx; exact SeqAt.EqAt.same _
    | bl b => cases rx; exact SeqAt.EqAt.none_bool b
    | int b => obtain ⟨t, rfl⟩ := rx; exact SeqAt.EqAt.none_int b t
    | str b => obtain ⟨t, rfl⟩ := rx; exact SeqAt.EqAt.none_str b t
    | _ => exact absurd (show false = true from fx) Bool.false_ne_true
  | bl a =>
    cases ry
    cases x with
    | non => cases rx; exact SeqAt.EqAt.bool_none a
    | bl b => cases rx; exact SeqAt.EqAt.bool_bool a b
    | int b => obtain ⟨t, rfl⟩ := rx; exact SeqAt.EqAt.bool_int a b t
    | str b => obtain ⟨t, rfl⟩ := rx; exact SeqAt.EqAt.bool_str a b t
    | _ => exact absurd (show false = true from fx) Bool.false_ne_true
  | int a =>
    obtain ⟨t', rfl⟩ := ry
    cases x with
    | non => cases rx; exact SeqAt.EqAt.int_none a t'
    | bl b => cases rx; exact SeqAt.EqAt.int_bool a t' b
    | int b => obtain ⟨t, rfl⟩ := rx; exact SeqAt.EqAt.int_int a t' b t
    | str b => obtain ⟨t, rfl⟩ := rx; exact SeqAt.EqAt.int_str a t' b t
    | _ => exact absurd (show false = true from fx) Bool.false_ne_true
  | str a =>
    obtain ⟨t', rfl⟩ := ry
    cases x with
    | non => cases rx; exact SeqAt.EqAt.str_none a t'
    | bl b => cases rx; exact SeqAt.EqAt.str_bool a t' b
    | int b => obtain ⟨t, rfl⟩ := rx; exact SeqAt.EqAt.str_int a t' b t
    | str b => obtain ⟨t, rfl⟩ := rx; exact SeqAt.EqAt.str_str a t' b t
    | _ => exact absurd (show false = true from fx) Bool.false_ne_true
  | _ => exact absurd (show false = true from fy) Bool.false_ne_true
def eqU (x : V) (u : Value) : Bool := match u with
  | .none => eqV .non x
  | .bool b => eqV (.bl b) x
  | .int i _ => eqV (.int i) x
  | .str z _ => eqV (.str z) x
  | _ => false
theorem eqU_of {x y : V} {u : Value} (r : RelV y u) (f : flatV y = true) : eqU x u = eqV y x := by
  cases y with
  | non => cases r; rfl
  | bl b => cases r; rfl
  | int i => obtain ⟨t, rfl⟩ := r; rfl
  | str z => obtain ⟨t, rfl⟩ := r; rfl
  | _ => exact absurd (show false = true from f) Bool.false_ne_true
theorem any_eqU {x : V} : ∀ {xs : List V} {us : List Value}, Vals xs us → xs.all flatV = true → us.any (eqU x) = xs.any fun y => eqV y x
  | _, _, .nil, _ => rfl
  | y :: xs, u :: us, .cons r t, f => by
    rw [List.all_cons, Bool.and_eq_true] at f
    rw [List.any_cons, List.any_cons, eqU_of r f.1, any_eqU t f.2]
theorem mem_eqAt {A : Around} {s : Shared} {x : V} {v : Value} (rx : RelV x v) (fx : flatV x = true) : ∀ {xs : List V} {us : List Value}, Vals xs us → xs.all flatV = true → ∀ u ∈ us, SeqAt.EqAt A s u v (eqU x u)
  | _, _, .nil, _ => fun u hu => by cases hu
  | y :: xs, u :: us, .cons r t, f => fun u' hu => by
    rw [List.all_cons, Bool.and_eq_true] at f
    rcases List.mem_cons.mp hu with rfl | hu
    · rw [eqU_of r f.1]; exact eqAt_V r rx f.1 fx
    · exact mem_eqAt rx fx t f.2 u' hu
def inV (x : V) (xs : List V) : Bool := xs.any fun y => eqV y x
def rIn (K : PySem.W.Frag) (neg : Bool) : R2 := fun x y H Q => ∃ p xs, y = .ref p ∧ (SqL K H p xs ∨ SqT K H p xs) ∧ flatV x = true ∧ xs.all flatV = true ∧ Q (.bl (if neg then !inV x xs else inV x xs)) H
theorem op_notIn_seq : OpR X (compareOp .NotIn) (rIn X.K true) := by
  intro pins s σ H x y v u Q I rx ry h
  obtain ⟨p, xs, rfl, hq, fx, fs, q⟩ := h
  cases ry
  rcases hq with hq | hq
  · obtain ⟨its, r, pl, hz⟩ := I.list hq
    refine SeqAt.notIn_listAt (eqU x) pl.isList (fun w hw => mem_eqAt rx fx r fs w (by simpa using hw)) ⟨.bl _, H, I, rfl, ?_⟩
    rw [show its.toArray.any (eqU x) = its.any (eqU x) by simp, any_eqU r fs]
    exact q
  · obtain ⟨its, r, pl, hz⟩ := I.tuple hq
    refine SeqAt.notIn_tupleAt (eqU x) pl (fun w hw => mem_eqAt rx fx r fs w (by simpa using hw)) ⟨.bl _, H, I, rfl, ?_⟩
    rw [show its.toArray.any (eqU x) = its.any (eqU x) by simp, any_eqU r fs]
    exact q
theorem call_len_seq : CallR X (.builtin "len") (fun xs H Q => ∃ p ys, xs = [.ref p] ∧ (SqL X.K H p ys ∨ SqT X.K H p ys) ∧ Q (.int ys.length) H) := by
  intro pins s σ H xs us Q I r h
  obtain ⟨p, ys, rfl, hq, q⟩ := h
  obtain ⟨u, rfl, rx⟩ := vals1 r
  cases rx
  have hn := line63
  rcases hq with hq | hq
  · obtain ⟨its, r', pl, hz⟩ := I.list hq
    have hlen := r'.length
    exact Calls.call_len_list pl.isList (by simp only [List.size_toArray] <;> omega) ⟨.int ys.length, H, I.tok _, ⟨s.toks + 1, by rw [List.size_toArray, hlen]⟩, q⟩
  · obtain ⟨its, r', pl, hz⟩ := I.tuple hq
    have hlen := r'.length
    exact len_tuple pl (by simp only [List.size_toArray] <;> omega) ⟨.int ys.length, H, I.tok _, ⟨s.toks + 1, by rw [List.size_toArray, hlen]⟩, q⟩
theorem call_len_str : CallR X (.builtin "len") (fun xs H Q => ∃ z, xs = [.str z] ∧ z.length ≤ sizeLine ∧ Q (.int z.length) H) := by
  intro pins s σ H xs us Q I r h
  obtain ⟨z, rfl, hz, q⟩ := h
  obtain ⟨u, rfl, t, rfl⟩ := vals1 r
  have hn := line63
  exact len_str (by omega) ⟨.int z.length, H, I.tok _, ⟨_, rfl⟩, q⟩
theorem CallR.or {f : Value} {r r' : List V → Hp → VK → Prop} (h : CallR X f r) (h' : CallR X f r') : CallR X f (fun xs H Q => r xs H Q ∨ r' xs H Q) := by
  intro pins s σ H xs us Q I rs q
  rcases q with q | q
  · exact h pins s σ H xs us Q I rs q
  · exact h' pins s σ H xs us Q I rs q
theorem call_list_of : CallR X (.type "list") (fun xs H Q => ∃ p ys, xs = [.ref p] ∧ (SqL X.K H p ys ∨ SqT X.K H p ys) ∧ ∀ l, H l = none → Q (.ref l) (upd H l (.lst ys))) := by
  intro pins s σ H xs us Q I r h
  obtain ⟨p, ys, rfl, hq, q⟩ := h
  obtain ⟨u, rfl, rx⟩ := vals1 r
  cases rx
  have fin : ∀ (its : List Value), Vals ys its → ys.length ≤ sizeLine → ∀ (h' : Heap) (c' : Nat), (∀ b o', s.heap.get? b = some o' → h'.get? b = some o') →
      h'.get? s.heap.objs.size = some { cls := .type "list", dict := none, data := .seq its.toArray c', slots := #[] } → EP X pins σ Q (.ref s.heap.objs.size) { s with heap := h' } := fun its r' hz h' c' kp e =>
    ⟨.ref s.heap.objs.size, _, I.laid (t' := s.toks) kp (Nat.le_refl _) (show ObjOk X.prog X.w _ h' _ (.lst ys) from ⟨hz, its, c', r', e⟩), rfl, q _ (I.hok.fresh (Nat.le_refl _))⟩
  rcases hq with hq | hq
  · obtain ⟨its, r', pl, hz⟩ := I.list hq
    have hlen := r'.length
    obtain ⟨o, ho, hc, n, hd⟩ := pl.isList
    exact call_list_seq p (.inl rfl) ho hc hd (fun h' c' kp e => fin its r' hz h' c' kp e) (by simp only [List.size_toArray] <;> omega)
  · obtain ⟨its, r', pl, hz⟩ := I.tuple hq
    have hlen := r'.length
    obtain ⟨o, ho, hc, n, hd⟩ := pl
    exact call_list_seq p (.inr rfl) ho hc hd (fun h' c' kp e => fin its r' hz h' c' kp e) (by simp only [List.size_toArray] <;> omega)
theorem call_tuple_of : CallR X (.type "tuple") (fun xs H Q => ∃ p ys, xs = [.ref p] ∧ ((SqL X.K H p ys ∧ ∀ l, H l = none → Q (.ref l) (upd H l (.tup ys))) ∨ (SqT X.K H p ys ∧ Q (.ref p) H))) := by
  intro pins s σ H xs us Q I r h
  obtain ⟨p, ys, rfl, h⟩ := h
  obtain ⟨u, rfl, rx⟩ := vals1 r
  cases rx
  rcases h with ⟨hq, q⟩ | ⟨hq, q⟩
  · obtain ⟨its, r', pl, hz⟩ := I.list hq
    have hlen := r'.length
    refine call_tuple_list pl.isList (fun h' kp => ?_) (by simp only [List.size_toArray] <;> omega)
    have I1 : Inv X pins σ H { s with heap := h' } := I.kept (t' := s.toks) kp
    have I2 : Inv X pins σ (upd H h'.objs.size (.tup ys)) { s with heap := h'.push { cls := .type "tuple", data := .seq its.toArray } } :=
      I1.laid (t' := s.toks) (fun b o e => Heap.get?_push_of_some _ e) (Nat.le_refl _) (show ObjOk X.prog X.w _ _ _ (.tup ys) from ⟨hz, its, r', IsTupN.new _ _⟩)
    exact ⟨.ref h'.objs.size, _, I2, rfl, q _ (I1.hok.fresh (Nat.le_refl _))⟩
  · obtain ⟨its, r', pl, hz⟩ := I.tuple hq
    exact call_tuple_same pl ⟨.ref p, H, I, rfl, q⟩
def tyV (K : PySem.W.Frag) (T : String) (x : V) (H : Hp) : Prop := match x with
  | .str _ => T = "str"
  | .int _ => T = "int"
  | .ref p => (T = "list" ∧ ∃ xs, SqL K H p xs) ∨ (T = "tuple" ∧ ∃ o, K.lookup p = some o ∧ o.cls = .type "tuple" ∧ o.dict = none) ∨
      (T = "dict" ∧ ((∃ kvs, H p = some (.dK kvs)) ∨ ∃ kvs, H p = some (.dT kvs))) ∨ (T = "set" ∧ ∃ S n, H p = some (.set S n))
  | _ => False
theorem tyV_is {pins : List (Addr × Obj)} {σ : St} {H : Hp} {s : Shared} {T : String} {x : V} {v : Value} (I : Inv X pins σ H s) (r : RelV x v) (ty : tyV X.K T x H) :
    s.TypeIs v T ∧ ∀ a, v = .ref a → ∃ ob, s.heap.get? a = some ob ∧ ob.dict = none := by
  cases x with
  | str z =>
    obtain ⟨t, rfl⟩ := r
    cases (show T = "str" from ty)
    exact ⟨typeIs_str s z t, fun _ e => nomatch e⟩
  | int i =>
    obtain ⟨t, rfl⟩ := r
    cases (show T = "int" from ty)
    exact ⟨typeIs_int s i t, fun _ e => nomatch e⟩
  | ref p =>
    cases r
    rcases ty with ⟨rfl, xs, hq⟩ | ⟨rfl, o, hk, hc, hd⟩ | ⟨rfl, hk⟩ | ⟨rfl, S, n, hk⟩
    · obtain ⟨its, _, pl, _⟩ := I.list hq
      refine ⟨pl.isList.typeIs, fun a e => ?_⟩
      cases e
      obtain ⟨o, n, e, c, hd, _⟩ := pl
      exact ⟨o, e, hd⟩
    · refine ⟨⟨o, I.kIn p o hk, hc⟩, fun a e => ?_⟩
      cases e
      exact ⟨o, I.kIn _ o hk, hd⟩
    · have z : ∃ o, s.heap.get? p = some o ∧ o.ExactDict := by
        rcases hk with ⟨kvs, hk⟩ | ⟨kvs, hk⟩
        · obtain ⟨_, _, _, _, o, _, _, e, ex, _⟩ := I.hok p _ hk
          exact ⟨o, e, ex⟩
        · obtain ⟨_, _, _, _, o, _, _, e, ex, _⟩ := I.hok p _ hk
          exact ⟨o, e, ex⟩
      obtain ⟨o, e, ex⟩ := z
      refine ⟨⟨o, e, ex.1⟩, fun a e2 => ?_⟩
      cases e2
      exact ⟨o, e, ex.2.1⟩
    · obtain ⟨o, _, _, _, e, ex, _⟩ := I.hok p _ hk
      refine ⟨⟨o, e, ex.1⟩, fun a e2 => ?_⟩
      cases e2
      exact ⟨o, e, ex.2.1⟩
  | _ => exact False.elim ty
def tBM (K : PySem.W.Frag) (T : String) (r : V → List V → Hp → VK → Prop) (to : TE) (t : TA) : TE := fun σ H Q => to σ H fun x H1 => tyV K T x H1 ∧ t σ H1 fun xs H2 => r x xs H2 Q
variable {o e : Expr} {es : List Expr} {to : TE} {t : TA} {name : Str} {apos cpos : Pos} {T id : String} {r : V → List V → Hp → VK → Prop}
theorem pe_bm (pa : PlainAttrs T) (slot : Slot T name id) (hty : typeOf (.builtin id) = pure (.type "method_descriptor")) (hm : MtR X id r) (ho : PE X o to) (ha : PA X (e :: es) t)
    (hbase : attributeBase o name X.env (eval o X.env) = eval o X.env := by rfl)
    (hfew : ((backTo cpos (starEach (e :: es) X.env)).all (fun x => !x.1) && (backToKw cpos (keywordEach [] X.env)).all (fun x => x.1.isSome)
      && decide ((e :: es).length + ([] : List Keyword).length + (if ([] : List Keyword).isEmpty then 0 else 1) < 30)) = true := by rfl)
    (hline : (apos.endLine == cpos.line) = true := by rfl) (hs : starEach (e :: es) X.env = (false, eval e X.env) :: starEach es X.env := by rfl) (hplain : (backTo cpos (starEach es X.env)).any (·.1) = false := by rfl) :
    PE X (.Call (.Attribute o name apos) (e :: es) [] cpos) (tBM X.K T r to t) := by
  intro pins s σ H Q I h
  refine wpAny_Call_method_late hbase hfew hline rfl (thn (ho pins s σ H _ I h) fun v s1 ⟨x, H1, I1, r1, ty, q1⟩ => ?_)
  obtain ⟨h1, h2⟩ := tyV_is I1 r1 ty
  refine ⟨T, id, pa, slot, hty, h1, h2, ?_⟩
  have hA := ha cpos pins s1 σ H1 _ I1 q1
  rw [hs] at hA ⊢
  refine Calls.callWith_builtin (by show (false || (backTo cpos (starEach es X.env)).any (·.1)) = false; rw [hplain] <;> rfl) (Calls.evalArgs_plain ?_)
  exact thn hA fun us s2 ⟨vs, H2, I2, r2, q2⟩ => hm pins s2 σ H2 x vs v us Q I2 r1 r2 q2
end
end L2
namespace L2
open PySem PySem.Spec PyProof.Rows
def MtM (X : Cx) (id : String) (r : V → List V → Hp → VK → Prop) : Prop :=
  ∀ (pins : List (Addr × Obj)) (s : Shared) (σ : St) (H : Hp) (x : V) (xs : List V) (v : Value) (us : List Value) (Q : VK), Inv X pins σ H s → RelV x v → Vals xs us → r x xs H Q →
    wpAny (model X.prog X.w) X.A (call (.builtin id) (v :: us)) (EP X pins σ Q) X.xe s
theorem Vals.one : ∀ {x : V} {us : List Value}, Vals [x] us → ∃ u, us = [u] ∧ RelV x u
  | _, _, .cons r .nil => ⟨_, rfl, r⟩
theorem Vals.two : ∀ {x y : V} {us : List Value}, Vals [x, y] us → ∃ u v, us = [u, v] ∧ RelV x u ∧ RelV y v
  | _, _, _, .cons r (.cons q .nil) => ⟨_, _, rfl, r, q⟩
theorem Vals.zero : ∀ {us : List Value}, Vals [] us → us = []
  | _, .nil => rfl
theorem Vals.dropLast {xs : List V} {us : List Value} (h : Vals xs us) : Vals xs.dropLast us.dropLast := by
  induction h with
  | nil => exact .nil
  | cons r t ih =>
    cases t with
    | nil => exact .nil
    | cons q t' => exact .cons r ih
section
variable {X : Cx} {pins : List (Addr × Obj)} {σ : St} {H : Hp} {s : Shared} {l b : Addr} {xs ys zs : List V}
theorem Inv.lset {its its' : List Value} {n : Nat} {f : Array Value → Array Value} {t' : Nat} (I : Inv X pins σ H s) (hH : H l = some (.lst xs))
    (e : s.heap.get? l = some { cls := .type "list", data := .seq its.toArray n }) (hf : f its.toArray = its'.toArray) (hv : Vals ys its') (hz : ys.length ≤ sizeLine) :
    Inv X pins σ (upd H l (.lst ys)) { s with heap := s.heap.update l (Obj.mapSeq f), toks := t' } := by
  have q := PySem.IsL.update e f
  rw [hf] at q
  refine I.write (x := l) (e := l) (by rw [hH]; exact trivial) (.inl rfl) (fun b' u hb hu => (Heap.get?_update_other s.heap (Obj.mapSeq f) (Ne.symm hb)).trans hu) ⟨_, q⟩ ?_
  exact ⟨hz, its', _, hv, q⟩
theorem Inv.lnew {its : List Value} {t' : Nat} (I : Inv X pins σ H s) (hv : Vals ys its) (hz : ys.length ≤ sizeLine) :
    Inv X pins σ (upd H s.heap.objs.size (.lst ys)) { s with heap := s.heap.push { cls := .type "list", data := .seq its.toArray }, toks := t' } :=
  I.laid (fun _ _ q => Heap.get?_push_of_some _ q) (Nat.le_refl _) ⟨hz, its, 0, hv, Heap.get?_push_size _ rfl⟩
theorem Inv.fresh (I : Inv X pins σ H s) : H s.heap.objs.size = none := I.hok.fresh (Nat.le_refl _)
theorem Inv.lstM (I : Inv X pins σ H s) (hH : H l = some (.lst xs)) : xs.length ≤ sizeLine ∧ ∃ (its : List Value) (n : Nat), Vals xs its ∧ xs.length = its.length ∧ s.heap.get? l = some { cls := .type "list", data := .seq its.toArray n } := by
  obtain ⟨z, its, n, r, e⟩ := I.hok l _ hH
  exact ⟨z, its, n, r, r.length, e⟩
theorem notLongL {n : Nat} (h : n ≤ sizeLine) : Builtin.List.listTooLong n = false := by
  unfold Builtin.List.listTooLong
  exact decide_eq_false (by omega)
end
section
variable {X : Cx}
def rAppend : V → List V → Hp → VK → Prop := fun x vs H Q => ∃ l xs y, x = .ref l ∧ vs = [y] ∧ H l = some (.lst xs) ∧ xs.length < sizeLine ∧ Q .non (upd H l (.lst (xs ++ [y])))
theorem mt_append : MtM X "list.append" rAppend := by
  intro pins s σ H x vs v us Q I rx rv h
  obtain ⟨l, xs, y, rfl, rfl, hH, hz, q⟩ := h
  cases rx
  obtain ⟨u, rfl, ru⟩ := rv.one
  obtain ⟨z, its, n, r, hl, e⟩ := I.lstM hH
  refine call_meets F.slot_list_append ⟨_, e, rfl⟩ F.entry_list_append (F.args_list_append_2 _ _) (PySem.list_append l its.toArray n u (by rw [List.size_toArray]; omega)) ⟨e, ?_⟩
  refine ⟨.non, _, I.lset (its' := its ++ [u]) hH e (by simp) (r.append (.cons ru .nil)) ?_, rfl, q⟩
  rw [List.length_append, List.length_singleton]
  omega
def rExtend : V → List V → Hp → VK → Prop := fun x vs H Q => ∃ l b xs zs, x = .ref l ∧ vs = [.ref b] ∧ H l = some (.lst xs) ∧ H b = some (.lst zs) ∧ xs.length + zs.length ≤ sizeLine ∧ Q .non (upd H l (.lst (xs ++ zs)))
theorem mt_extend : MtM X "list.extend" rExtend := by
  intro pins s σ H x vs v us Q I rx rv h
  obtain ⟨l, b, xs, zs, rfl, rfl, hH, hB, hz, q⟩ := h
  cases rx
  obtain ⟨u, rfl, ru⟩ := rv.one
  cases ru
  obtain ⟨z, its, n, r, hl, e⟩ := I.lstM hH
  obtain ⟨z2, its2, n2, r2, hl2, e2⟩ := I.lstM hB
  have hsz : its.toArray.size + its2.toArray.size ≤ sizeLine := by rw [List.size_toArray, List.size_toArray]; omega
  have hlong : ¬ (!its.toArray.isEmpty && Builtin.List.listTooLong (its.toArray.size + its2.toArray.size)) = true := by
    rw [notLongL hsz, Bool.and_false]
    exact Bool.false_ne_true
  refine call_meets F.slot_list_extend ⟨_, e, rfl⟩ F.entry_list_extend (F.args_list_extend_2 _ _)
    (AutoSeq1.list_extend_list_list_0 l its.toArray n b its2.toArray n2 hlong (by rw [List.size_toArray]; omega) (by omega)) ⟨e, e2, ?_⟩
  refine ⟨.non, _, I.lset (its' := its ++ its2) hH e (by simp) (r.append r2) ?_, rfl, q⟩
  rw [List.length_append]
  omega
def rCat : R2 := fun x y H Q => ∃ l b xs zs, x = .ref l ∧ y = .ref b ∧ H l = some (.lst xs) ∧ H b = some (.lst zs) ∧ xs.length + zs.length ≤ sizeLine ∧ ∀ p, H p = none → Q (.ref p) (upd H p (.lst (xs ++ zs)))
theorem op_cat : OpR X (binaryOp .Add) rCat := by
  intro pins s σ H x y v u Q I rx ry h
  obtain ⟨l, b, xs, zs, rfl, rfl, hH, hB, hz, q⟩ := h
  cases rx
  cases ry
  obtain ⟨z, its, n, r, hl, e⟩ := I.lstM hH
  obtain ⟨z2, its2, n2, r2, hl2, e2⟩ := I.lstM hB
  refine PySem.P.add_list e e2 ?_ (by rw [List.size_toArray, List.size_toArray]; omega)
  have ea : its.toArray ++ its2.toArray = (its ++ its2).toArray := by simp
  rw [ea]
  exact ⟨.ref _, _, I.lnew (t' := s.toks) (r.append r2) (by rw [List.length_append]; omega), rfl, q _ I.fresh⟩
end
section
variable {prog : Program} {w : World} {A : Around} {E : Value → Shared → Prop} {s : Shared}
set_option maxRecDepth 100000 in
end
section
variable {X : Cx}
end
end L2
namespace Att
open PySem PySem.W PySem.Calls PyProof.Rows
theorem ints_of_wellAll {P : Params} {h : Heap} : ∀ (ns : List Int) (vs : List Value), WellAll P h vs (ns.map WData.int) → IntsAre vs ns := by
  intro ns
  induction ns with
  | nil =>
    intro vs w
    rw [List.map_nil] at w
    cases w
    exact .nil
  | cons n ns ih =>
    intro vs w
    rw [List.map_cons] at w
    cases w with
    | cons a b =>
      cases a
      exact .cons _ _ (ih _ b)
theorem script_of {l : OpenLaw} {n : Nat} (hn : l.most = some n) {P : Params} {h : Heap} {args : List WData} {vals : List Value}
    (hpre : l.row.toRowW.claim.pre args = true) (hwl : WellAll P h vals args) :
    ∃ a vs ns, vals = [Value.ref a] ∧ args = [WData.list (ns.map WData.int)] ∧ h.get? a = some { cls := .type "list", data := .seq vs.toArray } ∧ IntsAre vs ns ∧ ns.length ≤ n := by
  have hsh : WShape.hasAll [] args [.list .int] = true := (pre_splitW hpre).1
  have hc : l.pre.holds [] { args := args } = true := (pre_splitW hpre).2
  obtain ⟨d, r, rfl, h1, h2⟩ := hasAllW_cons hsh
  obtain rfl := hasAllW_nil h2
  obtain ⟨xs, rfl, h3⟩ := hasW_list h1
  obtain ⟨ns, rfl⟩ := items_int h3
  have hlen : ns.length ≤ n := by
    unfold OpenLaw.pre at hc
    have h4 : (WTm.not (.lt (.lit (.int (n : Int))) (.len (.arg 0)))).holds [] { args := [.list (ns.map .int)] } = true := by
      have h4 := (holds_andW hc).1
      rw [hn] at h4
      exact h4
    have h5 := condW_of h4 (w_not (w_lt w_lit (w_len_list (w_arg rfl))))
    rw [List.length_map] at h5
    refine Nat.le_of_not_lt fun q => ?_
    have q' : (n : Int) < ((ns.length : Nat) : Int) := by omega
    first
      | (rw [decide_eq_true q'] at h5; exact absurd h5 (by decide))
      | (simp at h5; omega)
  cases hwl with
  | cons w1 w2 =>
    cases w2
    cases w1 with
    | list ho hall => exact ⟨_, _, ns, rfl, rfl, ho, ints_of_wellAll ns _ hall, hlen⟩
theorem post_true (l : OpenLaw) (args : List WData) : l.row.toRowW.claim.post args (.bool true) args = true :=
  postW_of (r := l.row.toRowW) (X := (true == true))
    (show WShape.has [] (.bool true) .bool = true by first | rfl | decide | simp [WShape.has, WShape.arms, WShape.armsAll])
    (show (WTm.eq .res (.lit (.bool true))).value [] { args := args, res := some (.bool true), after := args } = some (.bool (true == true)) from w_eq_bool (w_res rfl) w_lit) rfl
theorem attach_call {l : OpenLaw} {n : Nat} {q : Program} {loose : List Str} {XP : (Str → Option Value) → Heap → Prop} {YP : World → Heap → Prop} {d : DefRec}
    (hn : l.most = some n) (hdf : d.params.defaults = [])
    (call : ∀ (w : World) (s₀ s₁ : Shared) (mg mb : Str → Option Value) (fa : Addr) (o : Obj) (pm cd doc : Value) (a : Addr) (vs : List Value) (ns : List Int),
      Ground q loose [] XP w s₀ mg mb s₁.heap → YP w s₁.heap →
      s₁.heap.get? fa = some o → o.data = .func (docDef d.name d.params d.body d.scope pm cd doc) → s₁.heap.CodeRec cd d.name → mg d.name = some (.ref fa) →
      s₁.heap.get? a = some { cls := .type "list", data := .seq vs.toArray } → IntsAre vs ns → ns.length ≤ n → s₁.gens = #[] →
      codeAny (model l.prog w) callerA (.call (.ref fa) ⟨[.ref a], []⟩) (fun r s' => r = .ok (.ret (.bool true)) ∧ OldK s₁.heap s'.heap ∧ s'.os = s₁.os ∧ AllBare s'.gens) s₁) :
    WalkO q loose XP YP l.row.toRowW d [] (fun f vs => PySem.call f vs) := by
  intro w s₀ s₁ mg mb G Y fa o pm cd doc dV kV ho hd hcd hD hmg hg args vals as hpre hlay hrd hwl hlo
  obtain rfl : dV = .none := Dflts.none hD hdf
  obtain rfl : kV = .none := Dflts.noKw hD
  obtain ⟨a, vs, ns, rfl, rfl, hobj, hints, hlen⟩ := script_of hn hpre hwl
  refine enter_call (codeAny_mono (call w s₀ s₁ mg mb fa o pm cd doc a vs ns G Y ho (fd_plain hd) hcd hmg hobj hints hlen hg) fun r s' hq => ?_)
  obtain ⟨rfl, h2, h3, h4⟩ := hq
  exact ⟨.inl ⟨.bool true, .bool true, [], rfl, fun _ => rfl, .bool true, post_true l _, fun _ => ⟨List.Pairwise.nil, fun _ hm => (nomatch hm)⟩⟩, h2, h3, h4⟩
section
variable {prog : Program} {w : World} {A : Around} {E : Value → Shared → Prop} {s : Shared} {K : Frag}
end
end Att
namespace L2
open PySem PySem.Spec PyProof.Rows
theorem vals_ints : ∀ {vs : List Value} {ns : List Int}, IntsAre vs ns → Vals (ns.map V.int) vs
  | _, _, .nil => .nil
  | _, _, .cons n t h => .cons ⟨t, rfl⟩ (vals_ints h)
def Only (H : Hp) : Prop := ∀ b, H b = none ∨ ∃ o xs, H b = some (.frz o (.lst xs))
theorem law_call {P : Program} {w : World} {K : PySem.W.Frag} {mg mb : Str → Option Value} {CX : CXT} {k : Nat} {fa a : Addr} {fd : FuncData} {x : Str} {sp : Sp} {s₁ : Shared} {vs : List Value} {ns : List Int}
    (KX : K.In s₁.heap) (hns : s₁.heap.Ns mainGlobals mg) (hb : s₁.heap.Ns builtinsNs mb) (hbb : ∀ x : Str, x ≠ "__name__" → mb x = bootBuiltins x) (hlim : s₁.heap.NoLimit) (hg : s₁.gens = #[])
    (ha : s₁.heap.get? a = some { cls := .type "list", data := .seq vs.toArray }) (hi : IntsAre vs ns) (hl : ns.length ≤ sizeLine) (hr : Room k callerA)
    (F : ∀ base : Heap, K.In base → base.Ns mainGlobals mg → FnOk P w K mg base CX k fa fd [x] sp) (hbind : ∀ (s : Shared) (u : Value), BindsTo s fd ⟨[u], []⟩ [(x, u)])
    (hsp : ∀ H : Hp, Only H → SqL K H a (ns.map V.int) → sp [.ref a] H (fun v _ => v = .bl true) fun _ _ _ => False)
    (hCX : ∀ H e s', CX [] H s₁ (fun _ _ _ => False) e s' → False) :
    codeAny (model P w) callerA (.call (.ref fa) ⟨[.ref a], []⟩) (fun r s' => r = .ok (.ret (.bool true)) ∧ OldK s₁.heap s'.heap ∧ s'.os = s₁.os ∧ AllBare s'.gens) s₁ := by
  have rv := vals_ints hi
  have lenV := hi.length
  -- from an abstract heap in which nothing but the script may be tracked
  have core : ∀ H : Hp, Only H → SqL K H a (ns.map V.int) → HOk P w H s₁.heap → (∀ b, H b ≠ none → b = a) → (H a ≠ none → K.lookup a = none) →
      codeAny (model P w) callerA (.call (.ref fa) ⟨[.ref a], []⟩) (fun r s' => r = .ok (.ret (.bool true)) ∧ OldK s₁.heap s'.heap ∧ s'.os = s₁.os ∧ AllBare s'.gens) s₁ := by
    intro H hO hS hok hA hK
    have base_of : ∀ {b : Addr} {o : Obj}, s₁.heap.get? b = some o → H b = none → (hidT s₁.heap H).get? b = some o := fun e n => hidT_get e n
    have noA : ∀ {b : Addr} {o : Obj} {es : Array DictEntry} {ep : Nat}, s₁.heap.get? b = some o → o.data = .dict es ep → H b = none := fun {b o es ep} e d => by
      cases q : H b with
      | none => rfl
      | some u =>
        have e' : b = a := hA b (by rw [q]; simp)
        subst e'
        rw [ha] at e; cases e
        have d' : Data.seq vs.toArray _ = Data.dict es ep := d
        cases d'
    have nsK : ∀ {b : Addr} {m : Str → Option Value}, s₁.heap.Ns b m → (hidT s₁.heap H).Ns b m := fun {b m} ⟨o, es, ep, e, d, r⟩ => ⟨o, es, ep, base_of e (noA e d), d, r⟩
    have hKb : K.In (hidT s₁.heap H) := fun b o e => base_of (KX b o e) (by
      cases q : H b with
      | none => rfl
      | some u =>
        have e' : b = a := hA b (by rw [q]; simp)
        subst e'
        rw [hK (by rw [q]; simp)] at e; cases e)
    have hM : Mod K mg (hidT s₁.heap H) := ⟨hKb, nsK hns, ⟨mb, nsK hb, hbb⟩, let ⟨mc, h1, h2⟩ := hlim; ⟨mc, nsK h1, h2⟩⟩
    have e0 : Env0 P w K mg (hidT s₁.heap H) callerA [] s₁ H := ⟨rfl, hM, fun b o e => of_hidT e, Nat.le_of_eq (hidT_size _ _), trivial, fun b hb => absurd (show b ∈ ([] : List Addr) from hb) (by simp), hok, .of_eq hg⟩
    refine codeAny_mono ((F _ hKb (nsK hns)).run callerA [] s₁ H ⟨[.ref a], []⟩ [.ref a] [.ref a] _ _ hr e0 (hbind s₁ (.ref a)) (.cons rfl .nil) (hsp H hO hS)) fun r s' h => ?_
    cases r with
    | error e => exact (hCX H e s' h).elim
    | ok fl =>
      cases fl with
      | next => exact False.elim h
      | brk => exact False.elim h
      | cont => exact False.elim h
      | ret u =>
        obtain ⟨v, H', os, bare, un, hok', r', q⟩ := h
        have q' : v = .bl true := q
        subst q'
        obtain rfl : u = Value.bool true := r'
        refine ⟨rfl, OldK.of_keep fun b o e => ?_, os, bare⟩
        cases q : H b with
        | none => exact un.keep b o e q (by intro z; exact absurd (show b ∈ ([] : List Addr) from z) (by simp)) (by simp)
        | some u =>
          rcases hO b with z | ⟨ob, xs, z⟩
          · rw [q] at z; cases z
          · have z2 := un.frzs b ob _ z
            obtain ⟨e1, _⟩ := hok b _ z
            obtain ⟨e2, _⟩ := hok' b _ z2
            rw [e] at e1; cases e1
            exact e2
  cases hk : K.lookup a with
  | some o =>
    -- the script is one of the module's own objects
    have e := KX a o hk
    rw [ha] at e
    cases e
    refine core (fun _ => none) (fun _ => .inl rfl) (.inr ⟨_, vs.toArray, _, hk, rfl, rfl, rfl, by rw [List.size_toArray, lenV]; exact hl, by simpa using rv⟩) (fun b u z => by have z' : (none : Option HO) = some u := z; cases z') (fun b z => absurd rfl z) fun z => absurd rfl z
  | none =>
    refine core (fun b => if b = a then some (.frz { cls := .type "list", data := .seq vs.toArray } (.lst (ns.map V.int))) else none) (fun b => ?_) (.inl (.inr ⟨{ cls := .type "list", data := .seq vs.toArray }, if_pos rfl⟩)) (fun b u z => ?_) (fun b z => ?_) fun _ => hk
    · by_cases hb : b = a
      · exact .inr ⟨_, _, if_pos hb⟩
      · exact .inl (if_neg hb)
    · by_cases hb : b = a
      · have z' := (if_pos hb).symm.trans z
        cases z'
        subst hb
        exact ⟨ha, by rw [List.length_map]; exact hl, vs, _, rv, ha⟩
      · have z' := (if_neg hb).symm.trans z
        cases z'
    · by_cases hb : b = a
      · exact hb
      · exact absurd (if_neg hb) z
end L2
namespace L2
open PySem PySem.Spec PyProof.Rows
theorem walk_of {l : PySem.W.OpenLaw} {n k : Nat} {q : Program} {loose : List Str} {XP : (Str → Option Value) → Heap → Prop} {YP : World → Heap → Prop} {d : DefRec} {K : Params → PySem.W.Frag} {CX : World → CXT} {sp : World → Sp} {x : Str}
    (hn : l.most = some n) (hn2 : n ≤ sizeLine) (hdf : d.params.defaults = []) (hr : Room k callerA)
    (hY : ∀ (w : World) (h : Heap), YP w h → (K w.params).In h)
    (F : ∀ (w : World) (mg : Str → Option Value) (fa : Addr) (h : Heap), (K w.params).In h → h.Ns mainGlobals mg → mg d.name = some (.ref fa) →
      ∃ fd : FuncData, (∀ (s : Shared) (u : Value), BindsTo s fd ⟨[u], []⟩ [(x, u)]) ∧
        ∀ base : Heap, (K w.params).In base → base.Ns mainGlobals mg → FnOk l.prog w (K w.params) mg base (CX w) k fa fd [x] (sp w))
    (hsp : ∀ (w : World) (H : Hp) (a : Addr) (ns : List Int), ns.length ≤ n → Only H → SqL (K w.params) H a (ns.map V.int) → sp w [.ref a] H (fun v _ => v = .bl true) fun _ _ _ => False)
    (hCX : ∀ (w : World) (H : Hp) (s : Shared) (e : Value) (s' : Shared), CX w [] H s (fun _ _ _ => False) e s' → False) :
    PySem.W.WalkO q loose XP YP l.row.toRowW d [] (fun f vs => PySem.call f vs) := by
  refine Att.attach_call hn hdf fun w s₀ s₁ mg mb fa o pm cd doc a vs ns G Y ho hd hcd hmg hobj hints hlen hg => ?_
  have KX := hY w _ Y
  obtain ⟨fd, hb, hF⟩ := F w mg fa _ KX G.T.g hmg
  exact law_call KX G.T.g G.T.b G.T.builtins G.T.nolimit hg hobj hints (Nat.le_trans hlen hn2) hr hF hb (fun H hO hS => hsp w H a ns hlen hO hS) fun H e s' => hCX w H s₁ e s'
end L2
namespace L2
open PySem PySem.Spec PyProof.Rows
def defArgs (s : Stmt) : Arguments := match s with
  | .FunctionDef _ a _ _ _ _ _ _ _ _ => a
  | _ => { posonlyargs := [], args := [], vararg := none, kwonlyargs := [], kw_defaults := [], kwarg := none, defaults := [] }
def defBody (s : Stmt) : List Stmt := match s with
  | .FunctionDef _ _ b _ _ _ _ _ _ _ => b
  | _ => []
def defScope (s : Stmt) : Scope := match s with
  | .FunctionDef _ _ _ _ _ _ sc _ _ _ => sc
  | _ => { kind := .function, names := [], isGenerator := false, isCoroutine := false }
abbrev CX0 : CXT := fun _ _ _ _ _ _ => False
abbrev E0 : XK := fun _ _ _ => False
theorem pass0 {X : Cx} : Passes CX0 X E0 := fun _ _ _ _ _ _ _ h => h.elim
structure Fun (K : PySem.W.Frag) (x qual : Str) (st : Stmt) (f : Addr) (fd : FuncData) : Prop where
  ex : ∃ (oc : Value) (od : Option Addr) (kV doc pm : Value) (an : Option Addr) (cdv ct : Value) (osl : Array (Option Value)),
    fd = PySem.W.fnOf x qual (defArgs st) (defBody st) (defScope st) .none kV doc pm an cdv ct ∧ K.lookup f = some ⟨oc, od, .func fd, osl⟩ ∧ PySem.W.codeIn K cdv qual = true
  kp : PySem.W.keepIn K (.ref f) = true
section
variable {P : Program} {w : World} {K : PySem.W.Frag} {mg : Str → Option Value} {base : Heap}
theorem Fun.ok {x qual : Str} {st : Stmt} {f : Addr} {fd : FuncData} {N ps : List Str} {k : Nat} {sp : Sp} (F : Fun K x qual st f fd) (S : FnScope N ps (defScope st)) (len : ∀ vs H Q E, sp vs H Q E → vs.length = ps.length)
    (hbody : ∀ (cdv : Value) (A : Around) (outer : List Env) (s : Shared) (H : Hp) (vs : List V) (Q : VK) (E : XK), Room k (A.deeper (envOfC qual (defScope st) s.heap.objs.size f cdv)) → sp vs H Q E →
      ∃ t, PSs (cxOf CX0 P w K mg base N qual (defScope st) f cdv A outer s H E).nox (defBody st) t ∧ t { nx := fun _ H' => Q .non H', rt := Q } (start N vs) H) : FnOk P w K mg base CX0 (k + 1) f fd ps sp := by
  obtain ⟨oc, od, kV, doc, pm, an, cdv, ct, osl, rfl, lk, hcd⟩ := F.ex
  refine fn_of lk hcd S len fun A outer s H vs Q E hr hsp => ?_
  obtain ⟨t, h, q⟩ := hbody cdv A outer s H vs Q E hr hsp
  exact ⟨t, h.nox, q⟩
theorem Fun.binds {x qual : Str} {st : Stmt} {f : Addr} {fd : FuncData} {ps : List Str} (F : Fun K x qual st f fd)
    (h : ∀ (kV doc pm : Value) (an : Option Addr) (cdv ct : Value) (us : List Value), us.length = ps.length → bindArgs (PySem.W.fnOf x qual (defArgs st) (defBody st) (defScope st) .none kV doc pm an cdv ct) ⟨us, []⟩ = pure (ps.zip us)) : Binds K fd ps [] := by
  obtain ⟨oc, od, kV, doc, pm, an, cdv, ct, osl, rfl, lk, hcd⟩ := F.ex
  exact .all (h kV doc pm an cdv ct)
theorem fun_mk {x qual : Str} {st : Stmt} {f : Addr} {oc : Value} {od an : Option Addr} {osl : Array (Option Value)} {kV doc pm cdv ct : Value} (l : K.lookup f = some ⟨oc, od, .func (PySem.W.fnOf x qual (defArgs st) (defBody st) (defScope st) .none kV doc pm an cdv ct), osl⟩)
    (c : PySem.W.codeIn K cdv qual = true) (k : PySem.W.keepIn K (.ref f) = true) : Fun K x qual st f (PySem.W.fnOf x qual (defArgs st) (defBody st) (defScope st) .none kV doc pm an cdv ct) := ⟨⟨oc, od, kV, doc, pm, an, cdv, ct, osl, rfl, l, c⟩, k⟩
end
section
variable {X : Cx}
theorem pv (i : Nat) {x : Str} {pos : Pos} (hN : X.N[i]? = some x := by rfl) (hv : Vis X.env.scope x := by first | exact Or.inl rfl | exact Or.inr (Or.inl rfl) | exact Or.inr (Or.inr rfl)) (hd : (x == ("__debug__" : Str)) = false := by decide)
    (hcd : (x == ("__classdict__" : Str)) = false := by decide) : PE X (.Name x pos) (tVar i) := pe_var hN hv hd hcd
end
theorem iteF {A B : Prop} (h : B) : if false = true then A else B := by
  rw [if_neg Bool.false_ne_true]
  exact h
theorem iteT {A B : Prop} (h : A) : if true = true then A else B := by
  rw [if_pos rfl]
  exact h
theorem ite2 {c A B : Prop} [Decidable c] (h1 : c → A) (h2 : ¬ c → B) : if c then A else B := by
  by_cases h : c
  · rw [if_pos h]
    exact h1 h
  · rw [if_neg h]
    exact h2 h
theorem iteNS {c A B : Prop} [Decidable c] (hc : c) (h : B) : if (!decide c) = true then A else B := by
  rw [decide_eq_true hc]
  exact iteF h
def Same (H H' : Hp) : Prop := ∀ b o, H b = some o → H' b = some o
theorem Same.refl (H : Hp) : Same H H := fun _ _ h => h
theorem Same.trans {H H1 H2 : Hp} (a : Same H H1) (b : Same H1 H2) : Same H H2 := fun c o h => b c o (a c o h)
theorem Same.free {H H' : Hp} (e : Same H H') {l : Addr} (h : H' l = Option.none) : H l = Option.none := by
  cases q : H l with
  | none => rfl
  | some o =>
    rw [e l o q] at h
    cases h
theorem Same.seq {K : PySem.W.Frag} {H H' : Hp} {a : Addr} {xs : List V} (e : Same H H') (h : SqL K H a xs) : SqL K H' a xs := by
  rcases h with (h | ⟨o, h⟩) | h
  · exact .inl (.inl (e _ _ h))
  · exact .inl (.inr ⟨o, e _ _ h⟩)
  · exact .inr h
end L2
namespace L2
open PySem PySem.Spec PyProof.Rows
section
variable {κ : Type} [DecidableEq κ]
def valV (kvs : List (κ × V)) (k : κ) : Option V := (kvs.find? fun kv => decide (kv.1 = k)).map (·.2)
def putK (kvs : List (κ × V)) (k : κ) (v : V) : List (κ × V) :=
  if (kvs.any fun kv => decide (kv.1 = k)) = true then kvs.map (fun kv => if kv.1 = k then (kv.1, v) else kv) else kvs ++ [(k, v)]
def dropK (kvs : List (κ × V)) (k : κ) : List (κ × V) := kvs.filter fun kv => decide (kv.1 ≠ k)
theorem valV_pos {p : κ × V} {r : List (κ × V)} {k : κ} (e : p.1 = k) : valV (p :: r) k = some p.2 := by simp [valV, List.find?_cons, e]
theorem valV_neg {p : κ × V} {r : List (κ × V)} {k : κ} (e : ¬ p.1 = k) : valV (p :: r) k = valV r k := by simp [valV, List.find?_cons, e]
theorem valV_any (k : κ) : ∀ kvs : List (κ × V), (kvs.any fun kv => decide (kv.1 = k)) = (valV kvs k).isSome
  | [] => rfl
  | p :: r => by
    rw [List.any_cons]
    by_cases e : p.1 = k
    · simp only [valV_pos e, decide_eq_true e, Bool.true_or, Option.isSome_some]
    · rw [valV_neg e, decide_eq_false e, Bool.false_or]; exact valV_any k r
theorem valV_map (k j : κ) (y : V) : ∀ kvs : List (κ × V), valV (kvs.map fun kv => if kv.1 = k then (kv.1, y) else kv) j = (valV kvs j).map fun x => if j = k then y else x
  | [] => rfl
  | p :: r => by
    have ih := valV_map k j y r
    rw [List.map_cons]
    by_cases h : p.1 = k
    · rw [if_pos h]
      by_cases e : p.1 = j
      · rw [valV_pos (p := (p.1, y)) e, valV_pos e, Option.map_some, if_pos (e.symm.trans h)]
      · rw [valV_neg (p := (p.1, y)) e, valV_neg e, ih]
    · rw [if_neg h]
      by_cases e : p.1 = j
      · rw [valV_pos (p := p) e, valV_pos e, Option.map_some, if_neg (fun z => h (e.trans z))]
      · rw [valV_neg (p := p) e, valV_neg e, ih]
theorem valV_snoc (k j : κ) (y : V) : ∀ kvs : List (κ × V), valV kvs k = none → valV (kvs ++ [(k, y)]) j = if j = k then some y else valV kvs j
  | [], _ => by
    by_cases e : k = j
    · rw [if_pos e.symm]; exact valV_pos (p := (k, y)) e
    · rw [if_neg (fun z => e z.symm)]; exact valV_neg (p := (k, y)) e
  | p :: r, hn => by
    rw [List.cons_append]
    have hk : ¬ p.1 = k := fun z => by rw [valV_pos z] at hn; cases hn
    rw [valV_neg hk] at hn
    have ih := valV_snoc k j y r hn
    by_cases e : p.1 = j
    · rw [valV_pos e, valV_pos e, if_neg (fun z => hk (e.trans z))]
    · rw [valV_neg e, valV_neg e, ih]
theorem valV_put (kvs : List (κ × V)) (k j : κ) (y : V) : valV (putK kvs k y) j = if j = k then some y else valV kvs j := by
  unfold putK
  by_cases a : (kvs.any fun kv => decide (kv.1 = k)) = true
  · rw [if_pos a, valV_map]
    rw [valV_any] at a
    by_cases e : j = k
    · obtain ⟨x, hx⟩ := Option.isSome_iff_exists.mp a
      rw [if_pos e, e, hx, Option.map_some, if_pos rfl]
    · rw [if_neg e]
      cases valV kvs j with
      | none => rfl
      | some x => rw [Option.map_some, if_neg e]
  · rw [if_neg a]
    refine valV_snoc k j y kvs ?_
    rw [valV_any] at a
    cases q : valV kvs k with
    | none => rfl
    | some x => rw [q] at a; exact (a rfl).elim
theorem RelO.isSome_eq {o : Option V} {u : Option Value} (r : RelO o u) : o.isSome = u.isSome := by
  cases o with
  | none => cases u with
    | none => rfl
    | some _ => exact (show False from r).elim
  | some _ => cases u with
    | none => exact (show False from r).elim
    | some _ => rfl
theorem RelO.getD {o : Option V} {u : Option Value} {d : V} {d' : Value} (r : RelO o u) (rd : RelV d d') : RelV (o.getD d) (u.getD d') := by
  cases o with
  | none => cases u with
    | none => exact rd
    | some _ => exact (show False from r).elim
  | some _ => cases u with
    | none => exact (show False from r).elim
    | some _ => exact r
theorem KV.val {kvs : List (κ × V)} {vs : List (κ × Value)} (r : KV kvs vs) (k : κ) : RelO (valV kvs k) (valueAt vs k) := by
  unfold KV at r
  induction r with
  | nil => exact True.intro
  | @cons p q ps qs h t ih =>
    obtain ⟨h1, h2⟩ := h
    by_cases e : p.1 = k
    · have e' : q.1 = k := h1.symm.trans e
      have b : valueAt (q :: qs) k = some q.2 := by simp [valueAt, List.find?_cons, e']
      rw [valV_pos e, b]; exact h2
    · have e' : ¬ q.1 = k := fun z => e (h1.trans z)
      have b : valueAt (q :: qs) k = valueAt qs k := by simp [valueAt, List.find?_cons, e']
      rw [valV_neg e, b]; exact ih
theorem KV.any {kvs : List (κ × V)} {vs : List (κ × Value)} (r : KV kvs vs) (k : κ) : (kvs.any fun kv => decide (kv.1 = k)) = vs.any fun kv => decide (kv.1 = k) := by
  unfold KV at r
  induction r with
  | nil => rfl
  | cons h t ih => rw [List.any_cons, List.any_cons, ih, h.1]
theorem KV.repl {kvs : List (κ × V)} {vs : List (κ × Value)} (r : KV kvs vs) (k : κ) {y : V} {u : Value} (ry : RelV y u) :
    KV (kvs.map fun kv => if kv.1 = k then (kv.1, y) else kv) (vs.map fun kv => if kv.1 = k then (kv.1, u) else kv) := by
  unfold KV at r ⊢
  induction r with
  | nil => exact .nil
  | @cons p q ps qs h t ih =>
    rw [List.map_cons, List.map_cons]
    refine .cons ?_ ih
    obtain ⟨h1, h2⟩ := h
    by_cases e : p.1 = k
    · rw [if_pos e, if_pos (h1.symm.trans e)]; exact ⟨h1, ry⟩
    · rw [if_neg e, if_neg (fun z => e (h1.trans z))]; exact ⟨h1, h2⟩
theorem KV.put {kvs : List (κ × V)} {vs : List (κ × Value)} (r : KV kvs vs) (k : κ) {y : V} {u : Value} (ry : RelV y u) : KV (putK kvs k y) (stored vs k u) := by
  unfold putK stored
  rw [r.any k]
  by_cases e : (vs.any fun kv => decide (kv.1 = k)) = true
  · rw [if_pos e, if_pos e]; exact r.repl k ry
  · rw [if_neg e, if_neg e]; exact Paired.snoc r ⟨rfl, ry⟩
theorem KV.drop {kvs : List (κ × V)} {vs : List (κ × Value)} (r : KV kvs vs) (k : κ) : KV (dropK kvs k) (without vs k) := by
  unfold KV at r ⊢
  unfold dropK without
  induction r with
  | nil => exact .nil
  | @cons p q ps qs h t ih =>
    obtain ⟨h1, h2⟩ := h
    rw [List.filter_cons, List.filter_cons]
    by_cases e : p.1 = k
    · have a : ¬ decide (p.1 ≠ k) = true := by simp [e]
      have b : ¬ decide (q.1 ≠ k) = true := by simp [h1.symm.trans e]
      rw [if_neg a, if_neg b]; exact ih
    · have e' : ¬ q.1 = k := fun z => e (h1.trans z)
      have a : decide (p.1 ≠ k) = true := by simp [e]
      have b : decide (q.1 ≠ k) = true := by simp [e']
      rw [if_pos a, if_pos b]; exact .cons ⟨h1, h2⟩ ih
theorem KV.keys {kvs : List (κ × V)} {vs : List (κ × Value)} (r : KV kvs vs) : kvs.map (·.1) = vs.map (·.1) := by
  unfold KV at r
  induction r with
  | nil => rfl
  | cons h t ih => rw [List.map_cons, List.map_cons, ih, h.1]
theorem KV.length {kvs : List (κ × V)} {vs : List (κ × Value)} (r : KV kvs vs) : kvs.length = vs.length := Paired.length r
end
theorem kV_is {P : Program} {w : World} {k : Key} {u : Value} (r : RelV (kV k) u) : (mixKind P w).is k u = true := by
  cases k with
  | inl i => obtain ⟨t, e⟩ := (show ∃ t, u = Value.int i t from r); subst e; exact mixKind_int P w i t
  | inr x => obtain ⟨t, e⟩ := (show ∃ t, u = Value.str x t from r); subst e; exact mixKind_str P w x t
theorem items_are {P : Program} {w : World} : ∀ {ks : List Key} {us : List Value}, Vals (ks.map kV) us → ItemsAre (mixKind P w) ks us
  | [], _, r => by rw [List.map_nil] at r; cases r; exact .nil
  | k :: ks, _, r => by
    rw [List.map_cons] at r
    cases r with
    | cons h t => exact .cons (kV_is h) (items_are t)
abbrev KT (H : Hp) : List (List Key × V) → List (List Key × Addr × Value) → Prop := Paired fun p q => p.1 = q.1 ∧ H q.2.1 = some (.tup (p.1.map kV)) ∧ RelV p.2 q.2.2
theorem KT.val {H : Hp} {kvs : List (List Key × V)} {xs : List (List Key × Addr × Value)} (r : KT H kvs xs) (k : List Key) : RelO (valV kvs k) ((atKey xs k).map (·.2)) := by
  induction r with
  | nil => exact True.intro
  | @cons p q ps qs h t ih =>
    obtain ⟨h1, _, h2⟩ := h
    by_cases e : p.1 = k
    · have e' : q.1 = k := h1.symm.trans e
      have b : atKey (q :: qs) k = some q.2 := by simp [atKey, List.find?_cons, e']
      rw [valV_pos e, b]; exact h2
    · have e' : ¬ q.1 = k := fun z => e (h1.trans z)
      have b : atKey (q :: qs) k = atKey qs k := by simp [atKey, List.find?_cons, e']
      rw [valV_neg e, b]; exact ih
theorem KT.repl {H : Hp} {kvs : List (List Key × V)} {xs : List (List Key × Addr × Value)} (r : KT H kvs xs) (k : List Key) {y : V} {u : Value} (ry : RelV y u) :
    KT H (kvs.map fun kv => if kv.1 = k then (kv.1, y) else kv) (xs.map (putAt k u)) := by
  induction r with
  | nil => exact .nil
  | @cons p q ps qs h t ih =>
    rw [List.map_cons, List.map_cons]
    refine .cons ?_ ih
    obtain ⟨h1, h2, h3⟩ := h
    unfold putAt
    by_cases e : p.1 = k
    · rw [if_pos e, if_pos (h1.symm.trans e)]; exact ⟨h1, h2, ry⟩
    · rw [if_neg e, if_neg (fun z => e (h1.trans z))]; exact ⟨h1, h2, h3⟩
theorem KT.put {H : Hp} {kvs : List (List Key × V)} {xs : List (List Key × Addr × Value)} (r : KT H kvs xs) (k : List Key) {b : Addr} {y : V} {u : Value} (hb : H b = some (.tup (k.map kV))) (ry : RelV y u) :
    KT H (putK kvs k y) (storedH xs k b u) := by
  have e : (kvs.any fun kv => decide (kv.1 = k)) = (atKey xs k).isSome := by
    rw [valV_any, (r.val k).isSome_eq, Option.isSome_map]
  unfold putK storedH
  rw [e]
  by_cases q : (atKey xs k).isSome = true
  · rw [if_pos q, if_pos q]; exact r.repl k ry
  · rw [if_neg q, if_neg q]; exact Paired.snoc r ⟨rfl, hb, ry⟩
section
variable {P : Program} {w : World} {H : Hp} {h : Heap} {a : Addr}
end
def DGet (H : Hp) (a : Addr) (y : V) (r : Option V) : Prop :=
  (∃ kvs k, Rd H a (.dK kvs) ∧ y = kV k ∧ r = valV kvs k) ∨ ∃ kvs k b, Rd H a (.dT kvs) ∧ y = .ref b ∧ H b = some (.tup (k.map kV)) ∧ r = valV kvs k
def DPut (H : Hp) (a : Addr) (y v : V) (H' : Hp) : Prop :=
  (∃ kvs k, H a = some (.dK kvs) ∧ y = kV k ∧ kvs.length < sizeLine ∧ H' = upd H a (.dK (putK kvs k v))) ∨
  ∃ kvs k b, H a = some (.dT kvs) ∧ y = .ref b ∧ H b = some (.tup (k.map kV)) ∧ kvs.length < sizeLine ∧ H' = upd H a (.dT (putK kvs k v))
theorem DGet.k {H : Hp} {a : Addr} {kvs : List (Key × V)} {k : Key} (e : H a = some (.dK kvs)) : DGet H a (kV k) (valV kvs k) := .inl ⟨kvs, k, .inl e, rfl, rfl⟩
theorem DGet.t {H : Hp} {a b : Addr} {kvs : List (List Key × V)} {k : List Key} (e : H a = some (.dT kvs)) (eb : H b = some (.tup (k.map kV))) : DGet H a (.ref b) (valV kvs k) := .inr ⟨kvs, k, b, .inl e, rfl, eb, rfl⟩
theorem DPut.k {H : Hp} {a : Addr} {kvs : List (Key × V)} {k : Key} {v : V} (e : H a = some (.dK kvs)) (hl : kvs.length < sizeLine) : DPut H a (kV k) v (upd H a (.dK (putK kvs k v))) := .inl ⟨kvs, k, e, rfl, hl, rfl⟩
theorem DPut.t {H : Hp} {a b : Addr} {kvs : List (List Key × V)} {k : List Key} {v : V} (e : H a = some (.dT kvs)) (eb : H b = some (.tup (k.map kV))) (hl : kvs.length < sizeLine) :
    DPut H a (.ref b) v (upd H a (.dT (putK kvs k v))) := .inr ⟨kvs, k, b, e, rfl, eb, hl, rfl⟩
section
variable {X : Cx} {pins : List (Addr × Obj)} {σ : St} {H : Hp} {s : Shared} {a : Addr} {y v : V} {u r : Value} {o : Option V} {A : Around} {E : Value → Shared → Prop}
theorem Inv.big (I : Inv X pins σ H s) : sysModules < s.heap.objs.size := by
  have h : mainGlobals < s.heap.objs.size := (I.mod.glob.keeps I.bk).lt
  exact Nat.lt_trans (by decide) h
end
section
variable {X : Cx} {pins : List (Addr × Obj)} {σ : St} {H : Hp} {s : Shared} {a : Addr} {kvs : List (Key × V)} {k : Key} {u : Value} {A : Around} {E : Value → Shared → Prop}
end
section
variable {X : Cx} {o i e value : Expr} {pos pos' tpos : Pos} {td ty tv : TE}
end
section
variable {X : Cx} {pos : Pos}
end
section
variable {X : Cx} {pins : List (Addr × Obj)} {σ : St} {H : Hp} {s : Shared} {a : Addr} {y d : V} {u r : Value} {o : Option V} {A : Around} {E : Value → Shared → Prop}
end
section
variable {X : Cx} {o e f : Expr} {apos cpos : Pos} {td ty tx : TE}
end
section
variable {X : Cx} {pins : List (Addr × Obj)} {σ : St} {H : Hp} {s : Shared} {a : Addr} {kvs : List (Key × V)} {A : Around} {E : Value → Shared → Prop}
end
section
variable {X : Cx} {pins : List (Addr × Obj)} {σ : St} {H : Hp} {s : Shared} {a : Addr} {y : V} {u : Value} {A : Around} {E : Value → Shared → Prop}
end
end L2
set_option maxHeartbeats 4000000
namespace L2
open PySem
def signs (z : Str) : List Str := z.cps.toList.map fun c => ⟨#[c]⟩
theorem signs_length (z : Str) : (signs z).length = z.length := by simp [signs, Str.length]
end L2
namespace L2
open PySem PySem.Spec PyProof.Rows
def cxComp (X : Cx) (scope : Scope) (x : Str) (C : Addr) (s : Shared) (H : Hp) (fp : List Addr) : Cx :=
  { X with
    N := [x]
    s₀ := s
    H₀ := H
    env := { scope := scope, locals := C, globals := X.env.globals, cells := [], qual := X.env.qual, func := none, code := X.env.code, frame := X.env.frame, builtins := X.env.builtins }
    outer := X.stack
    stack := X.stack
    ex := fp
    fn := fun _ => true
    pn := []
    xe := fun _ _ => False }
def tComp (wi : TI) (te : TE) : TE := fun σ H Q => wi σ H fun J H1 => ∀ D, H1 D = none → ∃ W : Nat → Nat → List V → Hp → Prop,
  (∃ m, W 0 m [] (upd H1 D (.lst []))) ∧ ∀ i m ys H2, W i m ys H2 → H2 D = some (.lst ys) ∧
    ((J.stop i H2 ∧ Q (.ref D) H2) ∨ (J.go i H2 ∧ ∀ x H3, J.yld i H2 x H3 → te [some x] H3 fun y H4 => H4 D = some (.lst ys) ∧ ys.length < sizeLine ∧ ∃ m', m' < m ∧ W (i + 1) m' (ys ++ [y]) (upd H4 D (.lst (ys ++ [y])))))
section
variable {X : Cx}
theorem pe_comp {elt iter : Expr} {x : Str} {px pos : Pos} {scope : Scope} {wi : TI} {te : TE} (hc : X.calm = true)
    (hfree : ∀ nk ∈ scope.names, nk.2 ≠ .free) (hcell : ∀ nk ∈ scope.names, nk.2 ≠ .cell) (hkind : scope.kind = .function)
    (hnames : ∀ nk ∈ scope.names, nk.2 = .local → scope.names.lookup nk.1 = some .local) (hx : scope.names.lookup x = some .local)
    (hi : PI X (.Name x px) iter wi) (he : ∀ C s H fp, PE (cxComp X scope x C s H fp) elt te)
    (hs : ∀ v, foldedSetIterable iter X.env v = pure v := by intro _; rfl) : PE X (.ListComp elt [⟨.Name x px, iter, [], 0⟩] scope pos) (tComp wi te) := by
  intro pins s σ H Q I h
  refine wpAny_ListComp hfree hkind hnames (thn (hi pins s σ H _ I h) fun v s1 h1 => thn h1 fun itv s2 h2 => ?_) hs
  obtain ⟨it, fp, tn, J, H2, e, I2, T, st2, f2, hR⟩ := h2
  subst e
  have hD0 : H2 s2.heap.objs.size = none := I2.fresh
  obtain ⟨W, ⟨m0, w0⟩, turnW⟩ := hR _ hD0
  have I3 : Inv X pins σ (upd H2 s2.heap.objs.size (.lst [])) { s2 with heap := s2.heap.push { cls := .type "list", data := .seq ([] : List Value).toArray } } := I2.lnew (t' := s2.toks) .nil (Nat.zero_le _)
  refine wpAny_newObj_type (wpAny_newFunctionEnv hcell (fun nk hnk => by simp at hnk) (fun h₁ hns₁ hsb₁ => ?_) hkind)
  dsimp only at hns₁ hsb₁ ⊢
  generalize hs3 : ({ s2 with heap := s2.heap.push { cls := .type "list", data := .seq ([] : List Value).toArray } } : Shared) = s3 at I3
  have eh3 : s3.heap = s2.heap.push { cls := .type "list", data := .seq ([] : List Value).toArray } := by rw [← hs3]
  have hC : s3.heap.objs.size = s2.heap.objs.size + 1 := by rw [eh3, Heap.size_push]
  have old : ∀ b o, s3.heap.get? b = some o → h₁.get? b = some o := fun b o e => by
    have hb : b ≠ s3.heap.objs.size := Nat.ne_of_lt (Heap.lt_size e)
    rw [eh3] at e hb
    exact hsb₁.extBut b o hb (Heap.get?_push_of_some _ e)
  have fpl : ∀ b ∈ fp, b < s2.heap.objs.size := fun b hb => let ⟨o, e, _⟩ := T.obj _ _ st2 b hb; Heap.lt_size e
  have fps : ∀ b ∈ fp, b ∉ frs X.stack := fun b hb z => (List.mem_cons.mp (I2.stkSub b z)).elim (f2 b hb).2.1 (f2 b hb).2.2.1
  let X' : Cx := cxComp X scope x s3.heap.objs.size s3 (upd H2 s2.heap.objs.size (.lst [])) fp
  have noc : ∀ (y : Str) (c : Addr), ¬ (([] : List (Str × Addr)).lookup y = some c) := fun y c e => by cases e
  have okX : X'.Ok := by
    refine ⟨I2.ok.mod, hkind, I2.ok.glob, I2.ok.blt, Nat.le_refl _, fun y z c e => absurd e (noc y c), fun y hy => ?_, fun y c _ e => absurd e (noc y c), I2.ok.hd, I2.ok.frames, .inl rfl, fun b hb => ⟨?_, fun y c e => absurd e (noc y c)⟩,
      I3.bs, Nat.le_trans I3.ok.bsz I3.sz, fun b o e hb => ?_, fps, I3.stack, I3.stkFree⟩
    · have hy' : scope.names.lookup y = some .cell ∨ scope.names.lookup y = some .free := hy
      rcases hy' with q | q
      · exact absurd rfl (hcell _ (PySem.mem_of_lookup q))
      · exact absurd rfl (hfree _ (PySem.mem_of_lookup q))
    · exact Nat.ne_of_lt (Nat.lt_of_lt_of_le (fpl b hb) (by show s2.heap.objs.size ≤ s3.heap.objs.size; rw [hC]; exact Nat.le_succ _))
    · rcases (f2 b hb).2.2.2.1 with z | z
      · exact I2.ok.noex b o e z
      · exact absurd (Nat.lt_of_lt_of_le (Heap.lt_size (I2.ok.bs b o e).1) z) (Nat.lt_irrefl _)
  have stat : ∀ {H' : Hp}, (∀ b ∈ fp, H' b = none) → ∀ b ∈ fp, FpOk X' [] H' b := fun hn b hb => by
    refine ⟨hn b hb, ?_, fps b hb, .inl hb, fun y c e => absurd e (noc y c), fun p hp => absurd (show p ∈ ([] : List (Addr × Obj)) from hp) (by simp)⟩
    exact Nat.ne_of_lt (Nat.lt_of_lt_of_le (fpl b hb) (by show s2.heap.objs.size ≤ s3.heap.objs.size; rw [hC]; exact Nat.le_succ _))
  have I4 : ∀ tk : Nat, Inv X' [] [none] (upd H2 s2.heap.objs.size (.lst [])) { s3 with heap := h₁, toks := tk } := fun tk => by
    refine ⟨okX, rfl, I3.bare, Un.kept old, ⟨_, by rw [← eh3] at hns₁; exact hns₁, fun i y v _ e2 _ => ?_⟩, fun y c e => absurd e (noc y c), I3.hok.fresh (Nat.le_refl _), fun y c e => absurd e (noc y c), fun p hp => absurd (show p ∈ ([] : List (Addr × Obj)) from hp) (by simp), I3.hok.kept old, rfl⟩
    cases i with
    | zero => simp at e2
    | succ i => simp at e2
  have fr0 : ∀ b ∈ fp, (upd H2 s2.heap.objs.size (.lst []) : Hp) b = none := fun b hb => by rw [upd_ne (Nat.ne_of_lt (fpl b hb))]; exact (f2 b hb).1
  have st4 : tn 0 h₁ := T.keep 0 _ _ st2 fun b hb o e => old b o (by rw [eh3]; exact Heap.get?_push_of_some _ e)
  have fin : ∀ {v0 : Option V} {H' : Hp} {s5 : Shared} {h' : Heap}, Inv X' [] [v0] H' s5 → Heap.SameBut s3.heap.objs.size s5.heap h' → Q (.ref s2.heap.objs.size) H' → EP X pins σ Q (.ref s2.heap.objs.size) { s5 with heap := h' } := by
    intro v0 H' s5 h' I5 sb q
    obtain ⟨hh, g, d, t, os'⟩ := s5
    have eo : os' = s3.os := I5.os
    subst eo
    have keepC : ∀ b o, b ≠ s3.heap.objs.size → hh.get? b = some o → h'.get? b = some o := fun b o hb e => sb.extBut b o hb e
    have ne3 : ∀ b o, s3.heap.get? b = some o → b ≠ s3.heap.objs.size := fun b o e => Nat.ne_of_lt (Heap.lt_size e)
    have u : Un (frs X.stack) fp (upd H2 s2.heap.objs.size (.lst [])) H' s3.heap hh := I5.base
    have un : Un (frs X.stack) fp (upd H2 s2.heap.objs.size (.lst [])) H' s3.heap h' :=
      ⟨fun b o e n hb hx => keepC b o (ne3 b o e) (u.keep b o e n hb hx), fun b o e n hb hx => let ⟨sl, q⟩ := u.slot b o e n hb hx; ⟨sl, keepC b _ (ne3 b o e) q⟩, u.free, fun b o e hx => let ⟨o', q⟩ := u.there b o e hx; ⟨o', keepC b o' (ne3 b o e) q⟩, u.tups, u.frzs, u.tbls⟩
    have hfree' : H' s3.heap.objs.size = none := I5.free
    have hok' : HOk X.prog X.w H' h' := fun b u e => by
      refine (I5.hok b u e).stay (fun c v hc q => keepC c v ?_ q) (fun _ q => q) fun _ _ q => q
      rcases hc with z | z
      · rw [z]; intro z2; rw [z2, hfree'] at e; cases e
      · intro z2; rw [z2, hfree'] at z; cases z
    have J := I3.call (h' := h') (g' := g) (d' := d) (t' := t) (ch := fp) un hok' I5.bare (fun b hb => let ⟨_, h1, _, h2, h3, h4⟩ := f2 b hb; ⟨h2, h1, h3, h4⟩)
    exact ⟨.ref s2.heap.objs.size, H', J, rfl, q⟩
  have loop : ∀ s4 : Shared, s4.heap = h₁ → (∃ tk, s4 = { s3 with heap := h₁, toks := tk }) →
      codeAny (model X.prog X.w) X.A (.compLoop (.ListComp elt [⟨.Name x px, iter, [], 0⟩] scope pos) 0 (.ref it) (.ref s2.heap.objs.size) X'.env)
        (fun r s' => ∃ m, s'.heap.Ns s3.heap.objs.size m ∧ ∀ h', Heap.SameBut s3.heap.objs.size s'.heap h' →
          match r with | .ok _ => EP X pins σ Q (.ref s2.heap.objs.size) { s' with heap := h' } | .error x => wpAny (model X.prog X.w) X.A (passOn "comprehension.variables-let-go" x X'.env) (EP X pins σ Q) X.xe { s' with heap := h' }) s4 := by
    rintro s4 e4 ⟨tk, rfl⟩
    refine codeAny_compLoop_list (fun n s' => ∃ i ys v0 H', Inv X' [] [v0] H' s' ∧ tn i s'.heap ∧ (∀ b ∈ fp, H' b = none) ∧ W i n ys H') ?_ m0 ⟨0, [], none, _, I4 tk, st4, fr0, w0⟩
    rintro n s5 ⟨i, ys, v0, H5, I5, st5, fr5, w5⟩
    obtain ⟨hD5, ⟨js, q⟩ | ⟨jg, step⟩⟩ := turnW i n ys H5 w5
    · refine wpAny_mono (T.done X' rfl rfl rfl hc i [] s5 _ H5 (fun _ _ => False) I5 (stat fr5) st5 js) (fun r s6 hr => ?_) fun _ _ z => z.elim
      obtain ⟨rfl, I6⟩ := hr
      obtain ⟨m, hn, _⟩ := I6.loc
      exact ⟨m, hn, fun h' sb => fin I6 sb q⟩
    · refine wpAny_mono (T.item X' rfl rfl rfl hc i [] s5 _ H5 (fun _ _ => False) I5 (stat fr5) st5 jg) (fun r s6 hr => ?_) fun _ _ z => z.elim
      obtain ⟨u, rfl, h6⟩ := hr
      show wpAny _ _ (letOwnedTupleGo (.Name x px) (.ref it) u >>= fun _ => assign (.Name x px) X'.env u) _ _ s6
      refine wpAny_bind (wpAny_mono h6 (fun _ s7 h7 => ?_) fun _ _ z => z.elim)
      obtain ⟨xv, H7, I7, r7, y7, st7, fr7⟩ := h7
      have I7' := I7.pinned (stat fr7) (T.obj _ _ st7)
      have nd : X'.N.Nodup := by show ([x] : List Str).Nodup; simp
      refine wpAny_mono (pg_name (X := X') (pos := px) (i := 0) (x := x) nd rfl (.inl hx) (.inl rfl) _ s7 [v0] H7 xv u (fun σ' H' => σ' = [some xv] ∧ H' = H7) I7' r7 ⟨rfl, rfl⟩) (fun _ s8 h8 => ?_) fun _ _ z => z.elim
      obtain ⟨σ8, H8, I8, rfl, rfl⟩ := h8
      refine wpAny_mono (he s3.heap.objs.size s3 (upd H2 s2.heap.objs.size (.lst [])) fp _ s8 [some xv] H8 _ I8 (step xv H8 y7)) (fun y s9 h9 => ?_) fun _ _ z => z.elim
      obtain ⟨yv, H9, I9, r9, hD9, hl9, m', lt, w9⟩ := h9
      refine wpAny_mono (mt_append (X := X') _ s9 [some xv] H9 (.ref s2.heap.objs.size) [yv] (.ref s2.heap.objs.size) [y] (fun _ H' => H' = upd H9 s2.heap.objs.size (.lst (ys ++ [yv]))) I9 rfl (.cons r9 .nil) ⟨_, ys, yv, rfl, rfl, hD9, hl9, rfl⟩) (fun _ s10 h10 => ?_) fun _ _ z => z.elim
      obtain ⟨_, H10, I10, _, rfl⟩ := h10
      refine ⟨m', lt, i + 1, ys ++ [yv], some xv, _, I10.unpinned, T.keep _ _ _ st7 fun b hb o e => (I10.pin (b, o) (List.mem_append_right _ (List.mem_append_right _ (mem_pinsAt hb e)))).1, fun b hb => ?_, w9⟩
      obtain ⟨o, e, d⟩ := T.obj _ _ st7 b hb
      exact (I10.pin (b, o) (List.mem_append_right _ (List.mem_append_right _ (mem_pinsAt hb e)))).2.1
  have L := loop { s3 with heap := h₁, toks := s2.toks + ([] : List (Str × Value)).length } rfl ⟨_, rfl⟩
  subst hs3
  exact codeAny_compStart_list L (T.self _ 0 _ _ _ st4 L)
end
def Its (z : Str) : It := ⟨fun i _ => i < z.length, fun i H x H' => H' = H ∧ ∃ c, z.cps[i]? = some c ∧ x = .str ⟨#[c]⟩, fun i _ => i = z.length⟩
theorem turn_str {P : Program} {w : World} {K : PySem.W.Frag} {tg : Expr} (it : Addr) (z : Str) (t : Tok) (ty : String)
    (W : ∀ A : Around, A.handled = none → Walks P w A it [it] [it] z.cps.size (SignAt z) (fun i h => h.IsStrIter it ty z t i))
    (hn : ["enumerate", "zip", "dict_itemiterator", "dict_reverseitemiterator", "odict_iterator", "itertools.zip_longest", "itertools.pairwise"].contains ty = false)
    (hself : ∀ (A : Around) (i : Nat) (s : Shared) (Q : Value → Shared → Prop) (E : Value → Shared → Prop), s.heap.IsStrIter it ty z t i → Q (.ref it) s → wpAny (model P w) A (pyIter (.ref it)) Q E s) :
    Turn P w K tg (Its z) [it] it (fun i h => h.IsStrIter it ty z t i) where
  mem := by simp
  obj := fun i h st b hb => by
    have e : b = it := by simpa using hb
    subst e
    obtain ⟨o, e, c, d⟩ := st
    exact ⟨o, e, fun v z => by rw [d] at z; cases z⟩
  keep := fun i h h' st k => by
    obtain ⟨o, e, r⟩ := st
    exact ⟨o, k it (by simp) o e, r⟩
  item := by
    intro X hP hw hK hc i pins s σ H E I hf st hg
    subst hP hw hK
    obtain ⟨f0, f1, f2, f3, f4, f5⟩ := hf it (by simp)
    refine (W X.A (I.ok.hd hc)).item i s _ _ hg st fun v h' tk hv st' kk => ?_
    obtain ⟨c, u, hcx, rfl⟩ := hv
    have I1 : Inv X pins σ H { s with heap := h', toks := tk } := I.turned (fun b o hb e => kk b o (by simpa using hb) e) f0 f1 f3 f4 f5
    obtain ⟨o, e, cl, d⟩ := id st'
    exact ⟨_, rfl, go_of (s := { s with heap := h', toks := tk }) e cl d hn ⟨.str ⟨#[c]⟩, H, I1, ⟨u, rfl⟩, ⟨rfl, c, hcx, rfl⟩, st', fun b hb => (hf b hb).1⟩⟩
  done := by
    intro X hP hw hK hc i pins s σ H E I hf st hg
    subst hP hw hK
    obtain ⟨f0, f1, f2, f3, f4, f5⟩ := hf it (by simp)
    have hi : i = z.length := hg
    subst hi
    exact (W X.A (I.ok.hd hc)).done s _ _ st fun h' tk kk => ⟨rfl, I.turned (fun b o hb e => kk b o (by simpa using hb) e) f0 f1 f3 f4 f5⟩
  self := fun A i s Q E st h => hself A i s Q E st h
section
variable {X : Cx} {tg : Expr}
def iStr (tl : TE) : TI := fun σ H R => tl σ H fun x H1 => ∃ z, x = .str z ∧ R (Its z) H1
theorem pi_str {l : Expr} {tl : TE} (hl : PE X l tl) : PI X tg l (iStr tl) := by
  intro pins s σ H R I h
  refine thn (hl pins s σ H _ I h) fun v s1 ⟨x, H1, I1, r1, q1⟩ => ?_
  obtain ⟨z, e, q⟩ := q1
  subst e
  obtain ⟨t, rfl⟩ := r1
  have fp0 : ∀ b ∈ [s1.heap.objs.size], FpOk X pins H1 b := fun b hb => by
    have e : b = s1.heap.objs.size := by simpa using hb
    subst e
    exact I1.fpOk (Nat.le_refl _) (I1.hok.fresh (Nat.le_refl _))
  cases ha : z.cps.all (· < 128)
  · refine wpAny_pyIter_wide ha ?_
    exact ⟨s1.heap.objs.size, [s1.heap.objs.size], _, _, H1, rfl, I1.kept (t' := s1.toks) fun b o e => Heap.get?_push_of_some _ e, turn_str _ z t "str_iterator" (fun A hA => Walks.strWide hA _ z t) (by decide) (fun A i s Q E st h => wpAny_pyIter_striter_wide st h), ⟨_, Heap.get?_push_size _ rfl, rfl, rfl⟩, fp0, q⟩
  · refine wpAny_pyIter_ascii ha ?_
    exact ⟨s1.heap.objs.size, [s1.heap.objs.size], _, _, H1, rfl, I1.kept (t' := s1.toks) fun b o e => Heap.get?_push_of_some _ e, turn_str _ z t "str_ascii_iterator" (fun A hA => Walks.strAscii hA _ z t) (by decide) (fun A i s Q E st h => wpAny_pyIter_striter_ascii st h), ⟨_, Heap.get?_push_size _ rfl, rfl, rfl⟩, fp0, q⟩
end
theorem Same.new {H : Hp} {p : Addr} (h : H p = none) (o : HO) : Same H (upd H p o) := fun b u q => by rw [upd_ne (ne_of_none q h)]; exact q
theorem Same.put {H H' : Hp} {p : Addr} {o o' : HO} (e : Same (upd H p o) H') (h : H p = none) : Same H (upd H' p o') := fun b u q => by
  have hb : b ≠ p := ne_of_none q h
  rw [upd_ne hb]
  exact e b u (by rw [upd_ne hb]; exact q)
theorem comp_list {K : PySem.W.Frag} {a : Addr} {xs : List V} {te : TE} {H1 : Hp} {QD : Hp → Prop} {f : V → V} (D : Addr) (hD : H1 D = none) (hq : SqL K H1 a xs) (hz : xs.length < sizeLine)
    (he : ∀ x H R, x ∈ xs → (∀ H', Same H H' → R (f x) H') → te [some x] H R)
    (hd : ∀ H', Same H1 H' → H' D = some (.lst (xs.map f)) → QD H') :
    ∃ W : Nat → Nat → List V → Hp → Prop, (∃ m, W 0 m [] (upd H1 D (.lst []))) ∧ ∀ i m ys H2, W i m ys H2 → H2 D = some (.lst ys) ∧
      (((Itl K a).stop i H2 ∧ QD H2) ∨ ((Itl K a).go i H2 ∧ ∀ x H3, (Itl K a).yld i H2 x H3 → te [some x] H3 fun y H4 => H4 D = some (.lst ys) ∧ ys.length < sizeLine ∧ ∃ m', m' < m ∧ W (i + 1) m' (ys ++ [y]) (upd H4 D (.lst (ys ++ [y]))))) := by
  refine ⟨fun i m ys H2 => m = xs.length - i ∧ i ≤ xs.length ∧ ys = (xs.take i).map f ∧ H2 D = some (.lst ys) ∧ Same H1 H2, ⟨xs.length, by simp, Nat.zero_le _, by simp, upd_same, Same.new hD _⟩, ?_⟩
  rintro i m ys H2 ⟨rfl, hi, rfl, hD2, sm⟩
  refine ⟨hD2, ?_⟩
  have q2 := sm.seq hq
  by_cases hlt : i < xs.length
  · refine .inr ⟨⟨xs, xs[i], q2, by simp [hlt]⟩, fun x H3 y => ?_⟩
    obtain ⟨rfl, y⟩ := y
    have hx := y xs q2
    refine he x H3 _ (List.mem_of_getElem? hx) fun H' sm' => ?_
    have hl : ((xs.take i).map f).length = i := by rw [List.length_map, List.length_take]; omega
    refine ⟨sm' _ _ hD2, by rw [hl]; omega, xs.length - (i + 1), by omega, rfl, hlt, ?_, upd_same, ?_⟩
    · rw [← List.map_singleton, ← List.map_append]
      congr 1
      rw [List.take_succ, hx]
      rfl
    · intro b o e
      have hb : b ≠ D := ne_of_none e hD
      rw [upd_ne hb]
      exact sm' _ _ (sm _ _ e)
  · have e : i = xs.length := by omega
    subst e
    rw [List.take_length] at hD2
    exact .inl ⟨⟨xs, q2, Nat.le_refl _⟩, hd H2 sm hD2⟩
theorem comp_str {z : Str} {te : TE} {H1 : Hp} {QD : Hp → Prop} {f : Str → V} (D : Addr) (hD : H1 D = none) (hz : z.length < sizeLine)
    (he : ∀ x H R, x ∈ signs z → (∀ H', Same H H' → R (f x) H') → te [some (.str x)] H R)
    (hd : ∀ H', Same H1 H' → H' D = some (.lst ((signs z).map f)) → QD H') :
    ∃ W : Nat → Nat → List V → Hp → Prop, (∃ m, W 0 m [] (upd H1 D (.lst []))) ∧ ∀ i m ys H2, W i m ys H2 → H2 D = some (.lst ys) ∧
      (((Its z).stop i H2 ∧ QD H2) ∨ ((Its z).go i H2 ∧ ∀ x H3, (Its z).yld i H2 x H3 → te [some x] H3 fun y H4 => H4 D = some (.lst ys) ∧ ys.length < sizeLine ∧ ∃ m', m' < m ∧ W (i + 1) m' (ys ++ [y]) (upd H4 D (.lst (ys ++ [y]))))) := by
  have hL := signs_length z
  refine ⟨fun i m ys H2 => m = z.length - i ∧ i ≤ z.length ∧ ys = ((signs z).take i).map f ∧ H2 D = some (.lst ys) ∧ Same H1 H2, ⟨z.length, by simp, Nat.zero_le _, by simp, upd_same, Same.new hD _⟩, ?_⟩
  rintro i m ys H2 ⟨rfl, hi, rfl, hD2, sm⟩
  refine ⟨hD2, ?_⟩
  by_cases hlt : i < z.length
  · refine .inr ⟨hlt, fun x H3 y => ?_⟩
    obtain ⟨rfl, c, hc, rfl⟩ := y
    have hx : (signs z)[i]? = some ⟨#[c]⟩ := by
      unfold signs
      rw [List.getElem?_map]
      have : z.cps.toList[i]? = some c := by rw [Array.getElem?_toList]; exact hc
      rw [this]; rfl
    refine he ⟨#[c]⟩ H3 _ (List.mem_of_getElem? hx) fun H' sm' => ?_
    have hl : (((signs z).take i).map f).length = i := by rw [List.length_map, List.length_take]; omega
    refine ⟨sm' _ _ hD2, by rw [hl]; omega, z.length - (i + 1), by omega, rfl, hlt, ?_, upd_same, ?_⟩
    · rw [← List.map_singleton, ← List.map_append]
      congr 1
      rw [List.take_succ, hx]
      rfl
    · intro b o e
      have hb : b ≠ D := ne_of_none e hD
      rw [upd_ne hb]
      exact sm' _ _ (sm _ _ e)
  · have e : i = z.length := by omega
    subst e
    rw [← hL, List.take_length] at hD2
    exact .inl ⟨rfl, hd H2 sm hD2⟩
theorem vals_strs : ∀ l : List (Str × Tok), Vals (l.map fun p => V.str p.1) (strValues l)
  | [] => .nil
  | p :: r => .cons ⟨p.2, rfl⟩ (vals_strs r)
theorem vals_strs' {l : List (Str × Tok)} {ts : List Str} (h : l.map (·.1) = ts) : Vals (ts.map V.str) (strValues l) := by
  subst h
  rw [List.map_map]
  exact vals_strs l
theorem strsAre_vals : ∀ {ts : List Str} {us : List Value}, Vals (ts.map V.str) us → StrsAre us ts
  | [], _, .nil => .nil
  | t :: ts, _, .cons ⟨k, e⟩ r => by
    subst e
    exact .cons t k (strsAre_vals r)
section
variable {X : Cx}
theorem Inv.strs {pins : List (Addr × Obj)} {σ : St} {H : Hp} {s : Shared} (I : Inv X pins σ H s) {l : List (Str × Tok)} {ts : List Str} (h : l.map (·.1) = ts) (hz : ts.length ≤ sizeLine) (k : Nat) :
    Inv X pins σ (upd H s.heap.objs.size (.lst (ts.map V.str))) { s with heap := s.heap.push { cls := .type "list", data := .seq (strValues l).toArray }, toks := k } :=
  I.lnew (vals_strs' h) (by rw [List.length_map]; exact hz)
theorem split_len (z y : Str) : (Txt.split z y).length ≤ z.length + 2 := by
  have e1 := StrLaws.occ_length_le z y 0 z.length (z.length + 1)
  unfold Txt.split
  split
  · simp
  · split
    · simp
    · rw [length_partsBetween]; omega
def rSplit1 : V → List V → Hp → VK → Prop := fun x vs H Q => ∃ z y, x = .str z ∧ vs = [.str y] ∧ (y.length == 0) = false ∧ z.length ≤ 1000 ∧ ∀ D, H D = none → Q (.ref D) (upd H D (.lst ((Txt.split z y).map V.str)))
theorem mt_split1 : MtM X "str.split" rSplit1 := by
  intro pins s σ H x vs v us Q I rx rv h
  obtain ⟨z, y, rfl, rfl, hy, hz, q⟩ := h
  obtain ⟨t, rfl⟩ := rx
  obtain ⟨u, rfl, ru⟩ := rv.one
  obtain ⟨t', rfl⟩ := ru
  have big : (1002 : Nat) ≤ sizeLine := by rw [sizeLine_eq]; decide
  have hl : (Txt.split z y).length ≤ sizeLine := by have := split_len z y; omega
  have fin : ∀ (l : List (Str × Tok)) (k : Nat), l.map (·.1) = Txt.split z y → EP X pins σ Q (.ref s.heap.objs.size) { s with heap := s.heap.push { cls := .type "list", data := .seq (strValues l).toArray }, toks := k } := fun l k e =>
    ⟨.ref s.heap.objs.size, _, I.strs e hl k, rfl, q _ I.fresh⟩
  have hn : (Builtin.Str.partsBetween z (Builtin.Str.occurrences z y 0 z.length (z.length + 1)) y.length).length ≤ sizeLine := by
    have e1 := StrLaws.occ_length_le z y 0 z.length (z.length + 1)
    rw [length_partsBetween]; omega
  cases h1 : (decide (z.length < y.length) || decide (Builtin.Str.strKind z < Builtin.Str.strKind y))
  · cases hf : (Builtin.Str.occurrences z y 0 z.length (z.length + 1)).isEmpty
    · refine call_meets F.slot_str_split (typeIs_str _ _ _) F.entry_str_split (F.args_str_split_2 _ _) (meets_str_split_sep z y t t' h1 hy hf (by omega) hn) ?_
      show wants (EP X pins σ Q) X.xe _ { s with toks := _, heap := s.heap.push { cls := .type "list", data := .seq (strsFrom s.toks (Builtin.Str.partsBetween z (Builtin.Str.occurrences z y 0 z.length (z.length + 1)) y.length)).toArray } }
      rw [strsFrom_eq]
      exact fin (numbered s.toks _) _ ((numbered_texts _ _).trans ((if_neg (ne_true_of_eq_false h1)).trans (if_neg (ne_true_of_eq_false hf))).symm)
    · exact call_meets F.slot_str_split (typeIs_str _ _ _) F.entry_str_split (F.args_str_split_2 _ _) (meets_str_split_not_found z y t t' h1 hy hf) (fin [(z, t)] s.toks ((if_neg (ne_true_of_eq_false h1)).trans (if_pos hf)).symm)
  · exact call_meets F.slot_str_split (typeIs_str _ _ _) F.entry_str_split (F.args_str_split_2 _ _) (meets_str_split_cannot_occur z y t t' h1) (fin [(z, t)] s.toks (if_pos h1).symm)
def rJoin (K : PySem.W.Frag) : V → List V → Hp → VK → Prop := fun x vs H Q => ∃ z p ts, x = .str z ∧ vs = [.ref p] ∧ SqL K H p (ts.map V.str) ∧ (ts.map (·.length)).sum + ts.length * z.length ≤ 16777216 ∧ Q (.str (Txt.join z ts)) H
theorem mt_join : MtM X "str.join" (rJoin X.K) := by
  intro pins s σ H x vs v us Q I rx rv h
  obtain ⟨z, p, ts, rfl, rfl, hq, hz, q⟩ := h
  obtain ⟨t, rfl⟩ := rx
  obtain ⟨u, rfl, ru⟩ := rv.one
  cases ru
  obtain ⟨its, r, pl, _⟩ := I.list hq
  exact join_list pl.isList (strsAre_vals (by simpa using r)) hz fun t' k => ⟨.str _, H, I.tok _, ⟨_, rfl⟩, q⟩
def rSlS : V → Option Int → Option Int → Hp → VK → Prop := fun x lo hi H Q => ∃ z, x = .str z ∧ z.length ≤ sizeLine ∧ Q (.str (Txt.slice z lo hi)) H
theorem sl_str : SlR X rSlS := by
  intro pins s σ H x v vl vu lo hi sl Q I rx hs pl pu h
  obtain ⟨z, rfl, hz, q⟩ := h
  obtain ⟨t, rfl⟩ := rx
  refine ⟨"str", _, F.slot_str_getitem.lookup, typeIs_str _ _ _, ?_⟩
  have fin : ∀ (t' : Tok) (k : Nat), EP X pins σ Q (.str (Txt.slice z lo hi) t') { s with toks := k } := fun t' k => ⟨.str _, H, I.tok _, ⟨_, rfl⟩, q⟩
  cases pl with
  | none => cases pu with
    | none => exact wpAny_getItem_str_slice (l := none) (u := none) (st := none) hs rfl (post_val_or_str ⟨Nat.le_trans (Txt.slice_le z _ _) hz, fin⟩)
    | int j tj => exact wpAny_getItem_str_slice (l := none) (u := some (j, tj)) (st := none) hs rfl (post_val_or_str ⟨Nat.le_trans (Txt.slice_le z _ _) hz, fin⟩)
  | int i ti => cases pu with
    | none => exact wpAny_getItem_str_slice (l := some (i, ti)) (u := none) (st := none) hs rfl (post_val_or_str ⟨Nat.le_trans (Txt.slice_le z _ _) hz, fin⟩)
    | int j tj => exact wpAny_getItem_str_slice (l := some (i, ti)) (u := some (j, tj)) (st := none) hs rfl (post_val_or_str ⟨Nat.le_trans (Txt.slice_le z _ _) hz, fin⟩)
def tJoin2 (ta tb : TE) : TE := fun σ H Q => ta σ H fun x H1 => ∃ a, x = .str a ∧ (Str.empty ++ a).length ≤ sizeLine ∧ tb σ H1 fun y H2 => ∃ b, y = .str b ∧ (Str.empty ++ a ++ b).length ≤ sizeLine ∧ Q (.str (Str.empty ++ a ++ b)) H2
theorem pe_join2 {a b : Expr} {ta tb : TE} {pos : Pos} (ha : PE X a ta) (hb : PE X b tb) : PE X (.JoinedStr [a, b] pos) (tJoin2 ta tb) := by
  intro pins s σ H Q I h
  refine wpAny_JoinedStr ?_
  show wpAny _ _ (eval a X.env) _ _ s
  refine thn (ha pins s σ H _ I h) fun v s1 ⟨x, H1, I1, r1, q1⟩ => ?_
  obtain ⟨y, rfl, hy, q1⟩ := q1
  obtain ⟨t, rfl⟩ := r1
  refine ⟨y, t, rfl, hy, ?_⟩
  show wpAny _ _ (eval b X.env) _ _ s1
  refine thn (hb pins s1 σ H1 _ I1 q1) fun v s2 ⟨x, H2, I2, r2, q2⟩ => ?_
  obtain ⟨y2, rfl, hy2, q2⟩ := q2
  obtain ⟨t2, rfl⟩ := r2
  exact ⟨y2, t2, rfl, hy2, hy2, .str _, H2, I2.tok _, ⟨_, rfl⟩, q2⟩
theorem vals_bools : ∀ {bs : List Bool} {us : List Value}, Vals (bs.map V.bl) us → ∀ (i : Nat) (v : Value), us[i]? = some v → ∃ b, bs[i]? = some b ∧ v = .bool b
  | [], _, .nil, i, v, e => by simp at e
  | b :: bs, _, .cons r _, 0, v, e => by
    have r' : _ = Value.bool b := r
    simp at e; subst e; exact ⟨b, rfl, r'⟩
  | b :: bs, _, .cons _ t, i + 1, v, e => by
    obtain ⟨c, h1, h2⟩ := vals_bools t i v (by simpa using e)
    exact ⟨c, by simpa using h1, h2⟩
theorem range_all' (bs : List Bool) : ((List.range bs.length).all fun i => (bs[i]?).getD true) = bs.all id := by
  induction bs with
  | nil => rfl
  | cons b bs ih =>
    rw [List.length_cons, List.range_succ_eq_map, List.all_cons, List.all_map, List.all_cons, ← ih]
    rfl
theorem call_all (hc : X.calm = true) : CallR X (.builtin "all") (fun xs H Q => ∃ (p : Addr) (bs : List Bool), xs = [.ref p] ∧ SqL X.K H p (bs.map V.bl) ∧ Q (.bl (bs.all id)) H) := by
  intro pins s σ H xs us Q I r h
  obtain ⟨p, bs, rfl, hq, q⟩ := h
  obtain ⟨u, rfl, ru⟩ := vals1 r
  cases ru
  obtain ⟨its, rv, pl, hz⟩ := I.list hq
  have isl := pl.isList
  have below : p < s.heap.objs.size := by obtain ⟨_, e, _⟩ := isl; exact Heap.lt_size e
  have hlen := rv.length
  rw [List.length_map] at hlen
  have W := Walks.list (prog := X.prog) (w := X.w) (A := X.A.in1) (I.ok.hd hc) s.heap.objs.size p (Nat.ne_of_lt below) its.toArray
  have truths : TruthOf X.prog X.w X.A.in1 (fun i v => its.toArray[i]? = some v) (fun i => (bs[i]?).getD true) := fun i v s1 R E1 at_i hR => by
    obtain ⟨b, eb, ev⟩ := vals_bools rv i v (by simpa using at_i)
    subst ev
    have hR2 : R ((bs[i]?).getD true) s1 := hR
    rw [eb] at hR2
    exact wpAny_truthy_bool hR2
  have worth : ((List.range its.toArray.size).all fun i => (bs[i]?).getD true) = bs.all id := by
    rw [List.size_toArray, ← hlen]; exact range_all' bs
  have begun : (s.heap.push { cls := .type "list_iterator", data := .fields #[.ref p, .int 0 0] }).IsListIter s.heap.objs.size p 0 := ⟨_, Heap.get?_push_size _ rfl, rfl, rfl⟩
  refine call_all_walk (wpAny_pyIter_list isl ⟨s.heap.objs.size, _, _, _, _, _, _, rfl, W, ⟨begun, isl.push _⟩, truths, fun h1 tk same => ?_⟩)
  rw [worth]
  refine ⟨.bl _, H, I.kept (h' := h1) (t' := tk) (fun b o e => same b o (fun hm => ?_) (Heap.get?_push_of_some _ e)), rfl, q⟩
  have eb := List.mem_singleton.mp hm
  subst eb
  exact Nat.lt_irrefl _ (Heap.lt_size e)
theorem call_isinst : CallR X (.builtin "isinstance") (fun xs H Q => ∃ x t T b, xs = [x, .ty T] ∧ TyOf X.K H x t ∧ PySem.W.kitOne X.K t (.type T) = some b ∧ Q (.bl b) H) := by
  intro pins s σ H xs us Q I r h
  obtain ⟨x, t, T, b, rfl, ty, hk, q⟩ := h
  obtain ⟨u, w', rfl, r1, r2⟩ := vals2 r
  cases r2
  exact isinst_ok I r1 ty hk fun tk => ⟨.bl b, H, I.tok _, rfl, q⟩
theorem Same.tup {K : PySem.W.Frag} {H H' : Hp} {a : Addr} {xs : List V} (e : Same H H') (h : SqT K H a xs) : SqT K H' a xs := by
  rcases h with (h | ⟨o, h⟩) | h
  · exact .inl (.inl (e _ _ h))
  · exact .inl (.inr ⟨o, e _ _ h⟩)
  · exact .inr h
end
end L2
namespace L2
open PySem PySem.Spec PyProof.Rows
theorem runs_toks {M : Model} {Γ : PySem.Ctx} {p : Pos} {t : Sem Fin} {fs : List Frame} {s s' : Shared} {e : End} (h : Runs M Γ p t fs s e s') : s.toks ≤ s'.toks := by
  induction h with
  | done => exact Nat.le_refl _
  | raise => exact Nat.le_refl _
  | yield => exact Nat.le_refl _
  | fresh _ ih => exact Nat.le_trans (Nat.le_succ _) ih
  | call _ _ a b => exact Nat.le_trans a b
  | resumeFresh _ _ _ _ a b => exact Nat.le_trans a b
  | resumeSuspended _ _ _ _ a b => exact Nat.le_trans a b
  | segRet _ _ a b => exact Nat.le_trans a b
  | segGen _ _ a b => exact Nat.le_trans a b
  | segSuspGen _ _ _ _ a b => exact Nat.le_trans a b
  | again _ _ ih => exact ih
  | rule _ ih => exact ih
  | «at» _ ih => exact ih
  | load _ _ ih => exact ih
  | update _ _ ih => exact ih
  | loadIfAlive _ ih => exact ih
  | point _ ih => exact ih
  | alloc _ ih => exact ih
  | ask _ ih => exact ih
  | choose _ _ ih => exact ih
  | os _ ih => exact ih
  | handled _ ih => exact ih
  | genState _ _ ih => exact ih
  | stack _ ih => exact ih
  | thread _ ih => exact ih
  | newGen _ ih => exact ih
  | callSusp _ ih => exact ih
  | resumeJustStarted _ _ _ ih => exact ih
  | resumeThrowFresh _ _ ih => exact ih
  | resumeRunning _ _ ih => exact ih
  | resumeFinished _ _ ih => exact ih
  | segSuspOut _ _ ih => exact ih
theorem wakes_toks {M : Model} {Γ : PySem.Ctx} {p : Pos} {g : Nat} {r : Resume} {s s' : Shared} {res : GenResult} (h : Wakes M Γ p g r s res s') : s.toks ≤ s'.toks := by
  unfold Wakes at h
  split at h
  · exact h.elim
  · split at h
    · obtain ⟨e1, s1, hr, _, _, rfl⟩ := h
      have := runs_toks hr
      exact this
    · obtain ⟨_, rfl⟩ := h; exact Nat.le_refl _
    · obtain ⟨_, rfl⟩ := h; exact Nat.le_refl _
  · obtain ⟨e1, s1, hr, _, _, rfl⟩ := h
    have := runs_toks hr
    exact this
  · obtain ⟨_, rfl⟩ := h; exact Nat.le_refl _
  · obtain ⟨_, rfl⟩ := h; exact Nat.le_refl _
theorem wp_toks {α : Type} {M : Model} {Γ : PySem.Ctx} (n : Nat) (t : Sem α) {Q : α → Pos → Shared → Prop} {E : Value → Pos → Shared → Prop} {p : Pos} {s : Shared} (hn : n ≤ s.toks) (h : Sem.wp M Γ t Q E p s) :
    Sem.wp M Γ t (fun a p' s' => Q a p' s' ∧ n ≤ s'.toks) E p s := by
  induction t generalizing p s with
  | pure a => exact ⟨h, hn⟩
  | raise v => exact h
  | unsupported => exact h
  | finish => exact h
  | yield => exact h
  | fork => exact h
  | await => exact h
  | register => exact h
  | rule _ k ih => exact ih _ hn h
  | «at» _ k ih => exact ih _ hn h
  | alloc _ k ih => exact ih _ hn h
  | loadIfAlive _ k ih => exact ih _ hn h
  | point _ k ih => exact ih _ hn h
  | fresh k ih => exact ih _ (Nat.le_succ_of_le hn) h
  | ask k ih => exact ih _ hn h
  | os _ _ k ih => exact ih _ hn h
  | handled _ k ih => exact ih _ hn h
  | newGen _ k ih => exact ih _ hn h
  | stack k ih => exact ih _ hn h
  | thread k ih => exact ih _ hn h
  | load a _ k ih => obtain ⟨o, ho, h⟩ := h; exact ⟨o, ho, ih _ hn h⟩
  | genState a k ih => obtain ⟨o, ho, h⟩ := h; exact ⟨o, ho, ih _ hn h⟩
  | update a _ f k ih => obtain ⟨ha, h⟩ := h; exact ⟨ha, ih _ hn h⟩
  | choose _ _ k ih => obtain ⟨ha, h⟩ := h; exact ⟨ha, ih _ hn h⟩
  | call c hh g l k ih => obtain ⟨r, s', hr, h⟩ := h; exact ⟨r, s', hr, ih r (Nat.le_trans hn (runs_toks hr)) h⟩
  | resume g r l k ih => obtain ⟨res, s', hw, h⟩ := h; exact ⟨res, s', hw, ih _ (Nat.le_trans hn (wakes_toks hw)) h⟩
theorem tk {α : Type} {M : Model} {A : Around} {t : Sem α} {Q : α → Shared → Prop} {E : Value → Shared → Prop} {s : Shared} (h : wpAny M A t Q E s) : wpAny M A t (fun a s' => Q a s' ∧ s.toks ≤ s'.toks) E s :=
  fun Γ p hΓ => wp_toks s.toks t (Nat.le_refl _) (h Γ p hΓ)
end L2
namespace L2
open PySem PySem.Spec PyProof.Rows
def PSk (X : Cx) (st : Stmt) (t : TS) : Prop :=
  ∀ (pins : List (Addr × Obj)) (s : Shared) (σ : St) (H : Hp) (D : Ends), 0 < s.toks → Inv X pins σ H s → t D σ H → wpAny (model X.prog X.w) X.A (exec st X.env) (SP X pins D) X.xe s
def PSsk (X : Cx) (st : List Stmt) (t : TS) : Prop :=
  ∀ (pins : List (Addr × Obj)) (s : Shared) (σ : St) (H : Hp) (D : Ends), 0 < s.toks → Inv X pins σ H s → t D σ H → wpAny (model X.prog X.w) X.A (execs st X.env) (SP X pins D) X.xe s
section
variable {X : Cx} {st : Stmt} {rest : List Stmt} {t u : TS} {e : Expr} {te : TE} {pos : Pos} {tg : Expr}
theorem PS.k (h : PS X st t) : PSk X st t := fun pins s σ H D _ I hw => h pins s σ H D I hw
theorem PSs.k (h : PSs X rest t) : PSsk X rest t := fun pins s σ H D _ I hw => h pins s σ H D I hw
end
end L2
namespace L2
open PySem PySem.Spec PyProof.Rows
section
variable {prog : Program} {w : World} {A : Around} {R : Result → Shared → Prop} {s : Shared}
theorem comp_turns {elt target iter : Expr} {ifs : List Expr} {scope : Scope} {pos : Pos} {it acc : Value} {env : Env} (I : Nat → Shared → Prop)
    (turn : ∀ n s, I n s → wpAny (model prog w) A (pyNext it) (fun r s1 => match r with
      | none => R (.ok .next) s1
      | some v => wpAny (model prog w) A (letOwnedTupleGo target it v) (fun _ s1' => wpAny (model prog w) A (assign target env v) (fun _ s2 =>
          wpAny (model prog w) A (forIn ifs true fun c r => if r = true then do let ok ← isTrue c env (eval c env); pure (ForInStep.yield ok) else pure (ForInStep.yield r)) (fun ok s3 =>
            if ok = true then wpAny (model prog w) A (eval elt env) (fun x s4 => wpAny (model prog w) A (call (.builtin "list.append") [acc, x]) (fun _ s5 => ∃ m, m < n ∧ I m s5) (fun _ _ => False) s4) (fun _ _ => False) s3
            else ∃ m, m < n ∧ I m s3) (fun _ _ => False) s2) (fun _ _ => False) s1') (fun _ _ => False) s1) (fun _ _ => False) s)
    (n : Nat) (h : I n s) : codeAny (model prog w) A (.compLoop (.ListComp elt [⟨target, iter, ifs, 0⟩] scope pos) 0 it acc env) R s := by
  refine codeAny_loop rfl I (fun n s hI => ?_) n h
  show wpAny _ A ((compTurn (.ListComp elt [⟨target, iter, ifs, 0⟩] scope pos) 0 it acc env).onRaise (fun x => do noteFrame x env; theTreesLotGoes x)) _ _ s
  refine wpAny_noted ?_
  rw [compTurn_list]
  refine wpAny_bind (wpAny_standAt (wpAny_bind (wpAny_mono (turn n s hI) (fun r s1 h1 => ?_) fun _ _ z => z.elim)))
  cases r with
  | none => exact wpAny_pure h1
  | some v =>
    refine wpAny_bind (wpAny_mono h1 (fun _ s1' h1' => wpAny_bind (wpAny_mono h1' (fun _ s2 h2 => wpAny_bind (wpAny_mono h2 (fun ok s3 h3 => ?_) fun _ _ z => z.elim)) fun _ _ z => z.elim)) fun _ _ z => z.elim)
    cases ok with
    | false => exact wpAny_pure ⟨rfl, h3⟩
    | true => exact wpAny_bind (wpAny_bind (wpAny_mono h3 (fun x s4 h4 => wpAny_bind (wpAny_mono h4 (fun _ s5 h5 => wpAny_pure (wpAny_pure ⟨rfl, h5⟩)) fun _ _ z => z.elim)) fun _ _ z => z.elim))
end
theorem clos_of {env : Env} : ∀ (names : List (Str × NameKind)) (acc : List (Str × Addr)), (∀ nk ∈ names, nk.2 = .free → ∃ c, env.cells.lookup nk.1 = some c) → (∀ y c, acc.lookup y = some c → env.cells.lookup y = some c) →
    ∃ cl, (forIn names acc (fun (x : Str × NameKind) (r : List (Str × Addr)) => (if x.2 == .free then do let a ← cellOf env x.1; pure (ForInStep.yield ((x.1, a) :: r)) else pure (ForInStep.yield r) : Sem (ForInStep (List (Str × Addr)))))) = (pure cl : Sem _) ∧
      (∀ y c, cl.lookup y = some c → env.cells.lookup y = some c) ∧ (∀ y c, acc.lookup y = some c → ∃ c, cl.lookup y = some c) ∧ ∀ y, names.lookup y = some .free → ∃ c, cl.lookup y = some c
  | [], acc, _, ha => ⟨acc, rfl, ha, fun y c e => ⟨c, e⟩, fun y e => by simp at e⟩
  | (n, k) :: names, acc, hf, ha => by
    cases hk : k == NameKind.free with
    | false =>
      obtain ⟨cl, e, h1, h2, h3⟩ := clos_of names acc (fun nk h => hf nk (List.mem_cons_of_mem _ h)) ha
      refine ⟨cl, ?_, h1, h2, fun y hy => ?_⟩
      · rw [List.forIn_cons]
        simp only [hk, Bool.false_eq_true, if_false]
        exact e
      · rw [List.lookup_cons] at hy
        cases hyn : y == n with
        | true => rw [hyn] at hy; cases hy; cases hk
        | false => rw [hyn] at hy; exact h3 y hy
    | true =>
      have ek : k = .free := eq_of_beq hk
      obtain ⟨c, hc⟩ := hf (n, k) (List.mem_cons_self ..) ek
      have ha' : ∀ y c', ((n, c) :: acc).lookup y = some c' → env.cells.lookup y = some c' := fun y c' e => by
        rw [List.lookup_cons] at e
        cases hyn : y == n with
        | true => rw [hyn] at e; cases e; rw [eq_of_beq hyn]; exact hc
        | false => rw [hyn] at e; exact ha y c' e
      obtain ⟨cl, e, h1, h2, h3⟩ := clos_of names ((n, c) :: acc) (fun nk h => hf nk (List.mem_cons_of_mem _ h)) ha'
      have in_acc : ∀ y c', acc.lookup y = some c' → ∃ c'', ((n, c) :: acc).lookup y = some c'' := fun y c' e => by
        rw [List.lookup_cons]
        cases hyn : y == n with
        | true => exact ⟨c, rfl⟩
        | false => exact ⟨c', e⟩
      refine ⟨cl, ?_, h1, fun y c' e' => let ⟨c'', e''⟩ := in_acc y c' e'; h2 y c'' e'', fun y hy => ?_⟩
      · have e0 : cellOf env n = pure c := by unfold cellOf; rw [hc]
        rw [List.forIn_cons]
        simp only [hk, if_true, e0]
        exact e
      · rw [List.lookup_cons] at hy
        cases hyn : y == n with
        | true => exact h2 y c (by rw [List.lookup_cons, hyn])
        | false => rw [hyn] at hy; exact h3 y hy
theorem closure_of {scope : Scope} {env : Env} (hf : ∀ nk ∈ scope.names, nk.2 = .free → ∃ c, env.cells.lookup nk.1 = some c) :
    ∃ cl, closureFor scope env = pure cl ∧ (∀ y c, cl.lookup y = some c → env.cells.lookup y = some c) ∧ ∀ y, scope.names.lookup y = some .free → ∃ c, cl.lookup y = some c := by
  obtain ⟨cl, e, h1, _, h3⟩ := clos_of (env := env) scope.names [] hf (fun y c e => by simp at e)
  refine ⟨cl, ?_, h1, h3⟩
  unfold closureFor
  simp only [bind_pure]
  exact e
theorem relab_free {env : Env} : ∀ {names : List (Str × NameKind)} {y : Str}, names.lookup y = some .free →
    (names.map fun (n, k) => if (k == NameKind.free && env.scope.kind == .function && env.kindOf n == some .cell) then (n, NameKind.cell) else (n, k)).lookup y = some .cell ∨
    (names.map fun (n, k) => if (k == NameKind.free && env.scope.kind == .function && env.kindOf n == some .cell) then (n, NameKind.cell) else (n, k)).lookup y = some .free
  | [], _, h => by simp at h
  | (n, k) :: r, y, h => by
    have ih := @relab_free env r y
    show List.lookup y ((if (k == NameKind.free && env.scope.kind == .function && env.kindOf n == some .cell) = true then (n, NameKind.cell) else (n, k)) :: _) = _ ∨ List.lookup y ((if (k == NameKind.free && env.scope.kind == .function && env.kindOf n == some .cell) = true then (n, NameKind.cell) else (n, k)) :: _) = _
    cases hx : y == n with
    | true =>
      simp only [List.lookup_cons, hx] at h
      cases h
      by_cases hc : (NameKind.free == NameKind.free && env.scope.kind == .function && env.kindOf n == some .cell) = true
      · rw [if_pos hc]; simp only [List.lookup_cons, hx]; exact .inl trivial
      · rw [if_neg hc]; simp only [List.lookup_cons, hx]; exact .inr trivial
    | false =>
      simp only [List.lookup_cons, hx] at h
      by_cases hc : (k == NameKind.free && env.scope.kind == .function && env.kindOf n == some .cell) = true
      · rw [if_pos hc]; simp only [List.lookup_cons, hx]; exact ih h
      · rw [if_neg hc]; simp only [List.lookup_cons, hx]; exact ih h
theorem relab_inv {env : Env} : ∀ {names : List (Str × NameKind)} {y : Str}, (∀ nk ∈ names, nk.2 ≠ .cell) →
    ((names.map fun (n, k) => if (k == NameKind.free && env.scope.kind == .function && env.kindOf n == some .cell) then (n, NameKind.cell) else (n, k)).lookup y = some .cell ∨
    (names.map fun (n, k) => if (k == NameKind.free && env.scope.kind == .function && env.kindOf n == some .cell) then (n, NameKind.cell) else (n, k)).lookup y = some .free) → names.lookup y = some .free
  | [], _, _, h => by simp at h
  | (n, k) :: r, y, hn, h => by
    have ih := @relab_inv env r y (fun nk h => hn nk (List.mem_cons_of_mem _ h))
    have h' : List.lookup y ((if (k == NameKind.free && env.scope.kind == .function && env.kindOf n == some .cell) = true then (n, NameKind.cell) else (n, k)) :: r.map fun (n, k) => if (k == NameKind.free && env.scope.kind == .function && env.kindOf n == some .cell) then (n, NameKind.cell) else (n, k)) = some .cell ∨ List.lookup y ((if (k == NameKind.free && env.scope.kind == .function && env.kindOf n == some .cell) = true then (n, NameKind.cell) else (n, k)) :: r.map fun (n, k) => if (k == NameKind.free && env.scope.kind == .function && env.kindOf n == some .cell) then (n, NameKind.cell) else (n, k)) = some .free := h
    cases hx : y == n with
    | true =>
      simp only [List.lookup_cons, hx]
      by_cases hc : (k == NameKind.free && env.scope.kind == .function && env.kindOf n == some .cell) = true
      · have : (k == NameKind.free) = true := by
          cases hk : k == NameKind.free with
          | true => rfl
          | false => rw [hk] at hc; simp at hc
        rw [eq_of_beq this]
      · rw [if_neg hc] at h'
        simp only [List.lookup_cons, hx] at h'
        rcases h' with h' | h'
        · cases h'; exact absurd rfl (hn (n, .cell) (List.mem_cons_self ..))
        · exact h'
    | false =>
      simp only [List.lookup_cons, hx]
      by_cases hc : (k == NameKind.free && env.scope.kind == .function && env.kindOf n == some .cell) = true
      · rw [if_pos hc] at h'; simp only [List.lookup_cons, hx] at h'; exact ih h'
      · rw [if_neg hc] at h'; simp only [List.lookup_cons, hx] at h'; exact ih h'
def cxCF (X : Cx) (scope : Scope) (cl : List (Str × Addr)) (Ns : List Str) (C : Addr) (s : Shared) (H : Hp) (fp : List Addr) : Cx :=
  { X with
    N := Ns
    s₀ := s
    H₀ := H
    env := compEnvC scope cl C X.env
    outer := X.stack
    stack := X.stack
    ex := fp
    fn := fun _ => false
    pn := []
    xe := fun _ _ => False }
def frOf (σ : St) (js : List Nat) : St := js.map fun j => (σ[j]?).join
def tCompF (wi : TI) (g : TG) (n : Nat) (js : List Nat) (tt : TT) (te : TE) : TE := fun σ H Q => wi σ H fun J H1 => ∀ D, H1 D = none → ∃ W : Nat → Nat → List V → Hp → Prop,
  (∃ m, W 0 m [] (upd H1 D (.lst []))) ∧ ∀ i m ys H2, W i m ys H2 → H2 D = some (.lst ys) ∧
    ((J.stop i H2 ∧ Q (.ref D) H2) ∨ (J.go i H2 ∧ ∀ x H3, J.yld i H2 x H3 → ∀ pre : St, pre.length = n → g x (pre ++ frOf σ js) H3 fun σ4 H4 => (∃ pre' : St, pre'.length = n ∧ σ4 = pre' ++ frOf σ js) ∧
      tt σ4 H4 fun b H5 => if b = true then te σ4 H5 (fun y H6 => H6 D = some (.lst ys) ∧ ys.length < sizeLine ∧ ∃ m', m' < m ∧ W (i + 1) m' (ys ++ [y]) (upd H6 D (.lst (ys ++ [y])))) else ∃ m', m' < m ∧ W (i + 1) m' ys H5))
def PTs (X : Cx) (ifs : List Expr) (t : TT) : Prop :=
  ∀ (pins : List (Addr × Obj)) (s : Shared) (σ : St) (H : Hp) (Q : Bool → Hp → Prop), Inv X pins σ H s → t σ H Q →
    wpAny (model X.prog X.w) X.A (forIn ifs true fun c r => if r = true then do let ok ← isTrue c X.env (eval c X.env); pure (ForInStep.yield ok) else pure (ForInStep.yield r)) (TP X pins σ Q) X.xe s
def tTrue : TT := fun _ H Q => Q true H
theorem pts_nil {X : Cx} : PTs X [] tTrue := fun _ _ _ H _ I h => wpAny_tests_nil ⟨H, I, h⟩
def FreeOk (X : Cx) (scope : Scope) : List Str → List Nat → Prop
  | [], [] => True
  | y :: ys, j :: js => X.N[j]? = some y ∧ (X.env.kindOf y = some .cell ∨ X.env.kindOf y = some .free) ∧ scope.names.lookup y = some .free ∧ FreeOk X scope ys js
  | _, _ => False
theorem FreeOk.at {X : Cx} {scope : Scope} : ∀ {ys : List Str} {js : List Nat}, FreeOk X scope ys js → ys.length = js.length ∧ ∀ (k : Nat) (y : Str), ys[k]? = some y → ∃ j, js[k]? = some j ∧ X.N[j]? = some y ∧ (X.env.kindOf y = some .cell ∨ X.env.kindOf y = some .free) ∧ scope.names.lookup y = some .free
  | [], [], _ => ⟨rfl, fun k y e => by simp at e⟩
  | [], _ :: _, h => h.elim
  | _ :: _, [], h => h.elim
  | y :: ys, j :: js, h => by
    obtain ⟨h1, h2, h3, h4⟩ := h
    obtain ⟨l, ih⟩ := FreeOk.at h4
    refine ⟨by simp [l], fun k y' e => ?_⟩
    cases k with
    | zero => simp at e; subst e; exact ⟨j, rfl, h1, h2, h3⟩
    | succ k => simpa using ih k y' (by simpa using e)
section
variable {X : Cx}
theorem pe_compF {elt iter target : Expr} {ifs : List Expr} {xs ys : List Str} {js : List Nat} {pos : Pos} {scope : Scope} {wi : TI} {g : TG} {tt : TT} {te : TE} (hc : X.calm = true)
    (hfree : ∀ nk ∈ scope.names, nk.2 = .free → nk.1 ∈ ys) (hcell : ∀ nk ∈ scope.names, nk.2 ≠ .cell) (hkind : scope.kind = .function)
    (hnames : ∀ nk ∈ scope.names, nk.2 = .local → scope.names.lookup nk.1 = some .local) (hfo : FreeOk X scope ys js)
    (hi : PI X target iter wi) (hg : ∀ cl C s H fp, PG (cxCF X scope cl (xs ++ ys) C s H fp) target g) (ht : ∀ cl C s H fp, PTs (cxCF X scope cl (xs ++ ys) C s H fp) ifs tt)
    (he : ∀ cl C s H fp, PE (cxCF X scope cl (xs ++ ys) C s H fp) elt te)
    (hs : ∀ v, foldedSetIterable iter X.env v = pure v := by intro _; rfl) : PE X (.ListComp elt [⟨target, iter, ifs, 0⟩] scope pos) (tCompF wi g xs.length js tt te) := by
  intro pins s σ H Q I h
  obtain ⟨ylen, yat⟩ := hfo.at
  have hkd : ∀ nk ∈ scope.names, nk.2 = .free → X.env.kindOf nk.1 = some .cell ∨ X.env.kindOf nk.1 = some .free := fun nk hnk hf => by
    obtain ⟨k, hk, e⟩ := List.mem_iff_getElem.mp (hfree nk hnk hf)
    obtain ⟨_, _, _, hk2, _⟩ := yat k nk.1 (by rw [List.getElem?_eq_getElem hk, e])
    exact hk2
  obtain ⟨cl, hclos, hsub, hhas⟩ := closure_of (scope := scope) (env := X.env) fun nk hnk hf => I.ok.has _ (hkd nk hnk hf)
  rw [eval_ListComp]
  refine wpAny_comprehension_free (use := none) rfl hs hclos hkind hnames (thn (hi pins s σ H _ I h) fun v s1 h1 => thn h1 fun itv s2 h2 => ?_)
  obtain ⟨it, fp, tn, J, H2, e, I2, T, st2, f2, hR⟩ := h2
  subst e
  have hD0 : H2 s2.heap.objs.size = none := I2.fresh
  obtain ⟨W, ⟨m0, w0⟩, turnW⟩ := hR _ hD0
  have I3 : Inv X pins σ (upd H2 s2.heap.objs.size (.lst [])) { s2 with heap := s2.heap.push { cls := .type "list", data := .seq ([] : List Value).toArray } } := I2.lnew (t' := s2.toks) .nil (Nat.zero_le _)
  refine wpAny_newObj_type (wpAny_newFunctionEnv hcell (fun nk hnk => by simp at hnk) (fun h₁ hns₁ hsb₁ => ?_) hkind)
  dsimp only at hns₁ hsb₁ ⊢
  generalize hs3 : ({ s2 with heap := s2.heap.push { cls := .type "list", data := .seq ([] : List Value).toArray } } : Shared) = s3 at I3
  have eh3 : s3.heap = s2.heap.push { cls := .type "list", data := .seq ([] : List Value).toArray } := by rw [← hs3]
  have hC : s3.heap.objs.size = s2.heap.objs.size + 1 := by rw [eh3, Heap.size_push]
  have old : ∀ b o, s3.heap.get? b = some o → h₁.get? b = some o := fun b o e => by
    have hb : b ≠ s3.heap.objs.size := Nat.ne_of_lt (Heap.lt_size e)
    rw [eh3] at e hb
    exact hsb₁.extBut b o hb (Heap.get?_push_of_some _ e)
  have fpl : ∀ b ∈ fp, b < s2.heap.objs.size := fun b hb => let ⟨o, e, _⟩ := T.obj _ _ st2 b hb; Heap.lt_size e
  have fps : ∀ b ∈ fp, b ∉ frs X.stack := fun b hb z => (List.mem_cons.mp (I2.stkSub b z)).elim (f2 b hb).2.1 (f2 b hb).2.2.1
  have fpc : ∀ b ∈ fp, ∀ y c, cl.lookup y = some c → c ≠ b := fun b hb y c e => (f2 b hb).2.2.2.2.1 y c (hsub y c e)
  have cne : ∀ y c, cl.lookup y = some c → c ≠ s3.heap.objs.size := fun y c e z => by
    obtain ⟨v, q⟩ := I3.cell y c (hsub y c e)
    exact absurd q.lt (by rw [z]; exact Nat.lt_irrefl _)
  let X' : Cx := cxCF X scope cl (xs ++ ys) s3.heap.objs.size s3 (upd H2 s2.heap.objs.size (.lst [])) fp
  have okX : X'.Ok := by
    refine ⟨I2.ok.mod, hkind, I2.ok.glob, I2.ok.blt, Nat.le_refl _, fun y z c e1 e2 => I2.ok.inj y z c (hsub _ _ e1) (hsub _ _ e2), fun y hy => hhas y (relab_inv hcell hy), fun y c z _ => absurd z (by simp [X', cxCF]), I2.ok.hd, I2.ok.frames, .inl rfl, fun b hb => ⟨?_, fun y c e => fpc b hb y c e⟩,
      I3.bs, Nat.le_trans I3.ok.bsz I3.sz, fun b o e hb => ?_, fps, I3.stack, I3.stkFree⟩
    · exact Nat.ne_of_lt (Nat.lt_of_lt_of_le (fpl b hb) (by show s2.heap.objs.size ≤ s3.heap.objs.size; rw [hC]; exact Nat.le_succ _))
    · rcases (f2 b hb).2.2.2.1 with z | z
      · exact I2.ok.noex b o e z
      · exact absurd (Nat.lt_of_lt_of_le (Heap.lt_size (I2.ok.bs b o e).1) z) (Nat.lt_irrefl _)
  have stat : ∀ {H' : Hp}, (∀ b ∈ fp, H' b = none) → ∀ b ∈ fp, FpOk X' [] H' b := fun hn b hb => by
    refine ⟨hn b hb, ?_, fps b hb, .inl hb, fun y c e => fpc b hb y c e, fun p hp => absurd (show p ∈ ([] : List (Addr × Obj)) from hp) (by simp)⟩
    exact Nat.ne_of_lt (Nat.lt_of_lt_of_le (fpl b hb) (by show s2.heap.objs.size ≤ s3.heap.objs.size; rw [hC]; exact Nat.le_succ _))
  have I4 : ∀ tk : Nat, Inv X' [] (List.replicate xs.length none ++ frOf σ js) (upd H2 s2.heap.objs.size (.lst [])) { s3 with heap := h₁, toks := tk } := fun tk => by
    refine ⟨okX, rfl, I3.bare, Un.kept old, ⟨_, by rw [← eh3] at hns₁; exact hns₁, fun i y v e1 e2 _ => ?_⟩, fun y c e => let ⟨v, q⟩ := I3.cell y c (hsub y c e); let ⟨o, q1, q2⟩ := q; ⟨v, o, old c o q1, q2⟩, I3.hok.fresh (Nat.le_refl _), fun y c e => I3.freeC y c (hsub y c e), fun p hp => absurd (show p ∈ ([] : List (Addr × Obj)) from hp) (by simp), I3.hok.kept old, by simp [X', cxCF, frOf, ylen]⟩
    by_cases hlt : i < xs.length
    · rw [List.getElem?_append_left (by simpa using hlt), List.getElem?_replicate, if_pos hlt] at e2
      cases e2
    · have hge : xs.length ≤ i := Nat.le_of_not_lt hlt
      have e1' : (xs ++ ys)[i]? = some y := e1
      rw [List.getElem?_append_right hge] at e1'
      rw [List.getElem?_append_right (by simpa using hge), List.length_replicate] at e2
      obtain ⟨j, hj, hN, hk, hfr⟩ := yat _ y e1'
      have e3 : (σ[j]?).join = some v := by
        unfold frOf at e2
        rw [List.getElem?_map, hj] at e2
        exact Option.some.inj e2
      have e4 : σ[j]? = some (some v) := by
        cases q : σ[j]? with
        | none => rw [q] at e3; cases e3
        | some w => rw [q] at e3; have : w = some v := e3; rw [this]
      obtain ⟨m3, _, hl3⟩ := I3.loc
      obtain ⟨u, ru, lk⟩ := hl3 j y v hN e4 (by rcases hk with z | z; exact .inr (.inl z); exact .inr (.inr z))
      refine ⟨u, ru, .inr ⟨relab_free hfr, ?_⟩⟩
      rcases lk with ⟨z, _⟩ | ⟨_, c, hc1, hc2⟩
      · rcases hk with z2 | z2 <;> rw [z] at z2 <;> cases z2
      · obtain ⟨c', hc'⟩ := hhas y hfr
        have : c' = c := by have := hsub y c' hc'; rw [hc1] at this; exact (Option.some.inj this).symm
        subst this
        obtain ⟨o, q1, q2⟩ := hc2
        exact ⟨c', hc', o, old c' o q1, q2⟩
  have fr0 : ∀ b ∈ fp, (upd H2 s2.heap.objs.size (.lst []) : Hp) b = none := fun b hb => by rw [upd_ne (Nat.ne_of_lt (fpl b hb))]; exact (f2 b hb).1
  have st4 : tn 0 h₁ := T.keep 0 _ _ st2 fun b hb o e => old b o (by rw [eh3]; exact Heap.get?_push_of_some _ e)
  have fin : ∀ {σ5 : St} {H' : Hp} {s5 : Shared} {h' : Heap}, Inv X' [] σ5 H' s5 → Heap.SameBut s3.heap.objs.size s5.heap h' → Q (.ref s2.heap.objs.size) H' → EP X pins σ Q (.ref s2.heap.objs.size) { s5 with heap := h' } := by
    intro σ5 H' s5 h' I5 sb q
    obtain ⟨hh, gg, d, t, os'⟩ := s5
    have eo : os' = s3.os := I5.os
    subst eo
    have keepC : ∀ b o, b ≠ s3.heap.objs.size → hh.get? b = some o → h'.get? b = some o := fun b o hb e => sb.extBut b o hb e
    have ne3 : ∀ b o, s3.heap.get? b = some o → b ≠ s3.heap.objs.size := fun b o e => Nat.ne_of_lt (Heap.lt_size e)
    have u : Un (frs X.stack) fp (upd H2 s2.heap.objs.size (.lst [])) H' s3.heap hh := I5.base
    have un : Un (frs X.stack) fp (upd H2 s2.heap.objs.size (.lst [])) H' s3.heap h' :=
      ⟨fun b o e n hb hx => keepC b o (ne3 b o e) (u.keep b o e n hb hx), fun b o e n hb hx => let ⟨sl, q⟩ := u.slot b o e n hb hx; ⟨sl, keepC b _ (ne3 b o e) q⟩, u.free, fun b o e hx => let ⟨o', q⟩ := u.there b o e hx; ⟨o', keepC b o' (ne3 b o e) q⟩, u.tups, u.frzs, u.tbls⟩
    have hfree' : H' s3.heap.objs.size = none := I5.free
    have hok' : HOk X.prog X.w H' h' := fun b u e => by
      refine (I5.hok b u e).stay (fun c v hc q => keepC c v ?_ q) (fun _ q => q) fun _ _ q => q
      rcases hc with z | z
      · rw [z]; intro z2; rw [z2, hfree'] at e; cases e
      · intro z2; rw [z2, hfree'] at z; cases z
    have J := I3.call (h' := h') (g' := gg) (d' := d) (t' := t) (ch := fp) un hok' I5.bare (fun b hb => let ⟨_, h1, _, h2, h3, h4⟩ := f2 b hb; ⟨h2, h1, h3, h4⟩)
    exact ⟨.ref s2.heap.objs.size, H', J, rfl, q⟩
  have loop : ∀ s4 : Shared, (∃ tk, s4 = { s3 with heap := h₁, toks := tk }) →
      codeAny (model X.prog X.w) X.A (.compLoop (.ListComp elt [⟨target, iter, ifs, 0⟩] scope pos) 0 (.ref it) (.ref s2.heap.objs.size) X'.env)
        (compPost (model X.prog X.w) X.A X.xe none (EP X pins σ Q) (.ref s2.heap.objs.size) s3.heap.objs.size) s4 := by
    rintro s4 ⟨tk, rfl⟩
    refine comp_turns (fun n s' => ∃ i ys' pre H', Inv X' [] (pre ++ frOf σ js) H' s' ∧ pre.length = xs.length ∧ tn i s'.heap ∧ (∀ b ∈ fp, H' b = none) ∧ W i n ys' H') ?_ m0 ⟨0, [], List.replicate xs.length none, _, I4 tk, by simp, st4, fr0, w0⟩
    rintro n s5 ⟨i, ys', pre, H5, I5, hpre, st5, fr5, w5⟩
    obtain ⟨hD5, ⟨js5, q⟩ | ⟨jg, step⟩⟩ := turnW i n ys' H5 w5
    · refine wpAny_mono (T.done X' rfl rfl rfl hc i [] s5 _ H5 (fun _ _ => False) I5 (stat fr5) st5 js5) (fun r s6 hr => ?_) fun _ _ z => z.elim
      obtain ⟨rfl, I6⟩ := hr
      obtain ⟨m, hn, _⟩ := I6.loc
      exact ⟨m, hn, fun h' sb => fin I6 sb q⟩
    · refine wpAny_mono (T.item X' rfl rfl rfl hc i [] s5 _ H5 (fun _ _ => False) I5 (stat fr5) st5 jg) (fun r s6 hr => ?_) fun _ _ z => z.elim
      obtain ⟨u, rfl, h6⟩ := hr
      refine wpAny_mono h6 (fun _ s7 h7 => ?_) fun _ _ z => z.elim
      obtain ⟨xv, H7, I7, r7, y7, st7, fr7⟩ := h7
      have I7' := I7.pinned (stat fr7) (T.obj _ _ st7)
      refine wpAny_mono (hg cl s3.heap.objs.size s3 (upd H2 s2.heap.objs.size (.lst [])) fp _ s7 _ H7 xv u _ I7' r7 (step xv H7 y7 pre hpre)) (fun _ s8 h8 => ?_) fun _ _ z => z.elim
      obtain ⟨σ8, H8, I8, ⟨pre', hpre', e8⟩, q8⟩ := h8
      subst e8
      refine wpAny_mono (ht cl s3.heap.objs.size s3 (upd H2 s2.heap.objs.size (.lst [])) fp _ s8 _ H8 _ I8 q8) (fun ok s9 h9 => ?_) fun _ _ z => z.elim
      obtain ⟨H9, I9, q9⟩ := h9
      have stay : ∀ {H' : Hp} {s' : Shared}, Inv X' ([] ++ pinsAt fp s7.heap) (pre' ++ frOf σ js) H' s' → tn (i + 1) s'.heap ∧ ∀ b ∈ fp, H' b = none := fun {H' s'} I' => by
        refine ⟨T.keep _ _ _ st7 fun b hb o e => (I'.pin (b, o) (List.mem_append_right _ (List.mem_append_right _ (mem_pinsAt hb e)))).1, fun b hb => ?_⟩
        obtain ⟨o, e, d⟩ := T.obj _ _ st7 b hb
        exact (I'.pin (b, o) (List.mem_append_right _ (List.mem_append_right _ (mem_pinsAt hb e)))).2.1
      cases ok with
      | false =>
        obtain ⟨m', lt, w9⟩ := (show ∃ m', m' < n ∧ W (i + 1) m' ys' H9 by simpa using q9)
        obtain ⟨k1, k2⟩ := stay I9
        exact ⟨m', lt, i + 1, ys', pre', H9, I9.unpinned, hpre', k1, k2, w9⟩
      | true =>
        have q9' : te (pre' ++ frOf σ js) H9 (fun y H6 => H6 s2.heap.objs.size = some (.lst ys') ∧ ys'.length < sizeLine ∧ ∃ m', m' < n ∧ W (i + 1) m' (ys' ++ [y]) (upd H6 s2.heap.objs.size (.lst (ys' ++ [y])))) := by simpa using q9
        refine wpAny_mono (he cl s3.heap.objs.size s3 (upd H2 s2.heap.objs.size (.lst [])) fp _ s9 _ H9 _ I9 q9') (fun y s10 h10 => ?_) fun _ _ z => z.elim
        obtain ⟨yv, H10, I10, r10, hD10, hl10, m', lt, w10⟩ := h10
        refine wpAny_mono (mt_append (X := X') _ s10 _ H10 (.ref s2.heap.objs.size) [yv] (.ref s2.heap.objs.size) [y] (fun _ H' => H' = upd H10 s2.heap.objs.size (.lst (ys' ++ [yv]))) I10 rfl (.cons r10 .nil) ⟨_, ys', yv, rfl, rfl, hD10, hl10, rfl⟩) (fun _ s11 h11 => ?_) fun _ _ z => z.elim
        obtain ⟨_, H11, I11, _, rfl⟩ := h11
        obtain ⟨k1, k2⟩ := stay I11
        exact ⟨m', lt, i + 1, ys' ++ [yv], pre', _, I11.unpinned, hpre', k1, k2, w10⟩
  have L := loop { s3 with heap := h₁, toks := s2.toks + ([] : List (Str × Value)).length } ⟨_, rfl⟩
  subst hs3
  exact codeAny_compStart_list L (T.self _ 0 _ _ _ st4 L)
end
structure Tells (J : It) (H1 : Hp) (xs : List V) : Prop where
  go : ∀ H2 i, Same H1 H2 → i < xs.length → J.go i H2
  yld : ∀ H2 i x H3, Same H1 H2 → J.yld i H2 x H3 → H3 = H2 ∧ xs[i]? = some x
  stop : ∀ H2, Same H1 H2 → J.stop xs.length H2
theorem tells_tup {K : PySem.W.Frag} {H1 : Hp} {a : Addr} {xs : List V} (h : SqT K H1 a xs) : Tells (Itt K a) H1 xs :=
  ⟨fun H2 i sm hi => ⟨xs, xs[i], sm.tup h, by simp [hi]⟩, fun H2 i x H3 sm y => by obtain ⟨e, y⟩ := y; exact ⟨e, y xs (sm.tup h)⟩, fun H2 sm => ⟨xs, sm.tup h, Nat.le_refl _⟩⟩
theorem tells_list {K : PySem.W.Frag} {H1 : Hp} {a : Addr} {xs : List V} (h : SqL K H1 a xs) : Tells (Itl K a) H1 xs :=
  ⟨fun H2 i sm hi => ⟨xs, xs[i], sm.seq h, by simp [hi]⟩, fun H2 i x H3 sm y => by obtain ⟨e, y⟩ := y; exact ⟨e, y xs (sm.seq h)⟩, fun H2 sm => ⟨xs, sm.seq h, Nat.le_refl _⟩⟩
theorem compF_all {J : It} {xs : List V} {tt : TT} {te : TE} {fr : St} {H1 : Hp} {QD : Hp → Prop} {f : V → V} {p : V → Bool} (D : Addr) (hD : H1 D = none) (T : Tells J H1 xs) (hz : xs.length < sizeLine)
    (ht : ∀ x H R, x ∈ xs → Same H1 H → (∀ H', Same H H' → R (p x) H') → tt (some x :: fr) H R)
    (he : ∀ x H R, x ∈ xs → p x = true → Same H1 H → (∀ H', Same H H' → R (f x) H') → te (some x :: fr) H R)
    (hd : ∀ H', Same H1 H' → H' D = some (.lst ((xs.filter p).map f)) → QD H') :
    ∃ W : Nat → Nat → List V → Hp → Prop, (∃ m, W 0 m [] (upd H1 D (.lst []))) ∧ ∀ i m ys H2, W i m ys H2 → H2 D = some (.lst ys) ∧
      ((J.stop i H2 ∧ QD H2) ∨ (J.go i H2 ∧ ∀ x H3, J.yld i H2 x H3 → ∀ pre : St, pre.length = 1 → gName 0 x (pre ++ fr) H3 fun σ4 H4 => (∃ pre' : St, pre'.length = 1 ∧ σ4 = pre' ++ fr) ∧
        tt σ4 H4 fun b H5 => if b = true then te σ4 H5 (fun y H6 => H6 D = some (.lst ys) ∧ ys.length < sizeLine ∧ ∃ m', m' < m ∧ W (i + 1) m' (ys ++ [y]) (upd H6 D (.lst (ys ++ [y])))) else ∃ m', m' < m ∧ W (i + 1) m' ys H5)) := by
  refine ⟨fun i m ys H2 => m = xs.length - i ∧ i ≤ xs.length ∧ ys = ((xs.take i).filter p).map f ∧ H2 D = some (.lst ys) ∧ Same H1 H2, ⟨xs.length, by simp, Nat.zero_le _, by simp, upd_same, Same.new hD _⟩, ?_⟩
  rintro i m ys H2 ⟨rfl, hi, rfl, hD2, sm⟩
  refine ⟨hD2, ?_⟩
  by_cases hlt : i < xs.length
  · refine .inr ⟨T.go H2 i sm hlt, fun x H3 y pre hpre => ?_⟩
    obtain ⟨rfl, hx⟩ := T.yld H2 i x H3 sm y
    obtain ⟨v0, rfl⟩ : ∃ v0, pre = [v0] := by
      cases pre with
      | nil => simp at hpre
      | cons v r => cases r with
        | nil => exact ⟨v, rfl⟩
        | cons _ _ => simp at hpre
    have hm := List.mem_of_getElem? hx
    refine ⟨⟨[some x], rfl, rfl⟩, ?_⟩
    refine ht x H3 _ hm sm fun H5 s5 => ?_
    have htk : (xs.take (i + 1)).filter p = (xs.take i).filter p ++ (if p x = true then [x] else []) := by
      rw [List.take_add_one, hx, List.filter_append]
      cases hp : p x <;> simp [hp]
    cases hp : p x with
    | false =>
      simp only [Bool.false_eq_true, if_false]
      rw [hp] at htk
      simp only [Bool.false_eq_true, if_false, List.append_nil] at htk
      exact ⟨xs.length - (i + 1), by omega, rfl, hlt, by rw [htk], s5 _ _ hD2, sm.trans s5⟩
    | true =>
      simp only [if_true]
      rw [hp] at htk
      simp only [if_true] at htk
      refine he x H5 _ hm hp (sm.trans s5) fun H6 s6 => ?_
      have hl : (((xs.take i).filter p).map f).length ≤ i := by
        rw [List.length_map]
        refine Nat.le_trans (List.length_filter_le _ _) ?_
        rw [List.length_take]; omega
      refine ⟨s6 _ _ (s5 _ _ hD2), by omega, xs.length - (i + 1), by omega, rfl, hlt, ?_, upd_same, ?_⟩
      · rw [htk, List.map_append]; rfl
      · intro b o e
        have hb : b ≠ D := ne_of_none e hD
        rw [upd_ne hb]
        exact s6 _ _ (s5 _ _ (sm _ _ e))
  · have e : i = xs.length := by omega
    subst e
    rw [List.take_length] at hD2
    exact .inl ⟨T.stop H2 sm, hd H2 sm hD2⟩
end L2
namespace HT
open PySem PySem.Spec PyProof.Rows PySem.Builtin
section
variable {prog : Program} {w : World} {A : Around} {E : Value → Shared → Prop} {s : Shared}
end
end HT
namespace L2
open PySem PySem.Spec PyProof.Rows
section
variable {X : Cx}
end
theorem sIx_nat (n d : Nat) (k : Nat) : HT.sIx n d (some (k : Int)) = min k n := by
  show (if ((k : Int)) < 0 then (((k : Int)) + (n : Int)).toNat else min ((k : Int)).toNat n) = _
  rw [if_neg (by omega)]
  simp
theorem cut_to (xs : List V) (k : Nat) : cutV xs none (some (k : Int)) = xs.take k := by
  unfold cutV
  rw [sIx_nat]
  show (xs.drop 0).take (min k xs.length - 0) = _
  rw [List.drop_zero, Nat.sub_zero]
  by_cases h : k ≤ xs.length
  · rw [Nat.min_eq_left h]
  · rw [Nat.min_eq_right (by omega), List.take_length, List.take_of_length_le (by omega)]
theorem cut_from (xs : List V) (k : Nat) : cutV xs (some (k : Int)) none = xs.drop k := by
  unfold cutV
  rw [sIx_nat]
  show (xs.drop (min k xs.length)).take (xs.length - min k xs.length) = _
  rw [List.take_of_length_le (by rw [List.length_drop]; exact Nat.le_refl _)]
  by_cases h : k ≤ xs.length
  · rw [Nat.min_eq_left h]
  · rw [Nat.min_eq_right (by omega), List.drop_length, List.drop_of_length_le (by omega)]
end L2
namespace L2
open PySem PySem.Spec PyProof.Rows
section
variable {X : Cx}
variable {e : Expr} {es : List Expr} {te : TE} {t : TA} {tg : Expr}
end
end L2
namespace L2
open PySem PySem.Spec PyProof.Rows
section
variable {X : Cx}
end
end L2
namespace L2
open PySem PySem.Spec PyProof.Rows
inductive Dat where
  | non
  | int (i : Int)
  | str (x : Str)
  | tup (ds : List Dat)
mutual
def Dat.beq : Dat → Dat → Bool
  | .non, .non => true
  | .int i, .int j => i == j
  | .str x, .str y => x == y
  | .tup ds, .tup es => Dat.beqs ds es
  | _, _ => false
def Dat.beqs : List Dat → List Dat → Bool
  | [], [] => true
  | d :: ds, e :: es => Dat.beq d e && Dat.beqs ds es
  | _, _ => false
end
mutual
def Dat.deep : Dat → Nat
  | .tup ds => Dat.deeps ds + 1
  | _ => 0
def Dat.deeps : List Dat → Nat
  | [] => 0
  | d :: ds => max (Dat.deep d) (Dat.deeps ds)
end
mutual
def IsDat (K : PySem.W.Frag) (H : Hp) : Dat → V → Prop
  | .non, x => x = .non
  | .int i, x => x = .int i
  | .str z, x => x = .str z
  | .tup ds, x => ∃ a xs, x = .ref a ∧ SqT K H a xs ∧ AreDat K H ds xs
def AreDat (K : PySem.W.Frag) (H : Hp) : List Dat → List V → Prop
  | [], xs => xs = []
  | d :: ds, xs => ∃ y ys, xs = y :: ys ∧ IsDat K H d y ∧ AreDat K H ds ys
end
mutual
theorem IsDat.same {K : PySem.W.Frag} {H H' : Hp} (s : Same H H') : ∀ {d : Dat} {x : V}, IsDat K H d x → IsDat K H' d x
  | .non, _, h => h
  | .int _, _, h => h
  | .str _, _, h => h
  | .tup _, _, ⟨a, xs, e, hq, hs⟩ => ⟨a, xs, e, s.tup hq, AreDat.same s hs⟩
theorem AreDat.same {K : PySem.W.Frag} {H H' : Hp} (s : Same H H') : ∀ {ds : List Dat} {xs : List V}, AreDat K H ds xs → AreDat K H' ds xs
  | [], _, h => h
  | _ :: _, _, ⟨y, ys, e, h1, h2⟩ => ⟨y, ys, e, IsDat.same s h1, AreDat.same s h2⟩
end
theorem AreDat.length {K : PySem.W.Frag} {H : Hp} : ∀ {ds : List Dat} {xs : List V}, AreDat K H ds xs → xs.length = ds.length
  | [], _, h => by rw [show _ = [] from h]; rfl
  | _ :: _, _, ⟨y, ys, e, _, h2⟩ => by rw [e, List.length_cons, List.length_cons, AreDat.length h2]
theorem AreDat.get {K : PySem.W.Frag} {H : Hp} : ∀ {ds : List Dat} {xs : List V} {j : Nat} {d : Dat}, AreDat K H ds xs → ds[j]? = some d → ∃ x, xs[j]? = some x ∧ IsDat K H d x
  | [], _, _, _, _, e => by simp at e
  | d :: ds, _, j, d', ⟨y, ys, e, h1, h2⟩, he => by
    subst e
    cases j with
    | zero => simp at he; subst he; exact ⟨y, rfl, h1⟩
    | succ j => simpa using AreDat.get h2 (by simpa using he)
theorem deep_at : ∀ {ds : List Dat} {d : Dat}, d ∈ ds → Dat.deep d ≤ Dat.deeps ds
  | d' :: ds, d, h => by
    show _ ≤ max _ _
    rcases List.mem_cons.mp h with rfl | h
    · exact Nat.le_max_left _ _
    · exact Nat.le_trans (deep_at h) (Nat.le_max_right _ _)
theorem beqs_all : ∀ (ds es : List Dat), Dat.beqs ds es = ((List.range (min ds.length es.length)).all (fun j => Dat.beq (ds.getD j .non) (es.getD j .non)) && ds.length == es.length)
  | [], [] => by simp [Dat.beqs]
  | [], e :: es => by simp [Dat.beqs]
  | d :: ds, [] => by simp [Dat.beqs]
  | d :: ds, e :: es => by
    have ih := beqs_all ds es
    have hm : min (d :: ds).length (e :: es).length = min ds.length es.length + 1 := by simp only [List.length_cons]; omega
    rw [hm, List.range_succ_eq_map, List.all_cons, List.all_map]
    show (Dat.beq d e && Dat.beqs ds es) = _
    rw [ih]
    simp only [List.length_cons, List.getD_cons_zero, Function.comp_def, List.getD_cons_succ, Nat.add_right_cancel_iff, Bool.and_assoc]
    congr 2
    by_cases h : ds.length = es.length <;> simp [h]
mutual
theorem beq_refl : ∀ d : Dat, Dat.beq d d = true
  | .non => rfl
  | .int _ => by simp [Dat.beq]
  | .str _ => by simp [Dat.beq]
  | .tup ds => beqs_refl ds
theorem beqs_refl : ∀ ds : List Dat, Dat.beqs ds ds = true
  | [] => rfl
  | d :: ds => by show (Dat.beq d d && Dat.beqs ds ds) = true; rw [beq_refl d, beqs_refl ds]; rfl
end
end L2
namespace L2
open PySem PySem.Spec PyProof.Rows
section
variable {X : Cx} {pins : List (Addr × Obj)} {σ : St} {H : Hp} {s : Shared}
mutual
theorem dat_det (I : Inv X pins σ H s) : ∀ {d e : Dat} {x : V}, IsDat X.K H d x → IsDat X.K H e x → Dat.beq d e = true
  | .non, .non, _, _, _ => rfl
  | .int i, .int j, _, h1, h2 => by
    have : V.int i = V.int j := (show _ = V.int i from h1).symm.trans h2
    injection this with this
    simp [Dat.beq, this]
  | .str i, .str j, _, h1, h2 => by
    have : V.str i = V.str j := (show _ = V.str i from h1).symm.trans h2
    injection this with this
    simp [Dat.beq, this]
  | .tup ds, .tup es, _, ⟨a, xs, e1, q1, h1⟩, ⟨b, ys, e2, q2, h2⟩ => by
    have e : V.ref a = V.ref b := e1.symm.trans e2
    injection e with e
    subst e
    have := I.tuple_inj q1 q2
    subst this
    exact dats_det I h1 h2
  | .non, .int j, _, h1, h2 => by have : V.non = V.int j := (show _ = V.non from h1).symm.trans h2; cases this
  | .non, .str j, _, h1, h2 => by have : V.non = V.str j := (show _ = V.non from h1).symm.trans h2; cases this
  | .non, .tup es, _, h1, ⟨b, ys, e2, _⟩ => by have : V.non = V.ref b := (show _ = V.non from h1).symm.trans e2; cases this
  | .int i, .non, _, h1, h2 => by have : V.int i = V.non := (show _ = V.int i from h1).symm.trans h2; cases this
  | .int i, .str j, _, h1, h2 => by have : V.int i = V.str j := (show _ = V.int i from h1).symm.trans h2; cases this
  | .int i, .tup es, _, h1, ⟨b, ys, e2, _⟩ => by have : V.int i = V.ref b := (show _ = V.int i from h1).symm.trans e2; cases this
  | .str i, .non, _, h1, h2 => by have : V.str i = V.non := (show _ = V.str i from h1).symm.trans h2; cases this
  | .str i, .int j, _, h1, h2 => by have : V.str i = V.int j := (show _ = V.str i from h1).symm.trans h2; cases this
  | .str i, .tup es, _, h1, ⟨b, ys, e2, _⟩ => by have : V.str i = V.ref b := (show _ = V.str i from h1).symm.trans e2; cases this
  | .tup ds, .non, _, ⟨a, xs, e1, _⟩, h2 => by have : V.ref a = V.non := e1.symm.trans h2; cases this
  | .tup ds, .int j, _, ⟨a, xs, e1, _⟩, h2 => by have : V.ref a = V.int j := e1.symm.trans h2; cases this
  | .tup ds, .str j, _, ⟨a, xs, e1, _⟩, h2 => by have : V.ref a = V.str j := e1.symm.trans h2; cases this
theorem dats_det (I : Inv X pins σ H s) : ∀ {ds es : List Dat} {xs : List V}, AreDat X.K H ds xs → AreDat X.K H es xs → Dat.beqs ds es = true
  | [], [], _, _, _ => rfl
  | [], e :: es, _, h1, ⟨y, ys, e2, _⟩ => by have : ([] : List V) = y :: ys := (show _ = [] from h1).symm.trans e2; cases this
  | d :: ds, [], _, ⟨y, ys, e1, _⟩, h2 => by have : y :: ys = ([] : List V) := e1.symm.trans h2; cases this
  | d :: ds, e :: es, _, ⟨y, ys, e1, a1, b1⟩, ⟨z, zs, e2, a2, b2⟩ => by
    have e' : y :: ys = z :: zs := e1.symm.trans e2
    injection e' with h1 h2
    subst h1 h2
    show (Dat.beq d e && Dat.beqs ds es) = true
    rw [dat_det I a1 a2, dats_det I b1 b2]
    rfl
end
end
end L2
namespace L2
open PySem PySem.Spec PyProof.Rows
section
variable {X : Cx} {pins : List (Addr × Obj)} {σ : St} {H : Hp} {s : Shared}
theorem dat_at {A : Around} {ds : List Dat} {xs : List V} {its : List Value} {j : Nat} (h : AreDat X.K H ds xs) (r : Vals xs its) (hj : j < its.toArray.size) :
    ∃ x, IsDat X.K H (ds.getD j .non) x ∧ RelV x its.toArray[j] ∧ ds.getD j .non ∈ ds := by
  have hl := h.length
  have hr := r.length
  have hj' : j < its.length := by simpa using hj
  have hd : j < ds.length := by omega
  have e : ds[j]? = some (ds.getD j .non) := by rw [List.getD_eq_getElem?_getD, List.getElem?_eq_getElem hd]; rfl
  obtain ⟨x, hx, hi⟩ := h.get e
  obtain ⟨u, hu, ru⟩ := r.get hx
  refine ⟨x, hi, ?_, List.mem_of_getElem? e⟩
  have : its.toArray[j] = u := by
    rw [List.getElem?_eq_getElem hj'] at hu
    have := Option.some.inj hu
    simpa using this
  rw [this]
  exact ru
theorem dat_eqAt (I : Inv X pins σ H s) : ∀ (n : Nat) (A : Around) {d e : Dat} {x y : V} {u v : Value}, Dat.deep d ≤ n → A.units + n < cLine → IsDat X.K H d x → IsDat X.K H e y → RelV x u → RelV y v → SeqAt.EqAt A s u v (Dat.beq d e) := by
  intro n
  induction n with
  | zero =>
    intro A d e x y u v hn hu hd he rx ry
    cases d with
    | tup ds => exact absurd hn (by simp [Dat.deep])
    | non =>
      cases (show x = .non from hd)
      cases e with
      | non => cases (show y = .non from he); exact eqAt_V rx ry rfl rfl
      | int j => cases (show y = .int j from he); exact eqAt_V rx ry rfl rfl
      | str j => cases (show y = .str j from he); exact eqAt_V rx ry rfl rfl
      | tup es =>
        obtain ⟨b, ys, rfl, q2, _⟩ := he
        obtain ⟨its2, r2, p2, _⟩ := I.tuple q2
        cases rx; cases ry
        exact SeqAt.EqAt.none_tuple p2 (by omega)
    | int i =>
      cases (show x = .int i from hd)
      cases e with
      | non => cases (show y = .non from he); exact eqAt_V rx ry rfl rfl
      | int j => cases (show y = .int j from he); exact eqAt_V rx ry rfl rfl
      | str j => cases (show y = .str j from he); exact eqAt_V rx ry rfl rfl
      | tup es =>
        obtain ⟨b, ys, rfl, q2, _⟩ := he
        obtain ⟨its2, r2, p2, _⟩ := I.tuple q2
        obtain ⟨t, rfl⟩ := rx; cases ry
        exact SeqAt.EqAt.int_tuple i t p2 (by omega)
    | str i =>
      cases (show x = .str i from hd)
      cases e with
      | non => cases (show y = .non from he); exact eqAt_V rx ry rfl rfl
      | int j => cases (show y = .int j from he); exact eqAt_V rx ry rfl rfl
      | str j => cases (show y = .str j from he); exact eqAt_V rx ry rfl rfl
      | tup es =>
        obtain ⟨b, ys, rfl, q2, _⟩ := he
        obtain ⟨its2, r2, p2, _⟩ := I.tuple q2
        obtain ⟨t, rfl⟩ := rx; cases ry
        exact SeqAt.EqAt.str_tuple i t p2 (by omega)
  | succ n ih =>
    intro A d e x y u v hn hu hd he rx ry
    cases d with
    | non => exact ih A (Nat.zero_le _) (by omega) hd he rx ry
    | int i => exact ih A (Nat.zero_le _) (by omega) hd he rx ry
    | str i => exact ih A (Nat.zero_le _) (by omega) hd he rx ry
    | tup ds =>
      obtain ⟨a, xs, rfl, q1, h1⟩ := hd
      obtain ⟨its, r1, p1, _⟩ := I.tuple q1
      cases rx
      cases e with
      | non => cases (show y = .non from he); cases ry; exact SeqAt.EqAt.tuple_none p1 (by omega)
      | int j => cases (show y = .int j from he); obtain ⟨t, rfl⟩ := ry; exact SeqAt.EqAt.tuple_int j t p1 (by omega)
      | str j => cases (show y = .str j from he); obtain ⟨t, rfl⟩ := ry; exact SeqAt.EqAt.tuple_str j t p1 (by omega)
      | tup es =>
        obtain ⟨b, ys, rfl, q2, h2⟩ := he
        obtain ⟨its2, r2, p2, _⟩ := I.tuple q2
        cases ry
        by_cases hab : a = b
        · subst hab
          have := I.tuple_inj q1 q2
          subst this
          have e : Dat.beq (.tup ds) (.tup es) = true := dats_det I h1 h2
          rw [e]
          exact SeqAt.EqAt.same _
        · have l1 := h1.length
          have l2 := h2.length
          have s1 : its.toArray.size = ds.length := by rw [List.size_toArray, ← r1.length, l1]
          have s2 : its2.toArray.size = es.length := by rw [List.size_toArray, ← r2.length, l2]
          have key := SeqAt.RcAt.tuples (e := fun j => Dat.beq (ds.getD j .non) (es.getD j .non)) p1 p2 (by omega : A.units < cLine) fun j j1 j2 => by
            obtain ⟨x', d1, rx', m1⟩ := dat_at (A := A) h1 r1 j1
            obtain ⟨y', d2, ry', _⟩ := dat_at (A := A) h2 r2 j2
            have hdp : Dat.deep (ds.getD j .non) ≤ n := by
              have h3 := deep_at m1
              have h4 : Dat.deeps ds + 1 ≤ n + 1 := hn
              omega
            exact ih A.in1 hdp (by show A.units + 1 + n < cLine; omega) d1 d2 rx' ry'
          rw [s1, s2, ← beqs_all] at key
          exact SeqAt.EqAt.of_refs hab key
end
end L2
namespace HL
open PySem PySem.SeqAt
open AutoSeq1 (wpAny_loadPart')
open MeetsSeq MeetsSeq2 MeetsSeq3
def LtAt (A : Around) (s : Shared) (y x : Value) (b : Bool) : Prop :=
  ∀ (prog : Program) (w : World) (E : Value → Shared → Prop) (Q : Value → Shared → Prop), Q (.bool b) s → wpAny (model prog w) A (richCompare .Lt y x) Q E s
def lexB (e g : Nat → Bool) (fin : Bool) : List Nat → Bool
  | [] => fin
  | j :: r => if e j = true then lexB e g fin r else g j
theorem tuple_ltAt (p q : Addr) (xs ys : Array Value) (n n2 : Nat) (dp dq : Option Addr) (sp sq : Array (Option Value)) (e g : Nat → Bool) :
    Meets (Builtin.«tuple.__lt__» ⟨[.ref p, .ref q], []⟩)
      (fun A R s => s.heap.get? p = some { cls := .type "tuple", dict := dp, data := .seq xs n, slots := sp } ∧ s.heap.get? q = some { cls := .type "tuple", dict := dq, data := .seq ys n2, slots := sq } ∧
        (∀ j (h1 : j < xs.size) (h2 : j < ys.size), EqAt A.in1 s xs[j] ys[j] (e j)) ∧ (∀ j (h1 : j < xs.size) (h2 : j < ys.size), e j = false → LtAt A.in1 s xs[j] ys[j] (g j)) ∧
        R (.ok (.ret (.bool (lexB e g (decide (xs.size < ys.size)) (List.range (min xs.size ys.size)))))) s) :=
  .of_wp fun prog w A R s h => by
    obtain ⟨hp, gs, d, tk, os⟩ := s; obtain ⟨g1, g2, he, hg, h⟩ := h
    have sub := AutoSeq1.sub_tuple_tuple
    have hZ : (xs.toList.zip ys.toList).length = min xs.size ys.size := by simp
    wp_walk using wpAny_loadPart' g1, wpAny_loadPart' g2, wpAny_forIn_list _ (fun rest b s' => b.1 = none ∧ s' = ⟨hp, gs, d, tk, os⟩ ∧ ∃ i, rest = (xs.toList.zip ys.toList).drop i ∧
      R (.ok (.ret (.bool (lexB e g (decide (xs.size < ys.size)) ((List.range (min xs.size ys.size)).drop i))))) ⟨hp, gs, d, tk, os⟩) _
    case turn =>
      rintro ⟨y, x⟩ rest b s' ⟨hb', rfl, i, hz, hR⟩
      have hlt : i < (xs.toList.zip ys.toList).length := Nat.lt_of_not_le fun z => by rw [List.drop_of_length_le z] at hz; cases hz
      have hm : i < min xs.size ys.size := hZ ▸ hlt
      have h1 : i < xs.size := by omega
      have h2 : i < ys.size := by omega
      rw [List.drop_eq_getElem_cons hlt] at hz
      injection hz with hyx hrest
      obtain rfl : y = xs[i] := by simpa using congrArg Prod.fst hyx
      obtain rfl : x = ys[i] := by simpa using congrArg Prod.snd hyx
      have hd : (List.range (min xs.size ys.size)).drop i = i :: (List.range (min xs.size ys.size)).drop (i + 1) := by simp [List.drop_eq_getElem_cons, hm]
      rw [hd] at hR
      have step : lexB e g (decide (xs.size < ys.size)) (i :: (List.range (min xs.size ys.size)).drop (i + 1)) = if e i = true then lexB e g (decide (xs.size < ys.size)) ((List.range (min xs.size ys.size)).drop (i + 1)) else g i := rfl
      rw [step] at hR
      refine wpAny_bind (he i h1 h2 prog w _ _ ?_)
      cases hy : e i with
      | true =>
        rw [hy] at hR
        wp_walk
        exact ⟨rfl, rfl, i + 1, hrest, by simpa using hR⟩
      | false =>
        rw [hy] at hR
        have hg' := hg i h1 h2 hy
        simp only [Bool.not_false, if_true]
        exact wpAny_bind (wpAny_rule (wpAny_bind (hg' prog w _ _ (wpAny_bind (wpAny_pure (wpAny_pure (wpAny_pure ⟨_, rfl, by simpa using hR⟩)))))))
    case fin =>
      rintro ⟨b1, b2⟩ s' ⟨hb', rfl, i, hz, hR⟩
      simp only at hb'
      subst hb'
      have hge : min xs.size ys.size ≤ i := Nat.le_of_not_lt fun z => by
        rw [List.drop_eq_getElem_cons (hZ.symm ▸ z)] at hz; cases hz
      rw [List.drop_of_length_le (by simpa using hge)] at hR
      wp_walk
      exact ⟨_, rfl, by simpa [Builtin.Tuple.tupleCompareSizes, lexB] using hR⟩
    case h =>
      exact ⟨rfl, rfl, 0, rfl, by simpa using h⟩
section
variable {A : Around} {s : Shared}
theorem LtAt.tuples {p q : Addr} {xs ys : Array Value} {e g : Nat → Bool} (hp : s.heap.IsTuple p xs) (hq : s.heap.IsTuple q ys) (hu : A.units < cLine)
    (he : ∀ j (h1 : j < xs.size) (h2 : j < ys.size), EqAt A.in1 s xs[j] ys[j] (e j)) (hg : ∀ j (h1 : j < xs.size) (h2 : j < ys.size), e j = false → LtAt A.in1 s xs[j] ys[j] (g j)) :
    LtAt A s (.ref p) (.ref q) (lexB e g (decide (xs.size < ys.size)) (List.range (min xs.size ys.size))) := fun prog w E Q h => by
  obtain ⟨⟨c1, d1, da1, s1⟩, o1, k1, n1, e1⟩ := id hp
  obtain ⟨⟨c2, d2, da2, s2⟩, o2, k2, n2, e2⟩ := id hq
  simp only at k1 e1 k2 e2
  subst k1 e1 k2 e2
  exact richCompare_meets_room (op := .Lt) ⟨_, o1, rfl⟩ ⟨_, o2, rfl⟩ F.slot_tuple_lt F.entry_tuple_lt (F.args_tuple_lt_2 _ _) (tuple_ltAt p q xs ys n1 n2 d1 d2 s1 s2 e g)
    ⟨o1, o2, he, hg, show Value.bool (lexB e g (decide (xs.size < ys.size)) (List.range (min xs.size ys.size))) ≠ Value.notImplemented ∧ Q _ s from ⟨(fun x => nomatch x), h⟩⟩ hu
theorem LtAt.int (a : Int) (t : Tok) (b : Int) (u : Tok) : LtAt A s (.int a t) (.int b u) (decide (a < b)) := fun _ _ _ _ h => PyProof.Rows.lt_int h
theorem LtAt.str (a : Str) (t : Tok) (b : Str) (u : Tok) : LtAt A s (.str a t) (.str b u) (decide (a.cps.toList < b.cps.toList)) := fun _ _ _ _ h => PyProof.Rows.lt_str h
end
end HL
namespace L2
open PySem PySem.Spec PyProof.Rows HL
mutual
def Dat.lt : Dat → Dat → Bool
  | .int i, .int j => decide (i < j)
  | .str x, .str y => decide (x.cps.toList < y.cps.toList)
  | .tup ds, .tup es => Dat.lts ds es
  | _, _ => false
def Dat.lts : List Dat → List Dat → Bool
  | _, [] => false
  | [], _ :: _ => true
  | d :: ds, e :: es => if Dat.beq d e = true then Dat.lts ds es else Dat.lt d e
end
mutual
def Dat.cmp : Dat → Dat → Bool
  | .int _, .int _ => true
  | .str _, .str _ => true
  | .tup ds, .tup es => Dat.cmps ds es
  | _, _ => false
def Dat.cmps : List Dat → List Dat → Bool
  | _, [] => true
  | [], _ :: _ => true
  | d :: ds, e :: es => Dat.cmp d e && Dat.cmps ds es
end
section
variable {X : Cx} {pins : List (Addr × Obj)} {σ : St} {H : Hp} {s : Shared}
end
end L2
namespace HX
open PySem
def Tb (h : Heap) (e T : Addr) (cls fl : Value) : Prop :=
  ∃ oe vs oT ts, T ≠ e ∧ h.get? e = some oe ∧ oe.cls = cls ∧ oe.data = .fields vs ∧ vs[1]? = some (.ref T) ∧ h.get? T = some oT ∧ oT.data = .fields ts ∧ ts[3]? = some fl
structure Mvd (S ch : List Addr) (h h' : Heap) : Prop where
  size : h.objs.size ≤ h'.objs.size
  keep : ∀ b o, b ∉ S → b ∉ ch → h.get? b = some o → h'.get? b = some o
  slot : ∀ b o, b ∉ ch → h.get? b = some o → ∃ sl, h'.get? b = some { o with slots := sl }
theorem Mvd.trans {S ch ch2 : List Addr} {h h1 h2 : Heap} (x : Mvd S ch h h1) (y : Mvd S ch2 h1 h2) (hs : ∀ b ∈ ch2, b ∈ ch ∨ h.get? b = none) : Mvd S ch h h2 where
  size := Nat.le_trans x.size y.size
  keep := fun b o n1 n2 e => y.keep b o n1 (fun z => (hs b z).elim n2 fun k => by rw [k] at e; cases e) (x.keep b o n1 n2 e)
  slot := fun b o n e => by
    obtain ⟨s1, e1⟩ := x.slot b o n e
    obtain ⟨s2, e2⟩ := y.slot b _ (fun z => (hs b z).elim n fun k => by rw [k] at e; cases e) e1
    exact ⟨s2, e2⟩
section
variable {M : Model} {A : Around} {E : Value → Shared → Prop} {s : Shared} {base : Heap} {env : Env} {outer : List Env} {L e T : Addr} {cls fl : Value}
theorem tb_notFrame (hl : s.heap.FunFrames base (env :: outer)) {oe : Obj} {vs : Array Value} (he : s.heap.get? e = some oe) (hd : oe.data = .fields vs) : e ∉ (env :: outer).filterMap (·.frame) := fun hm => by
  obtain ⟨_, o, ho, hnf⟩ := hl.mem hm
  rw [he] at ho
  cases ho
  exact hnf vs hd
theorem entry {oe : Obj} {vs : Array Value} {head : Value} {hadNext : Bool} {Q : Unit → Shared → Prop} (hfr : A.frames = some (env :: outer)) (hl : s.heap.FunFrames base (env :: outer)) (hf : env.frame = some L)
    (he : s.heap.get? e = some oe) (hd : oe.data = .fields vs) (hsz : 1 < vs.size)
    (h : ∀ h', Mvd ((env :: outer).filterMap (·.frame)) [e] s.heap h' → Tb h' e s.heap.objs.size oe.cls (rawInt L) → Q () { s with heap := h' }) :
    wpAny M A (do let a ← frameOf env; let pl ← entryPlaceOf L hadNext; let b ← EntryCells.newEntry head a .none (rawInt L) .none pl; setField (.ref e) 1 b) Q E s := by
  have ne := tb_notFrame hl he hd
  refine wpAny_bind (wpAny_frameOf_fun hfr hl hf fun g1 m1 => ?_)
  refine wpAny_bind (wpAny_entryPlaceOf fun pp hpp => ?_)
  unfold EntryCells.newEntry
  unfold newFields
  refine wpAny_bind (wpAny_newObj_type ?_ (hpp.sizeOk5 _ _ _ _ _))
  obtain ⟨tb, htb⟩ : ∃ tb : Obj, tb = { cls := .type "traceback", dict := none, data := .fields ([head, .ref L, .none, rawInt L, .none] ++ (if pp.isEmpty then List.replicate 6 Value.none else pp)).toArray } := ⟨_, rfl⟩
  have e1 : g1.get? e = some oe := (m1.2.1 e ne).trans he
  have e2 : (g1.push tb).get? e = some oe := Heap.get?_push_of_some _ e1
  have hT : g1.objs.size = s.heap.objs.size := m1.1
  have hTe : g1.objs.size ≠ e := Nat.ne_of_gt (Heap.lt_size e1)
  rw [← htb]
  refine wpAny_setField e2 hd hsz (h _ ⟨?_, fun b o b1 b2 eb => ?_, fun b o b2 eb => ?_⟩ ?_)
  · rw [Heap.size_after_update]
    show _ ≤ (g1.push tb).objs.size
    rw [PyProof.Rows.size_push', hT]
    exact Nat.le_succ _
  · have hb : b ≠ e := fun z => b2 (by simp [z])
    rw [Heap.get?_update_other _ _ (Ne.symm hb)]
    exact Heap.get?_push_of_some _ ((m1.2.1 b b1).trans eb)
  · have hb : b ≠ e := fun z => b2 (by simp [z])
    obtain ⟨sl, q⟩ := m1.2.2 b o eb
    rw [Heap.get?_update_other _ _ (Ne.symm hb)]
    exact ⟨sl, Heap.get?_push_of_some _ q⟩
  · have d3 := Obj.data_mapFields hd (·.setIfInBounds 1 (Value.ref g1.objs.size))
    have e3 := Heap.get?_update_self (Obj.mapFields (·.setIfInBounds 1 (Value.ref g1.objs.size))) e2 (Obj.isFreed_of_fields d3)
    have t3 : ((g1.push tb).update e (Obj.mapFields (·.setIfInBounds 1 (Value.ref g1.objs.size)))).get? g1.objs.size = some tb := by
      rw [Heap.get?_update_other _ _ (Ne.symm hTe)]
      exact Heap.get?_push_size _ (by rw [htb]; rfl)
    rw [← hT]
    refine ⟨_, _, tb, _, hTe, e3, Obj.cls_mapFields _ _, d3, by simp [hsz], t3, by rw [htb], ?_⟩
    rcases hpp with rfl | ⟨_, _, _, _, _, _, _, rfl⟩ <;> simp
theorem setNone {Q : Unit → Shared → Prop} (t : Tb s.heap e T cls fl) (h : ∀ h', Mvd [] [T] s.heap h' → Tb h' e T cls .none → Q () { s with heap := h' }) : wpAny M A (setFlight (.ref e) none) Q E s := by
  obtain ⟨oe, vs, oT, ts, hTe, he, hc, hd, h1, hT, hdT, h3⟩ := t
  have z3 : 3 < ts.size := (Array.getElem?_eq_some_iff.mp h3).1
  unfold setFlight
  refine wpAny_bind (wpAny_field he hd h1 ?_)
  rw [if_pos (show (Value.ref T != Value.none) = true by simp)]
  refine wpAny_setField hT hdT z3 (h _ ⟨?_, fun b o _ b2 eb => ?_, fun b o b2 eb => ?_⟩ ?_)
  · rw [Heap.size_after_update]; exact Nat.le_refl _
  · rw [Heap.get?_update_other _ _ fun z => b2 (by simp [z])]; exact eb
  · exact ⟨o.slots, by rw [Heap.get?_update_other _ _ fun z => b2 (by simp [z])]; exact eb⟩
  · have d3 := Obj.data_mapFields hdT (·.setIfInBounds 3 ((none : Option Addr).elim Value.none fun f => rawInt f))
    exact ⟨oe, vs, _, _, hTe, by rw [Heap.get?_update_other _ _ hTe]; exact he, hc, hd, h1, Heap.get?_update_self _ hT (Obj.isFreed_of_fields d3), d3, by simp [z3]⟩
theorem note_first {oe : Obj} {vs : Array Value} {Q : Unit → Shared → Prop} (hfr : A.frames = some (env :: outer)) (hl : s.heap.FunFrames base (env :: outer)) (hf : env.frame = some L)
    (he : s.heap.get? e = some oe) (hd : oe.data = .fields vs) (h1 : vs[1]? = some .none)
    (h : ∀ h', Mvd ((env :: outer).filterMap (·.frame)) [e] s.heap h' → Tb h' e s.heap.objs.size oe.cls (rawInt L) → Q () { s with heap := h' }) : wpAny M A (noteFrame (.ref e) env) Q E s := by
  unfold noteFrame
  simp only [hf]
  refine wpAny_bind (wpAny_field he hd h1 ?_)
  rw [if_neg (by decide)]
  exact entry hfr hl hf he hd (Array.getElem?_eq_some_iff.mp h1).1 h
theorem note_next {Q : Unit → Shared → Prop} (hfr : A.frames = some (env :: outer)) (hl : s.heap.FunFrames base (env :: outer)) (hf : env.frame = some L) (t : Tb s.heap e T cls .none)
    (h : ∀ h', Mvd ((env :: outer).filterMap (·.frame)) [e, T] s.heap h' → Tb h' e s.heap.objs.size cls (rawInt L) → Q () { s with heap := h' }) : wpAny M A (noteFrame (.ref e) env) Q E s := by
  obtain ⟨oe, vs, oT, ts, hTe, he, hc, hd, h1, hT, hdT, h3⟩ := t
  subst hc
  unfold noteFrame
  simp only [hf]
  refine wpAny_bind (wpAny_field he hd h1 ?_)
  rw [if_pos (show (Value.ref T != Value.none) = true by simp)]
  refine wpAny_bind (wpAny_field hT hdT h3 ?_)
  rw [if_neg (show ¬ ((Value.none == rawInt L) = true) by simp [rawInt])]
  refine wpAny_bind (wpAny_setField hT hdT (Array.getElem?_eq_some_iff.mp h3).1 ?_)
  have oth : ∀ b, b ≠ T → (s.heap.update T (Obj.mapFields (·.setIfInBounds 3 Value.none))).get? b = s.heap.get? b := fun b hb => Heap.get?_update_other _ _ (Ne.symm hb)
  have hz : (s.heap.update T (Obj.mapFields (·.setIfInBounds 3 Value.none))).objs.size = s.heap.objs.size := Heap.size_after_update ..
  have nT : ∀ b o, s.heap.get? b = some o → (∀ vs, o.data ≠ .fields vs) → b ≠ T := fun b o hb hnf q => by
    rw [q, hT] at hb
    cases hb
    exact hnf ts hdT
  refine entry (s := { s with heap := s.heap.update T (Obj.mapFields (·.setIfInBounds 3 Value.none)) }) hfr (hl.of_keeps fun b o hb hnf => ⟨o, (oth b (nT b o hb hnf)).trans hb, rfl⟩) hf ((oth e (Ne.symm hTe)).trans he) hd (Array.getElem?_eq_some_iff.mp h1).1 fun h' m t' => h h' ?_ ?_
  · exact ⟨by have := m.size; rw [hz] at this; exact this, fun b o b1 b2 eb => m.keep b o b1 (fun z => b2 (by rw [List.mem_singleton.mp z]; simp)) ((oth b fun z => b2 (by simp [z])).trans eb),
      fun b o b2 eb => m.slot b o (fun z => b2 (by rw [List.mem_singleton.mp z]; simp)) ((oth b fun z => b2 (by simp [z])).trans eb)⟩
  · have : Tb h' e (s.heap.update T (Obj.mapFields (·.setIfInBounds 3 Value.none))).objs.size oe.cls (rawInt L) := t'
    rw [hz] at this
    exact this
theorem leave_first {oe : Obj} {vs : Array Value} {Q : Unit → Shared → Prop} (hfr : A.frames = some (env :: outer)) (hl : s.heap.FunFrames base (env :: outer)) (hf : env.frame = some L)
    (he : s.heap.get? e = some oe) (hd : oe.data = .fields vs) (h1 : vs[1]? = some .none)
    (h : ∀ h', Mvd ((env :: outer).filterMap (·.frame)) [e] s.heap h' → Tb h' e s.heap.objs.size oe.cls .none → Q () { s with heap := h' }) : wpAny M A (leaving env (.ref e)) Q E s := by
  unfold leaving
  refine wpAny_bind (note_first hfr hl hf he hd h1 fun h1' m1 t1 => setNone t1 fun h2 m2 t2 => h h2 (m1.trans ⟨m2.size, fun b o _ b2 => m2.keep b o (by simp) b2, m2.slot⟩ fun b hb => .inr (by rw [List.mem_singleton.mp hb]; exact Heap.get?_none_of_le (Nat.le_refl _))) t2)
theorem leave_next {Q : Unit → Shared → Prop} (hfr : A.frames = some (env :: outer)) (hl : s.heap.FunFrames base (env :: outer)) (hf : env.frame = some L) (t : Tb s.heap e T cls .none)
    (h : ∀ h', Mvd ((env :: outer).filterMap (·.frame)) [e, T] s.heap h' → Tb h' e s.heap.objs.size cls .none → Q () { s with heap := h' }) : wpAny M A (leaving env (.ref e)) Q E s := by
  unfold leaving
  refine wpAny_bind (note_next hfr hl hf t fun h1' m1 t1 => setNone t1 fun h2 m2 t2 => h h2 (m1.trans ⟨m2.size, fun b o _ b2 => m2.keep b o (by simp) b2, m2.slot⟩ fun b hb => .inr (by rw [List.mem_singleton.mp hb]; exact Heap.get?_none_of_le (Nat.le_refl _))) t2)
end
end HX
namespace L2
open PySem PySem.Spec PyProof.Rows
def CXE (P : Program) (w : World) : CXT := fun outer H s E ev s' => ∃ e T cls H', ev = .ref e ∧ HX.Tb s'.heap e T cls .none ∧ s.heap.get? e = none ∧ s.heap.get? T = none ∧ H' e = none ∧ H' T = none ∧
  s'.os = s.os ∧ AllBare s'.gens ∧ Un (frs outer) [] H H' s.heap s'.heap ∧ HOk P w H' s'.heap ∧ E cls none H'
theorem un_moved {fs S ch : List Addr} {H H1 : Hp} {h h1 h2 : Heap} (u : Un fs [] H H1 h h1) (m : HX.Mvd S ch h1 h2) (hS : ∀ b, b < h.objs.size → b ∈ S → b ∈ fs) (hch : ∀ b ∈ ch, h.get? b = none) : Un fs [] H H1 h h2 := by
  have nc : ∀ {b o}, h.get? b = some o → b ∉ ch := fun {b o} e z => by rw [hch b z] at e; cases e
  refine ⟨fun b o e n nf nx => m.keep b o (fun z => nf (hS b (Heap.lt_size e) z)) (nc e) (u.keep b o e n nf nx), fun b o e n nf nx => ?_, u.free, fun b o e nx => ?_, u.tups, u.frzs, u.tbls⟩
  · obtain ⟨sl, q⟩ := u.slot b o e n nf nx
    obtain ⟨sl2, q2⟩ := m.slot b _ (nc e) q
    exact ⟨sl2, q2⟩
  · obtain ⟨o', q⟩ := u.there b o e nx
    obtain ⟨sl2, q2⟩ := m.slot b _ (nc e) q
    exact ⟨_, q2⟩
theorem hok_moved {P : Program} {w : World} {S ch : List Addr} {H : Hp} {h h' : Heap} (ok : HOk P w H h) (m : HX.Mvd S ch h h') (hS : ∀ b ∈ S, H b = none) (hch : ∀ b ∈ ch, H b = none) : HOk P w H h' := fun a o e => by
  refine (ok a o e).stay (fun b u hb q => m.keep b u (fun z => ?_) (fun z => ?_) q) (fun _ q => q) fun _ _ q => q
  · rcases hb with rfl | hb
    · rw [hS _ z] at e; cases e
    · rw [hS _ z] at hb; cases hb
  · rcases hb with rfl | hb
    · rw [hch _ z] at e; cases e
    · rw [hch _ z] at hb; cases hb
theorem ObjOk.ob {P : Program} {w : World} {H : Hp} {h : Heap} {a : Addr} {o : HO} (x : ObjOk P w H h a o) : ∃ q, h.get? a = some q := by
  cases o with
  | lst xs => obtain ⟨_, _, _, _, e⟩ := x; exact ⟨_, e⟩
  | tup xs => obtain ⟨_, _, _, ⟨o, e, _⟩, _⟩ := x; exact ⟨_, e⟩
  | dK kvs => obtain ⟨_, _, _, _, o, _, _, e, _⟩ := x; exact ⟨_, e⟩
  | dT kvs => obtain ⟨_, _, _, _, o, _, _, e, _⟩ := x; exact ⟨_, e⟩
  | set S n => obtain ⟨o, _, _, _, e, _⟩ := x; exact ⟨_, e⟩
  | ins C dx fs => obtain ⟨_, _, _, e, _⟩ := x; exact ⟨_, e⟩
  | own y => obtain ⟨_, e⟩ := x; exact ⟨_, e⟩
  | xd fs => obtain ⟨_, ⟨_, _, _, e, _⟩, _⟩ := x; exact ⟨_, e⟩
  | rng lo hi => obtain ⟨_, _, _, e⟩ := x; exact ⟨_, e⟩
  | frz ob u => obtain ⟨e, _⟩ := x; exact ⟨_, e⟩
  | tbl ps => exact ⟨_, x⟩
  | met f y => exact ⟨_, x⟩
  | ext φ => obtain ⟨_, ⟨_, e⟩, _⟩ := x; exact ⟨_, e⟩
theorem HOk.no {P : Program} {w : World} {H : Hp} {h : Heap} {a : Addr} (x : HOk P w H h) (e : h.get? a = none) : H a = none := by
  cases q : H a with
  | none => rfl
  | some u => obtain ⟨o, z⟩ := (x a u q).ob; rw [e] at z; cases z
theorem Inv.none0 {X : Cx} {pins : List (Addr × Obj)} {σ : St} {H : Hp} {s : Shared} (I : Inv X pins σ H s) (hx : X.ex = []) {b : Addr} (q : s.heap.get? b = none) : X.s₀.heap.get? b = none := by
  cases e : X.s₀.heap.get? b with
  | none => rfl
  | some o => obtain ⟨o', z⟩ := I.base.there b o e (by rw [hx]; simp); rw [q] at z; cases z
def Raises (X : Cx) (E : XK) : Prop := ∀ (pins : List (Addr × Obj)) (σ : St) (H : Hp) (s : Shared) (h' : Heap) (e : Addr) (cls : Value) (args : List Value), Inv X pins σ H s → Heap.MadeExcOf s.heap h' e cls args → E cls none H → X.xe (.ref e) { s with heap := h' }
section
variable {P : Program} {w : World} {K : PySem.W.Frag} {mg : Str → Option Value} {base : Heap} {N : List Str} {qual : Str} {scope : Scope} {f : Addr} {cd : Value} {A : Around} {outer : List Env} {s0 : Shared} {H0 : Hp} {E E' : XK}
theorem pass_cx (hE : ∀ c o H, E' c o H → E c o H) : Passes (CXE P w) (cxOf (CXE P w) P w K mg base N qual scope f cd A outer s0 H0 E) E' := by
  intro pins σ H1 s1 ev s' I hcx
  obtain ⟨e, T, cls, H', rfl, tb, le, lT, ne, nT, os, bare, un, hok, hE'⟩ := hcx
  have J := I.call' os un hok bare (fun b z => absurd z (by simp))
  have sz1 : ∀ b, s1.heap.get? b = none → s0.heap.get? b = none := fun b q => I.none0 rfl q
  have sz2 : s0.heap.objs.size ≤ s'.heap.objs.size := J.sz
  refine HX.leave_next (base := base) (outer := outer) J.ok.frames J.stack rfl tb fun h' m t' => ?_
  refine ⟨e, _, cls, H', rfl, t', sz1 _ le, Heap.get?_none_of_le sz2, ne, J.hok.fresh (Nat.le_refl _), J.os, J.bare, un_moved J.base m (fun b hb z => ?_) (fun b hb => ?_), hok_moved J.hok m (fun b hb => J.stkFree b hb) (fun b hb => ?_), hE _ _ _ hE'⟩
  · rcases List.mem_cons.mp (J.stkSub b z) with q | q
    · have := J.ok.above
      have hb' : b < (cxOf (CXE P w) P w K mg base N qual scope f cd A outer s0 H0 E).s₀.heap.objs.size := hb
      rw [q] at hb'
      exact absurd hb' (Nat.not_lt.mpr this)
    · exact q
  · rcases List.mem_cons.mp hb with rfl | hb
    · exact sz1 _ le
    · rw [List.mem_singleton.mp hb]; exact sz1 _ lT
  · rcases List.mem_cons.mp hb with rfl | hb
    · exact ne
    · rw [List.mem_singleton.mp hb]; exact nT
theorem raises_cx : Raises (cxOf (CXE P w) P w K mg base N qual scope f cd A outer s0 H0 E) E := by
  intro pins σ H1 s1 h' e cls args I hx hE
  obtain ⟨t, he, htn, ht⟩ := hx.there
  have J := I.kept (t' := s1.toks) hx.keeps
  have sz1 : ∀ b, s1.heap.get? b = none → s0.heap.get? b = none := fun b q => I.none0 rfl q
  have sz2 : s0.heap.objs.size ≤ h'.objs.size := J.sz
  have le : s1.heap.get? e = none := hx.new
  refine HX.leave_first (base := base) (outer := outer) (s := { s1 with heap := h' }) J.ok.frames J.stack rfl he rfl rfl fun h2 m t' => ?_
  refine ⟨e, _, cls, H1, rfl, t', sz1 _ le, Heap.get?_none_of_le sz2, I.hok.no le, J.hok.fresh (Nat.le_refl _), J.os, J.bare, un_moved J.base m (fun b hb z => ?_) (fun b hb => ?_), hok_moved J.hok m (fun b hb => J.stkFree b hb) (fun b hb => ?_), hE⟩
  · rcases List.mem_cons.mp (J.stkSub b z) with q | q
    · have := J.ok.above
      have hb' : b < (cxOf (CXE P w) P w K mg base N qual scope f cd A outer s0 H0 E).s₀.heap.objs.size := hb
      rw [q] at hb'
      exact absurd hb' (Nat.not_lt.mpr this)
    · exact q
  · rw [List.mem_singleton.mp hb]; exact sz1 _ le
  · rw [List.mem_singleton.mp hb]; exact I.hok.no le
end
section
variable {X : Cx} {pins : List (Addr × Obj)} {σ : St} {H : Hp} {s : Shared}
theorem Inv.reX {A' : Around} {c : Bool} {xe : Value → Shared → Prop} (I : Inv X pins σ H s) (hf : A'.frames = X.A.frames) (hd : c = true → A'.handled = none) : Inv { X with A := A', calm := c, xe := xe } pins σ H s :=
  ⟨⟨I.ok.mod, I.ok.kind, I.ok.glob, I.ok.blt, I.ok.above, I.ok.inj, I.ok.has, I.ok.cab, hd, hf.trans I.ok.frames, I.ok.stk, I.ok.exf, I.ok.bs, I.ok.bsz, I.ok.noex, I.ok.exfs, I.ok.funs, I.ok.frf⟩,
    I.os, I.bare, I.base, I.loc, I.cell, I.free, I.freeC, I.pin, I.hok, I.len⟩
theorem Inv.unX {A' : Around} {c : Bool} {xe : Value → Shared → Prop} (I : Inv { X with A := A', calm := c, xe := xe } pins σ H s) (J : X.Ok) : Inv X pins σ H s :=
  ⟨J, I.os, I.bare, I.base, I.loc, I.cell, I.free, I.freeC, I.pin, I.hok, I.len⟩
def PSx (X : Cx) (st : List Stmt) (t : Ends → XK → St → Hp → Prop) : Prop :=
  ∀ (pins : List (Addr × Obj)) (s : Shared) (σ : St) (H : Hp) (D : Ends) (E : XK) (xe : Value → Shared → Prop), Inv X pins σ H s → t D E σ H →
    (∀ ev s1 H1 s', Inv X pins σ H1 s1 → CXE X.prog X.w X.stack H1 s1 E ev s' → xe ev s') → wpAny (model X.prog X.w) X.A (execs st X.env) (SP X pins D) xe s
end
end L2
namespace L2
open PySem PySem.Spec PyProof.Rows
section
variable {X : Cx}
def tRaise (C : Addr) (E : XK) (ta : TA) : TS := fun _ σ H => ta σ H fun vs H1 => vs.length ≤ 10 ∧ E (.ref C) none H1
theorem ps_raise {E : XK} {x : Str} {C : Addr} {bm bmN : List Value} {newId Bn inN B nid initId : String} {e0 : Expr} {rest : List Expr} {ta : TA} {np cpos pos : Pos} (hc : X.calm = true) (R : Raises X E)
    (O : OwnCls x C bm newId X.mg X.base) (Fn : ExcBaseFacts Bn newId inN bmN) (hBn : bm.contains (.type Bn) = true) (FB : ExcBaseFacts B nid initId bm) (hg : Gl X x) (ha : PA X (e0 :: rest) ta)
    (he : starEach (e0 :: rest) X.env = (false, eval e0 X.env) :: starEach rest X.env := by rfl) (hpl : (backTo cpos (starEach (e0 :: rest) X.env)).any (·.1) = false := by rfl) (hd : (x == ("__debug__" : Str)) = false := by decide) :
    PS X (.Raise (some (.Call (.Name x np) (e0 :: rest) [] cpos)) none pos) (tRaise C E ta) := by
  intro pins s σ H D I h
  obtain ⟨tl, N, nm, q, bs, hdct, sn, sub, ab, col, dd, k0, k1, k2, k3, k5, mN, hC, hN, hni, T⟩ := O.obj
  refine wpAny_Raise_call_subU (k5 := k5) (C := C) (nm := nm) (q := q) (N := N) (bs := bs) (bm := tl) (hdct := hdct) (sn := sn) (sub := sub) (ab := ab) (col := col) (dd := dd) (k0 := k0) (k1 := k1) (k2 := k2) (k3 := k3)
    Fn hBn FB (mN := mN) (T.hasType FB.hasBase) (I.ok.hd hc) hpl hni (ld_glob I hg O.bound ⟨rfl, ?_⟩ hd)
  have key := ha cpos pins s σ H _ I h
  rw [he] at key ⊢
  refine Calls.evalArgs_plain (thn key fun us s1 ⟨vs, H1, I1, r, hl, q1⟩ => ?_)
  exact ⟨rfl, by show us.length ≤ _; rw [← r.length, sizeLine_eq]; omega, I1.bk _ _ hC, hN.keeps I1.bk, T.keeps I1.bk, fun h' e hm => R pins σ H1 s1 h' e _ _ I1 hm q1⟩
theorem call_x {x : Str} {k : Nat} {f : Addr} {fd : FuncData} {ps : List Str} {sp : Sp} {e : Expr} {es : List Expr} {ta : TA} {p ap : Pos} {pins : List (Addr × Obj)} {s : Shared} {σ : St} {H : Hp} {Q : VK} {E : XK} {xe : Value → Shared → Prop}
    (F : FnOk X.prog X.w X.K X.mg X.base (CXE X.prog X.w) k f fd ps sp) (hr : Room k X.A) (hg : Gl X x) (hm : X.mg x = some (.ref f))
    (hk : PySem.W.keepIn X.K (.ref f) = true) (hb : Binds X.K fd ps []) (ha : ∀ xe, PA { X with xe := xe } (e :: es) ta) (I : Inv X pins σ H s) (h : ta σ H fun vs H1 => sp vs H1 Q E)
    (hx : ∀ ev s1 H1 s', Inv X pins σ H1 s1 → CXE X.prog X.w X.stack H1 s1 E ev s' → xe ev s')
    (hdb : (x == ("__debug__" : Str)) = false := by decide) (he : starEach (e :: es) X.env = (false, eval e X.env) :: starEach es X.env := by rfl) (hpl : (backTo ap (starEach es X.env)).any (·.1) = false := by rfl) :
    wpAny (model X.prog X.w) X.A (eval (.Call (.Name x p) (e :: es) [] ap) X.env) (EP X pins σ Q) xe s := by
  refine wpAny_Call_Name_kw (ld_glob I hg hm ?_ hdb)
  have I' : Inv { X with xe := xe } pins σ H s := I.reX (A' := X.A) (c := X.calm) rfl I.ok.hd
  refine PySem.W.callWith_K (h₀ := X.base) I.ok.mod.kin hk (thn (ha xe ap pins s σ H _ I' h) fun us s1 ⟨vs, H1, I1', r, q⟩ => ⟨I1'.kIn, ?_⟩) he hpl
  have I1 : Inv X pins σ H1 s1 := I1'.unX I.ok
  have hl : us.length = ps.length := by rw [← r.length]; exact F.len _ _ _ _ q
  have hb' := hb s1 us I1.kIn (by simpa using hl)
  rw [List.append_nil] at hb'
  refine wpAny_call (codeAny_mono (F.run X.A X.stack s1 H1 ⟨us, []⟩ us vs _ E hr I1.env0 hb' r q) fun res s' hq => ?_)
  cases res with
  | error ev => exact hx ev s1 H1 s' I1 hq
  | ok fl =>
    cases fl with
    | ret u => exact I1.after hq
    | next => exact False.elim hq
    | brk => exact False.elim hq
    | cont => exact False.elim hq
theorem psx_set {i : Nat} {x y : Str} {k : Nat} {f : Addr} {fd : FuncData} {ps : List Str} {sp : Sp} {e : Expr} {es : List Expr} {ta : TA} {p ap pos pos' : Pos} (F : FnOk X.prog X.w X.K X.mg X.base (CXE X.prog X.w) k f fd ps sp) (hr : Room k X.A) (hg : Gl X x) (hm : X.mg x = some (.ref f))
    (hk : PySem.W.keepIn X.K (.ref f) = true) (hb : Binds X.K fd ps []) (hN : X.N.Nodup) (hi : X.N[i]? = some y) (hy : Loc X.env.scope y) (ha : ∀ xe, PA { X with xe := xe } (e :: es) ta)
    (hf : X.fn y = true ∨ X.env.scope.names.lookup y = some .local := by first | exact .inl rfl | exact .inr rfl) (hdb : (x == ("__debug__" : Str)) = false := by decide) (he : starEach (e :: es) X.env = (false, eval e X.env) :: starEach es X.env := by rfl)
    (hpl : (backTo ap (starEach es X.env)).any (·.1) = false := by rfl) (hs : swapsWith (.Call (.Name x p) (e :: es) [] ap) (some (.Name y pos')) pos.line X.env = pure false := by rfl) :
    PSx X [.Assign [.Name y pos'] (.Call (.Name x p) (e :: es) [] ap) pos] (fun D E σ H => ta σ H fun vs H1 => sp vs H1 (fun v H2 => D.nx (σ.set i (some v)) H2) E) := by
  intro pins s σ H D E xe I h hx
  refine wpAny_execs_cons ?_
  refine wpAny_Assign_Name (thn (call_x F hr hg hm hk hb ha I h hx hdb he hpl) fun v s1 ⟨y', H1, I1, r1, q1⟩ => ?_) hs
  exact store_ok I1 hN hi hy r1 (fun s2 I2 => wpAny_execs_nil ⟨_, H1, I2, q1⟩) hf
theorem inv_caught {pins : List (Addr × Obj)} {σ : St} {H : Hp} {s s1 : Shared} {h3 : Heap} {ch : List Addr} (J : Inv X pins σ H s) (hst : X.stack = X.env :: X.outer) (hex : X.ex = []) (m : HX.Mvd (frs X.stack) ch s.heap h3) (hch : ∀ b ∈ ch, X.s₀.heap.get? b = none ∧ H b = none)
    (hl : X.env.locals ∉ ch) (hce : ∀ x c, X.env.cells.lookup x = some c → c ∉ ch) (hp : ∀ p ∈ X.pn ++ pins, p.1 ∉ ch) : Inv X pins σ H { s with heap := h3 } := by
  have ceq : ∀ {c v}, c ∉ ch → s.heap.IsCell c v → h3.IsCell c v := fun {c v} hc ⟨o, q, d⟩ => by
    obtain ⟨sl, z⟩ := m.slot c o hc q
    exact ⟨_, z, d⟩
  refine ⟨J.ok, J.os, J.bare, ?_, ?_, fun x c e => ?_, J.free, J.freeC, fun p hpp => ?_, hok_moved J.hok m (fun b hb => J.stkFree b hb) fun b hb => (hch b hb).2, J.len⟩
  · have u := J.base
    rw [hex] at u ⊢
    refine un_moved u m (fun b hb z => ?_) fun b hb => (hch b hb).1
    rcases List.mem_cons.mp (J.stkSub b z) with q | q
    · rw [q] at hb; exact absurd hb (Nat.not_lt.mpr J.ok.above)
    · exact q
  · obtain ⟨mm, ⟨o, es, ep, ho, hd, r⟩, hv⟩ := J.loc
    obtain ⟨sl, z⟩ := m.slot _ o hl ho
    refine ⟨mm, ⟨_, es, ep, z, hd, r⟩, fun i x v a b c => ?_⟩
    obtain ⟨u, ru, lk⟩ := hv i x v a b c
    refine ⟨u, ru, ?_⟩
    rcases lk with k | ⟨k, c', e, ic⟩
    · exact .inl k
    · exact .inr ⟨k, c', e, ceq (hce _ _ e) ic⟩
  · obtain ⟨v, ic⟩ := J.cell x c e
    exact ⟨v, ceq (hce _ _ e) ic⟩
  · obtain ⟨a, b, c, d, e⟩ := J.pin p hpp
    refine ⟨m.keep _ _ (fun z => ?_) (hp p hpp) a, b, c, d, e⟩
    rcases List.mem_cons.mp (J.stkSub _ z) with q | q
    · exact c q
    · exact d q
theorem ps_try {x : Str} {C : Addr} {bm : List Value} {newId : String} {body suite : List Stmt} {b0 : Stmt} {tb : Ends → XK → St → Hp → Prop} {ts : TS} {np hpos pos : Pos} (O : OwnCls x C bm newId X.mg X.base) (hbase : bm.contains (.type "BaseException") = true) (hg : Gl X x)
    (hst : X.stack = X.env :: X.outer) (hex : X.ex = []) (hb : PSx X body tb) (hs : ∀ (e : Addr) (xe : Value → Shared → Prop), PSs { X with A := X.A.mark (some (.ref e)), calm := false, xe := xe } (b0 :: suite) ts) (hd : (x == ("__debug__" : Str)) = false := by decide) :
    PS X (.Try body [.ExceptHandler (some (.Name x np)) none (b0 :: suite) hpos] [] [] pos) (fun D σ H => tb D (fun c _ H' => c = .ref C ∧ ts D σ H') σ H) := by
  intro pins s σ H D I h
  have hfr : X.env.frame = some X.env.locals := by
    rcases I.ok.stk with z | z
    · rw [hst] at z
      have := congrArg List.length z
      simp at this
    · exact z.2
  refine wpAny_Try_except ?_
  refine wpAny_mono (hb pins s σ H D _ _ I h fun ev s1 H1 s' I1 cx => ?_) (fun f s1 q => ?_) fun _ _ z => z
  rotate_left
  · cases f with
    | next => exact wpAny_execs_nil q
    | brk => exact q
    | cont => exact q
    | ret u => exact q
  obtain ⟨e, T, cls, H', rfl, tb', le, lT, ne, nT, os, bare, un, hok, rfl, hts⟩ := cx
  have J := I1.call' os un hok bare (fun b z => absurd z (by simp))
  have jst : s'.heap.FunFrames X.base (X.env :: X.outer) := hst ▸ J.stack
  have jfr : X.A.frames = some (X.env :: X.outer) := hst ▸ J.ok.frames
  refine HX.note_next (base := X.base) (outer := X.outer) jfr jst hfr tb' fun h2 m2 t2 => ?_
  refine HX.setNone t2 fun h3 m3 t3 => ?_
  have nw : s'.heap.get? s'.heap.objs.size = none := Heap.get?_none_of_le (Nat.le_refl _)
  have m : HX.Mvd (frs X.stack) [e, T] s'.heap h3 := by
    rw [hst]
    exact m2.trans ⟨m3.size, fun b o _ b2 => m3.keep b o (by simp) b2, m3.slot⟩ fun b hb => .inr (by rw [List.mem_singleton.mp hb]; exact nw)
  have two : ∀ {R : Addr → Prop}, R e → R T → ∀ b ∈ [e, T], R b := fun r1 r2 b hb => by
    rcases List.mem_cons.mp hb with rfl | hb
    · exact r1
    · rw [List.mem_singleton.mp hb]; exact r2
  have far : ∀ b ∈ [e, T], s1.heap.get? b = none := two le lT
  obtain ⟨mm, ⟨oL, _, _, hoL, _⟩, _⟩ := I1.loc
  have fl : X.env.locals ∉ [e, T] := fun z => by rw [far _ z] at hoL; cases hoL
  have fc : ∀ x c, X.env.cells.lookup x = some c → c ∉ [e, T] := fun x c q z => by
    obtain ⟨v, o, ho, _⟩ := I1.cell x c q
    rw [far _ z] at ho; cases ho
  have fp : ∀ p ∈ X.pn ++ pins, p.1 ∉ [e, T] := fun p hp z => by
    have := (I1.pin p hp).1
    rw [far _ z] at this; cases this
  have J3 : Inv X pins σ H' { s' with heap := h3 } := inv_caught (s1 := s1) J hst hex m (two ⟨I1.none0 hex le, ne⟩ ⟨I1.none0 hex lT, nT⟩) fl fc fp
  obtain ⟨tl, N, nm, q, bs, hdct, sn, sub, ab, col, dd, k0, k1, k2, k3, k5, mN, hC, hN, hni, TT⟩ := O.obj
  obtain ⟨oe, vs, oT, ts', hTe, he, hcls, hdt, h1, hT, hdT, h3'⟩ := id t3
  have J4 : Inv { X with A := X.A.mark (some (.ref e)), calm := false, xe := notedBy (model X.prog X.w) (X.A.mark (some (.ref e))) X.env (cameBackBy (model X.prog X.w) X.A X.env X.xe) } pins σ H' { s' with heap := h3 } := J3.reX rfl (fun z => by cases z)
  refine wpAny_handleBy_cons (codeAny_handlers_test (ld_glob J4 hg O.bound ?_ hd)) (by intro z; cases z)
  refine wpAny_excMatches_sub_self (J3.bk _ _ hC) he hcls (TT.hasType hbase) ?_
  refine codeAny_handlers_suite (HX.setNone t3 fun h4 m4 t4 => ?_)
  have m' : HX.Mvd (frs X.stack) [e, s'.heap.objs.size] h3 h4 := ⟨m4.size, fun b o _ b2 => m4.keep b o (by simp) (fun z => b2 (by rw [List.mem_singleton.mp z]; simp)), fun b o b2 => m4.slot b o fun z => b2 (by rw [List.mem_singleton.mp z]; simp)⟩
  have two' : ∀ {R : Addr → Prop}, R e → R s'.heap.objs.size → ∀ b ∈ [e, s'.heap.objs.size], R b := fun r1 r2 b hb => by
    rcases List.mem_cons.mp hb with rfl | hb
    · exact r1
    · rw [List.mem_singleton.mp hb]; exact r2
  have n1 : s1.heap.get? s'.heap.objs.size = none := by
    cases z : s1.heap.get? s'.heap.objs.size with
    | none => rfl
    | some o => obtain ⟨o', y⟩ := un.there _ o z (by simp); rw [nw] at y; cases y
  have far' : ∀ b ∈ [e, s'.heap.objs.size], s1.heap.get? b = none := two' le n1
  have J5 : Inv X pins σ H' { s' with heap := h4 } := inv_caught (s := { s' with heap := h3 }) (s1 := s1) J3 hst hex m' (two' ⟨I1.none0 hex le, ne⟩ ⟨I1.none0 hex n1, hok.fresh (Nat.le_refl _)⟩)
    (fun z => by rw [far' _ z] at hoL; cases hoL) (fun x c q z => by obtain ⟨v, o, ho, _⟩ := I1.cell x c q; rw [far' _ z] at ho; cases ho) (fun p hp z => by have := (I1.pin p hp).1; rw [far' _ z] at this; cases this)
  refine wpAny_mono (hs e _ pins { s' with heap := h4 } σ H' D (J5.reX rfl (fun z => by cases z)) hts) (fun f s6 q6 => ?_) fun _ _ z => z
  cases f with
  | next => obtain ⟨σ6, H6, I6, q6⟩ := q6; exact ⟨σ6, H6, I6.unX J5.ok, q6⟩
  | brk => obtain ⟨σ6, H6, I6, q6⟩ := q6; exact ⟨σ6, H6, I6.unX J5.ok, q6⟩
  | cont => obtain ⟨σ6, H6, I6, q6⟩ := q6; exact ⟨σ6, H6, I6.unX J5.ok, q6⟩
  | ret u => obtain ⟨v6, σ6, H6, I6, r6, q6⟩ := q6; exact ⟨v6, σ6, H6, I6.unX J5.ok, r6, q6⟩
end
end L2
namespace HZ
open PySem PySem.Builtin
section
variable {prog : Program} {w : World} {A : Around} {E : Value → Shared → Prop} {s : Shared}
theorem turn_item {c p : Addr} {k : Nat} {xs : Array Value} {x : Value} {Q : Value → Shared → Prop} (hc : s.heap.IsTupleIter c p k) (hp : s.heap.IsTuple p xs) (hx : xs[k]? = some x)
    (h : ∀ g, g.IsTupleIter c p (k + 1) → Heap.SameBut c s.heap g → Q x { s with heap := g }) : wpAny (model prog w) A (SmallTypes.nextOf (.ref c)) Q E s := by
  obtain ⟨oc, gc, kc, dc⟩ := id hc
  obtain ⟨op, gp, kp, np, dp⟩ := id hp
  unfold SmallTypes.nextOf
  refine wpAny_bind (wpAny_callSpecial?_slot (name := Str.ofString "__next__") hc.typeIs F.slot_tuple_iterator_next (wpAny_call_entry F.slot_tuple_iterator_next hc.typeIs F.entry_tuple_iterator_next ?_ (F.args_tuple_iterator_next_1 _)))
  show wpAny _ _ (field (.ref c) 0 >>= _) _ _ s
  refine wpAny_bind (wpAny_field gc dc (x := .ref p) rfl ?_)
  rw [if_neg (show ¬ ((Value.ref p == Value.none) = true) by simp)]
  refine wpAny_bind (wpAny_field gc dc (x := .int k 0) rfl ?_)
  refine wpAny_bind (wpAny_seqItems gp dp ?_)
  simp only [Int.toNat_natCast, hx]
  have dd := Obj.data_mapFields dc (·.setIfInBounds 1 (rawInt ((k : Int) + 1)))
  refine wpAny_bind (wpAny_setField gc dc (by simp) (wpAny_pure ⟨x, rfl, wpAny_pure (h _ ⟨_, Heap.get?_update_self _ gc (Obj.isFreed_of_fields dd), (Obj.cls_mapFields ..).trans kc, ?_⟩ (Heap.SameBut.update ..))⟩))
  rw [dd]; simp [rawInt]
theorem turn_end {c p : Addr} {k : Nat} {xs : Array Value} {Q : Value → Shared → Prop} (hh : A.handled = none) (hc : s.heap.IsTupleIter c p k) (hp : s.heap.IsTuple p xs) (hx : xs[k]? = none)
    (h : ∀ g e, Heap.ExtBut c s.heap g → (∃ o, g.get? e = some o ∧ o.cls = .type "StopIteration") → E (.ref e) { s with heap := g }) : wpAny (model prog w) A (SmallTypes.nextOf (.ref c)) Q E s := by
  obtain ⟨oc, gc, kc, dc⟩ := id hc
  obtain ⟨op, gp, kp, np, dp⟩ := id hp
  unfold SmallTypes.nextOf
  refine wpAny_bind (wpAny_callSpecial?_slot (name := Str.ofString "__next__") hc.typeIs F.slot_tuple_iterator_next (wpAny_call_entry F.slot_tuple_iterator_next hc.typeIs F.entry_tuple_iterator_next ?_ (F.args_tuple_iterator_next_1 _)))
  show wpAny _ _ (field (.ref c) 0 >>= _) _ _ s
  refine wpAny_bind (wpAny_field gc dc (x := .ref p) rfl ?_)
  rw [if_neg (show ¬ ((Value.ref p == Value.none) = true) by simp)]
  refine wpAny_bind (wpAny_field gc dc (x := .int k 0) rfl ?_)
  refine wpAny_bind (wpAny_seqItems gp dp ?_)
  simp only [Int.toNat_natCast, hx]
  refine wpAny_bind (wpAny_rule (wpAny_bind (wpAny_setField gc dc (by simp) ?_)))
  obtain ⟨g1, hg1⟩ : ∃ g1, g1 = s.heap.update c (Obj.mapFields (·.setIfInBounds 0 Value.none)) := ⟨_, rfl⟩
  rw [← hg1]
  have k1 : Heap.ExtBut c s.heap g1 := by rw [hg1]; exact (Heap.SameBut.update ..).extBut
  unfold SmallTypes.stopIteration
  refine wpAny_bind ?_
  unfold newExc newTuple
  refine wpAny_bind (wpAny_newObj_type ?_ (by size_fits))
  refine wpAny_bind (m := firstArgMember _ _) (wpAny_of_eq (a := Value.none) (by first | rfl | (simp only [firstArgMember]; rfl)) ?_)
  refine wpAny_newObj_type (wpAny_raiseNew_none hh (h _ _ (fun b o nb q => Heap.get?_push_of_some _ (Heap.get?_push_of_some _ (k1 b o nb q))) ⟨_, Heap.get?_push_size _ rfl, rfl⟩)) (by size_fits)
structure ZS (h : Heap) (z a b c d p q : Addr) (f0 u v : Value) (k : Nat) (xs ys : Array Value) : Prop where
  zip : IsZip h z a b f0
  ti : IsPair h a (.ref c) (.ref d)
  own : IsPair h b u v
  i1 : h.IsTupleIter c p k
  i2 : h.IsTupleIter d q k
  t1 : h.IsTuple p xs
  t2 : h.IsTuple q ys
structure ZD (z a b c d p q : Addr) : Prop where
  zb : z ≠ b
  zc : z ≠ c
  zd : z ≠ d
  bc : b ≠ c
  bd : b ≠ d
  cd : c ≠ d
  a4 : a ≠ z ∧ a ≠ b ∧ a ≠ c ∧ a ≠ d
  p4 : p ≠ z ∧ p ≠ b ∧ p ≠ c ∧ p ≠ d
  q4 : q ≠ z ∧ q ≠ b ∧ q ≠ c ∧ q ≠ d
theorem sb {x : Addr} {h h' : Heap} (m : Heap.SameBut x h h') {b : Addr} {o : Obj} (n : b ≠ x) (e : h.get? b = some o) : h'.get? b = some o := m.extBut b o n e
theorem itAt {h h' : Heap} {c p : Addr} {k : Nat} (i : h.IsTupleIter c p k) (f : ∀ o, h.get? c = some o → h'.get? c = some o) : h'.IsTupleIter c p k := let ⟨o, g, r⟩ := i; ⟨o, f o g, r⟩
theorem tpAt {h h' : Heap} {p : Addr} {xs : Array Value} (i : h.IsTuple p xs) (f : ∀ o, h.get? p = some o → h'.get? p = some o) : h'.IsTuple p xs := let ⟨o, g, r⟩ := i; ⟨o, f o g, r⟩
variable {z a b c d p q : Addr} {u v x y : Value} {k : Nat} {xs ys : Array Value}
theorem zip_turn {Q : Value → Shared → Prop} (D : ZD z a b c d p q) (S : ZS s.heap z a b c d p q .none u v k xs ys) (hx : xs[k]? = some x) (hy : ys[k]? = some y)
    (h : ∀ g, ZS g z a b c d p q (rawInt s.heap.objs.size) x y (k + 1) xs ys → IsPair g s.heap.objs.size x y → g.objs.size = s.heap.objs.size + 1 →
      (∀ e o, e ≠ z → e ≠ b → e ≠ c → e ≠ d → s.heap.get? e = some o → g.get? e = some o) → Q (.ref s.heap.objs.size) { s with heap := g }) :
    wpAny (model prog w) A (Builtin.«zip.__next__» ⟨[.ref z], []⟩) (fun fin s' => ∃ v, fin = .done (.ret v) ∧ Q v s') E s := by
  have gz := S.zip
  show wpAny _ _ (field (.ref z) 2 >>= _) _ _ s
  refine wpAny_bind (wpAny_field gz rfl (x := .bool false) rfl (wpAny_bind (wpAny_field gz rfl (x := .ref a) rfl (wpAny_bind (wpAny_seqItems S.ti rfl ?_)))))
  refine wpAny_bind ?_
  unfold SmallTypes.ownedTupleIsFree
  refine wpAny_bind (wpAny_field gz rfl (x := .none) rfl (wpAny_pure ?_))
  simp only [if_true]
  refine wpAny_bind (wpAny_rule (wpAny_bind (wpAny_field gz rfl (x := .ref b) rfl (wpAny_bind (wpAny_setField_rec gz (by simp) fun g1 z1 m1 => wpAny_bind ?_)))))
  replace z1 : IsZip g1 z a b .ellipsis := z1
  simp only [List.zipIdx_cons, List.zipIdx_nil, List.forIn_cons, List.forIn_nil]
  refine wpAny_bind (wpAny_bind (wpAny_onRaise ?_))
  show wpAny _ _ (SmallTypes.nextOf (.ref c) >>= _) _ _ _
  refine wpAny_bind (turn_item (itAt S.i1 fun o e => sb m1 D.zc.symm e) (tpAt S.t1 fun o e => sb m1 D.p4.1 e) hx fun g2 c2 m2 => wpAny_pure ?_)
  have b2 : IsPair g2 b u v := sb m2 D.bc (sb m1 D.zb.symm S.own)
  refine wpAny_bind (wpAny_seqItems b2 rfl (wpAny_bind (wpAny_updateSeq_pair b2 fun g3 b3 m3 => wpAny_bind (wpAny_letGo (wpAny_pure ?_)))))
  replace b3 : IsPair g3 b x v := b3
  refine wpAny_bind (wpAny_bind (wpAny_onRaise ?_))
  show wpAny _ _ (SmallTypes.nextOf (.ref d) >>= _) _ _ _
  refine wpAny_bind (turn_item (itAt S.i2 fun o e => sb m3 D.bd.symm (sb m2 D.cd.symm (sb m1 D.zd.symm e))) (tpAt S.t2 fun o e => sb m3 D.q4.2.1 (sb m2 D.q4.2.2.1 (sb m1 D.q4.1 e))) hy fun g4 d4 m4 => wpAny_pure ?_)
  have b4 : IsPair g4 b x v := sb m4 D.bd b3
  refine wpAny_bind (wpAny_seqItems b4 rfl (wpAny_bind (wpAny_updateSeq_pair b4 fun g5 b5 m5 => wpAny_bind (wpAny_letGo (wpAny_pure (wpAny_pure ?_))))))
  replace b5 : IsPair g5 b x y := b5
  refine wpAny_bind (wpAny_seqItems b5 rfl (wpAny_bind (wpAny_newTuple (wpAny_bind ?_))))
  have sz : g5.objs.size = s.heap.objs.size := by rw [m5.1, m4.1, m3.1, m2.1, m1.1]
  have z5 : IsZip g5 z a b .ellipsis := sb m5 D.zb (sb m4 D.zd (sb m3 D.zb (sb m2 D.zc z1)))
  have old : ∀ e o, e ≠ z → e ≠ b → e ≠ c → e ≠ d → s.heap.get? e = some o → g5.get? e = some o := fun e o n1 n2 n3 n4 q => sb m5 n2 (sb m4 n4 (sb m3 n2 (sb m2 n3 (sb m1 n1 q))))
  have zl : z < g5.objs.size := Heap.lt_size z5
  show wpAny _ _ (SmallTypes.ownedTupleHandOut (.ref z) (.ref g5.objs.size)) _ _ _
  unfold SmallTypes.ownedTupleHandOut
  have z6 : IsZip (g5.push { cls := .type "tuple", data := .seq #[x, y] }) z a b .ellipsis := Heap.get?_push_of_some _ z5
  refine wpAny_bind (wpAny_setField_rec z6 (by simp) fun g7 z7 m7 => ?_)
  replace z7 : IsZip g7 z a b (rawInt g5.objs.size) := z7
  refine wpAny_setField_rec z7 (by simp) fun g8 z8 m8 => ?_
  replace z8 : IsZip g8 z a b (rawInt g5.objs.size) := z8
  have up : ∀ e o, e ≠ z → g5.get? e = some o → g8.get? e = some o := fun e o n q => sb m8 n (sb m7 n (Heap.get?_push_of_some _ q))
  have np : IsPair g8 g5.objs.size x y := sb m8 (Nat.ne_of_gt zl) (sb m7 (Nat.ne_of_gt zl) (Heap.get?_push_size _ rfl))
  have s8 : g8.objs.size = g5.objs.size + 1 := by rw [m8.1, m7.1, Heap.size_push]
  rw [sz] at z8 np s8
  refine wpAny_pure ⟨_, rfl, ?_⟩
  show Q (.ref g5.objs.size) _
  rw [sz]
  refine h g8 ⟨z8, up _ _ D.a4.1 (old _ _ D.a4.1 D.a4.2.1 D.a4.2.2.1 D.a4.2.2.2 S.ti), up _ _ D.zb.symm b5, itAt c2 fun o e => up _ o D.zc.symm (sb m5 D.bc.symm (sb m4 D.cd (sb m3 D.bc.symm e))), itAt d4 fun o e => up _ o D.zd.symm (sb m5 D.bd.symm e),
    tpAt S.t1 fun o e => up _ o D.p4.1 (old _ o D.p4.1 D.p4.2.1 D.p4.2.2.1 D.p4.2.2.2 e), tpAt S.t2 fun o e => up _ o D.q4.1 (old _ o D.q4.1 D.q4.2.1 D.q4.2.2.1 D.q4.2.2.2 e)⟩ np s8 fun e o n1 n2 n3 n4 q => up e o n1 (old e o n1 n2 n3 n4 q)
theorem zip_stop {Q : PySem.Fin → Shared → Prop} (hh : A.handled = none) (D : ZD z a b c d p q) (S : ZS s.heap z a b c d p q .none u v k xs ys) (hx : xs[k]? = none)
    (h : ∀ g e, (∀ e o, e ≠ z → e ≠ c → s.heap.get? e = some o → g.get? e = some o) → (∃ o, g.get? e = some o ∧ o.cls = .type "StopIteration") → E (.ref e) { s with heap := g }) :
    wpAny (model prog w) A (Builtin.«zip.__next__» ⟨[.ref z], []⟩) Q E s := by
  have gz := S.zip
  show wpAny _ _ (field (.ref z) 2 >>= _) _ _ s
  refine wpAny_bind (wpAny_field gz rfl (x := .bool false) rfl (wpAny_bind (wpAny_field gz rfl (x := .ref a) rfl (wpAny_bind (wpAny_seqItems S.ti rfl ?_)))))
  refine wpAny_bind ?_
  unfold SmallTypes.ownedTupleIsFree
  refine wpAny_bind (wpAny_field gz rfl (x := .none) rfl (wpAny_pure ?_))
  simp only [if_true]
  refine wpAny_bind (wpAny_rule (wpAny_bind (wpAny_field gz rfl (x := .ref b) rfl (wpAny_bind (wpAny_setField_rec gz (by simp) fun g1 z1 m1 => wpAny_bind ?_)))))
  replace z1 : IsZip g1 z a b .ellipsis := z1
  simp only [List.zipIdx_cons, List.zipIdx_nil, List.forIn_cons, List.forIn_nil]
  refine wpAny_bind (wpAny_bind (wpAny_onRaise ?_))
  show wpAny _ _ (SmallTypes.nextOf (.ref c) >>= _) _ _ _
  refine wpAny_bind (turn_end hh (itAt S.i1 fun o e => sb m1 D.zc.symm e) (tpAt S.t1 fun o e => sb m1 D.p4.1 e) hx fun g2 e m2 ⟨oe, ge, ce⟩ => ?_)
  have z2 : IsZip g2 z a b .ellipsis := m2 _ _ D.zc z1
  have ez : e ≠ z := fun y => by subst y; rw [z2] at ge; cases ge; simp at ce
  exact wpAny_setField_rec z2 (by simp) fun g3 _ m3 => h g3 e (fun e o n1 n2 y => sb m3 n1 (m2 _ _ n2 (sb m1 n1 y))) ⟨oe, sb m3 ez ge, ce⟩
theorem next_turn {Q : Option Value → Shared → Prop} (D : ZD z a b c d p q) (S : ZS s.heap z a b c d p q .none u v k xs ys) (hx : xs[k]? = some x) (hy : ys[k]? = some y)
    (h : ∀ g, ZS g z a b c d p q (rawInt s.heap.objs.size) x y (k + 1) xs ys → IsPair g s.heap.objs.size x y → g.objs.size = s.heap.objs.size + 1 →
      (∀ e o, e ≠ z → e ≠ b → e ≠ c → e ≠ d → s.heap.get? e = some o → g.get? e = some o) → Q (some (.ref s.heap.objs.size)) { s with heap := g }) : wpAny (model prog w) A (pyNext (.ref z)) Q E s := by
  have ty : s.TypeIs (.ref z) "zip" := ⟨_, S.zip, rfl⟩
  unfold pyNext
  exact wpAny_bind (wpAny_attempt (wpAny_callSpecial?_slot (name := Str.ofString "__next__") ty F.slot_zip_next (wpAny_call_entry F.slot_zip_next ty F.entry_zip_next
    (zip_turn D S hx hy fun g a1 a2 a3 a4 => wpAny_pure (h g a1 a2 a3 a4)) (F.args_zip_next_1 _))))
theorem next_stop {Q : Option Value → Shared → Prop} (hh : A.handled = none) (D : ZD z a b c d p q) (S : ZS s.heap z a b c d p q .none u v k xs ys) (hx : xs[k]? = none)
    (h : ∀ g, (∀ e o, e ≠ z → e ≠ c → s.heap.get? e = some o → g.get? e = some o) → Q none { s with heap := g }) : wpAny (model prog w) A (pyNext (.ref z)) Q E s := by
  have ty : s.TypeIs (.ref z) "zip" := ⟨_, S.zip, rfl⟩
  unfold pyNext
  refine wpAny_bind (wpAny_attempt (wpAny_callSpecial?_slot (name := Str.ofString "__next__") ty F.slot_zip_next (wpAny_call_entry F.slot_zip_next ty F.entry_zip_next
    (zip_stop hh D S hx fun g e hk ⟨o, ho, hc⟩ => wpAny_bind (wpAny_isInstance (T := "StopIteration") (b := true) ⟨o, ho, hc⟩ isSubtype_stop (wpAny_pure (h _ hk)))) (F.args_zip_next_1 _))))
end
abbrev ti (p : Addr) : Obj := { cls := .type "tuple_iterator", data := .fields #[.ref p, .int 0 0] }
abbrev w1 (h : Heap) (p : Addr) : Heap := h.push (ti p)
abbrev w2 (h : Heap) (p q : Addr) : Heap := (w1 h p).push (ti q)
abbrev w3 (h : Heap) (p q : Addr) : Heap := (w2 h p q).push { cls := .type "tuple", data := .seq #[.ref h.objs.size, .ref (w1 h p).objs.size] }
abbrev w4 (h : Heap) (p q : Addr) : Heap := (w3 h p q).push { cls := .type "tuple", data := .seq #[.none, .none] }
abbrev w5 (h : Heap) (p q : Addr) : Heap := (w4 h p q).push { cls := .type "zip", data := .fields #[.none, .bool false, .bool false, .ref (w2 h p q).objs.size, .ref (w3 h p q).objs.size] }
theorem meets_new (p q : Addr) (xs ys : Array Value) : Meets (Builtin.«zip.__new__» ⟨[.type "zip", .ref p, .ref q], []⟩)
    (fun _ R s => s.heap.IsTuple p xs ∧ s.heap.IsTuple q ys ∧ R (.ok (.ret (.ref (w4 s.heap p q).objs.size))) { s with heap := w5 s.heap p q }) :=
  .of_wp fun prog w A R s h => by
    obtain ⟨hp, gs, dr, tk, os⟩ := s
    obtain ⟨h1, h2, h⟩ := h
    have sz := sub_zip
    have t1 : Heap.IsTuple (Shared.heap ⟨hp, gs, dr, tk, os⟩) p xs := h1
    have t2 : Heap.IsTuple (Shared.heap ⟨hp.push (ti p), gs, dr, tk, os⟩) q ys := Heap.IsTuple.push h2 _
    wp_walk using wpAny_pyIter_tuple t1, wpAny_pyIter_tuple t2
    exact ⟨_, rfl, h⟩
section
variable {prog : Program} {w : World} {A : Around} {E : Value → Shared → Prop} {s : Shared} {p q : Addr} {xs ys : Array Value}
theorem made {Q : Value → Shared → Prop} (h1 : s.heap.IsTuple p xs) (h2 : s.heap.IsTuple q ys)
    (h : ∀ g, ZS g (s.heap.objs.size + 4) (s.heap.objs.size + 2) (s.heap.objs.size + 3) s.heap.objs.size (s.heap.objs.size + 1) p q .none .none .none 0 xs ys → g.objs.size = s.heap.objs.size + 5 →
      (∀ e o, s.heap.get? e = some o → g.get? e = some o) → Q (.ref (s.heap.objs.size + 4)) { s with heap := g }) : wpAny (model prog w) A (call (.type "zip") [.ref p, .ref q]) Q E s := by
  refine callType_new F.called_zip (by decide) (F.typeCall_zip_2 _ _) (F.newCall_zip_2 _ _) (fun obj => F.args_object_init_3 obj _ _) F.entry_zip_new (meets_new p q xs ys) ⟨h1, h2, ?_⟩
  have n1 : (w1 s.heap p).objs.size = s.heap.objs.size + 1 := Heap.size_push ..
  have n2 : (w2 s.heap p q).objs.size = s.heap.objs.size + 2 := by rw [Heap.size_push, n1]
  have n3 : (w3 s.heap p q).objs.size = s.heap.objs.size + 3 := by rw [Heap.size_push, n2]
  have n4 : (w4 s.heap p q).objs.size = s.heap.objs.size + 4 := by rw [Heap.size_push, n3]
  have n5 : (w5 s.heap p q).objs.size = s.heap.objs.size + 5 := by rw [Heap.size_push, n4]
  have up {h : Heap} {e : Addr} {o o' : Obj} (y : h.get? e = some o) : (h.push o').get? e = some o := Heap.get?_push_of_some _ y
  have e5 : (w5 s.heap p q).get? (w4 s.heap p q).objs.size = some _ := Heap.get?_push_size _ rfl
  have e4 : (w5 s.heap p q).get? (w3 s.heap p q).objs.size = some _ := up (Heap.get?_push_size _ rfl)
  have e3 : (w5 s.heap p q).get? (w2 s.heap p q).objs.size = some _ := up (up (Heap.get?_push_size _ rfl))
  have e2 : (w5 s.heap p q).get? (w1 s.heap p).objs.size = some _ := up (up (up (Heap.get?_push_size _ rfl)))
  have e1 : (w5 s.heap p q).get? s.heap.objs.size = some _ := up (up (up (up (Heap.get?_push_size _ rfl))))
  have keep : ∀ e o, s.heap.get? e = some o → (w5 s.heap p q).get? e = some o := fun e o y => up (up (up (up (up y))))
  show _ ∧ _
  rw [n2, n3, n4] at e5
  rw [n1, n2] at e3
  rw [n3] at e4
  rw [n1] at e2
  rw [n4]
  exact ⟨⟨_, e5, rfl⟩, h _ ⟨e5, e3, e4, ⟨_, e1, rfl, rfl⟩, ⟨_, e2, rfl, rfl⟩, tpAt h1 fun o y => keep _ o y, tpAt h2 fun o y => keep _ o y⟩ n5 keep⟩
end
end HZ
namespace L2
open PySem PySem.Spec PyProof.Rows
section
variable {X : Cx} {pins : List (Addr × Obj)} {σ : St} {H : Hp} {s : Shared} {h' : Heap}
theorem Inv.turnMany {t' : Nat} {ch : List Addr} (I : Inv X pins σ H s) (hf : ∀ b ∈ ch, FpOk X pins H b) (k : ∀ b o, b ∉ ch → s.heap.get? b = some o → h'.get? b = some o) : Inv X pins σ H { s with heap := h', toks := t' } := by
  have nc : ∀ b u, H b = some u → b ∉ ch := fun b u e z => by rw [(hf b z).1] at e; cases e
  refine I.step (g' := s.gens) (d' := s.drawn) (ch := ch) (fun b hb => let ⟨_, a1, _, a3, a4, a5⟩ := hf b hb; ⟨a3, a1, a4, a5⟩) (fun b o _ _ hc e _ => k b o hc e) (fun b o _ _ hc e _ => ⟨o.slots, k b o hc e⟩) (fun _ _ _ _ n => n)
    (fun b o hc e => ⟨o, k b o hc e⟩) (fun _ _ e => e) (fun _ _ _ e => e) (fun b ps e => ⟨#[], by rw [e]; simp⟩) (fun m hm => ?_) (fun b u e => ?_) I.bare
  · obtain ⟨o, es, ep, ho, r⟩ := hm
    exact ⟨o, es, ep, k _ o (fun z => (hf _ z).2.1 rfl) ho, r⟩
  · refine (I.hok b u e).stay (fun c v hc q => k c v ?_ q) (fun _ q => q) fun _ _ q => q
    rcases hc with z | z
    · rw [z]; exact nc b u e
    · exact nc c _ z
theorem Inv.turnLaid {t' : Nat} {ch : List Addr} {a : Addr} {o : HO} (I : Inv X pins σ H s) (hf : ∀ b ∈ ch, FpOk X pins H b) (k : ∀ b o, b ∉ ch → s.heap.get? b = some o → h'.get? b = some o) (hp : s.heap.objs.size ≤ a) (new : ObjOk X.prog X.w (upd H a o) h' a o) : Inv X pins σ (upd H a o) { s with heap := h', toks := t' } := by
  have nc : ∀ b u, H b = some u → b ∉ ch := fun b u e z => by rw [(hf b z).1] at e; cases e
  have na : H a = none := I.hok.fresh hp
  have ne : ∀ {b : Addr} {u : HO}, H b = some u → b ≠ a := fun {b u} e z => by rw [z, na] at e; cases e
  refine I.step (g' := s.gens) (d' := s.drawn) (ch := ch) (fun b hb => let ⟨_, a1, _, a3, a4, a5⟩ := hf b hb; ⟨a3, a1, a4, a5⟩) (fun b o _ _ hc e _ => k b o hc e) (fun b o _ _ hc e _ => ⟨o.slots, k b o hc e⟩)
    (fun b o _ e n => by rw [upd_ne (Nat.ne_of_lt (Nat.lt_of_lt_of_le (Heap.lt_size e) hp))]; exact n)
    (fun b o hc e => ⟨o, k b o hc e⟩) (fun b xs e => by rw [upd_ne (ne e)]; exact e) (fun b o u e => by rw [upd_ne (ne e)]; exact e) (fun b ps e => ⟨#[], by rw [upd_ne (ne e), e]; simp⟩) (fun m hm => ?_) (fun b u e => ?_) I.bare
  · obtain ⟨o, es, ep, ho, r⟩ := hm
    exact ⟨o, es, ep, k _ o (fun z => (hf _ z).2.1 rfl) ho, r⟩
  · by_cases hb : b = a
    · subst hb; rw [upd_same] at e; cases e; exact new
    · rw [upd_ne hb] at e
      refine (I.hok b u e).stay (fun c v hc q => k c v ?_ q) (fun c q => by rw [upd_ne (ne q)]; exact q) fun c ys q => by rw [upd_ne (ne q)]; exact q
      rcases hc with z | z
      · rw [z]; exact nc b u e
      · exact nc c _ z
def Itz (K : PySem.W.Frag) (p q : Addr) : It :=
  ⟨fun i H => ∃ xs ys x y, SqT K H p xs ∧ SqT K H q ys ∧ xs[i]? = some x ∧ ys[i]? = some y, fun i H x H' => ∃ t u v, H t = none ∧ (∀ xs, SqT K H p xs → xs[i]? = some u) ∧ (∀ ys, SqT K H q ys → ys[i]? = some v) ∧ x = .ref t ∧ H' = upd H t (.tup [u, v]),
    fun i H => ∃ xs ys, SqT K H p xs ∧ SqT K H q ys ∧ xs.length = ys.length ∧ xs.length ≤ i⟩
theorem turn_zip {P : Program} {w : World} {K : PySem.W.Frag} {es : List Expr} {kt : Nat} {tp : Pos} (p q z a b c d : Addr) (D : HZ.ZD z a b c d p q) :
    Turn P w K (.Tuple es kt tp) (Itz K p q) [z, a, b, c, d] z (fun i h => (∃ u v, IsZip h z a b .none ∧ IsPair h a (.ref c) (.ref d) ∧ IsPair h b u v ∧ h.IsTupleIter c p i ∧ h.IsTupleIter d q i)) where
  mem := by simp
  obj := fun i h st e he => by
    obtain ⟨u, v, hz, ha, hb, ⟨oc, gc, _, dc⟩, od, gd, _, dd⟩ := st
    simp only [List.mem_cons, List.not_mem_nil, or_false] at he
    rcases he with rfl | rfl | rfl | rfl | rfl
    · exact ⟨_, hz, fun v z => by cases z⟩
    · exact ⟨_, ha, fun v z => by cases z⟩
    · exact ⟨_, hb, fun v z => by cases z⟩
    · exact ⟨oc, gc, fun v z => by rw [dc] at z; cases z⟩
    · exact ⟨od, gd, fun v z => by rw [dd] at z; cases z⟩
  keep := fun i h h' st k => by
    obtain ⟨u, v, hz, ha, hb, hc, hd⟩ := st
    exact ⟨u, v, k z (by simp) _ hz, k a (by simp) _ ha, k b (by simp) _ hb, HZ.itAt hc fun o e => k c (by simp) o e, HZ.itAt hd fun o e => k d (by simp) o e⟩
  item := by
    intro X hP hw hK hc i pins s σ H E I hf st hg
    subst hP hw hK
    obtain ⟨u, v, hz, ha, hb, h1, h2⟩ := st
    obtain ⟨xs, ys, x, y, q1, q2, hx, hy⟩ := hg
    obtain ⟨its1, r1, p1, _⟩ := I.tuple q1
    obtain ⟨its2, r2, p2, _⟩ := I.tuple q2
    obtain ⟨u1, hu1, ru1⟩ := r1.get hx
    obtain ⟨u2, hu2, ru2⟩ := r2.get hy
    refine HZ.next_turn D ⟨hz, ha, hb, h1, h2, p1, p2⟩ (by simpa using hu1) (by simpa using hu2) fun g S np sz kk => ?_
    refine ⟨.ref s.heap.objs.size, rfl, ?_⟩
    refine wpAny_letOwnedTupleGo_zip S.zip fun g2 z2 m2 => ?_
    have lt : ∀ e ∈ [z, a, b, c, d], e < s.heap.objs.size := fun e he => by
      obtain ⟨_, _, gc, _⟩ := id h1
      obtain ⟨_, gd, _⟩ := id h2
      simp only [List.mem_cons, List.not_mem_nil, or_false] at he
      rcases he with rfl | rfl | rfl | rfl | rfl
      · exact Heap.lt_size hz
      · exact Heap.lt_size ha
      · exact Heap.lt_size hb
      · obtain ⟨_, gc, _⟩ := id h1; exact Heap.lt_size gc
      · exact Heap.lt_size gd
    have st2 : ∃ u v, IsZip g2 z a b .none ∧ IsPair g2 a (.ref c) (.ref d) ∧ IsPair g2 b u v ∧ g2.IsTupleIter c p (i + 1) ∧ g2.IsTupleIter d q (i + 1) :=
      ⟨_, _, z2, HZ.sb m2 D.a4.1 S.ti, HZ.sb m2 D.zb.symm S.own, HZ.itAt S.i1 fun o e => HZ.sb m2 D.zc.symm e, HZ.itAt S.i2 fun o e => HZ.sb m2 D.zd.symm e⟩
    have np2 : IsPair g2 s.heap.objs.size u1 u2 := HZ.sb m2 (Nat.ne_of_gt (lt z (by simp))) np
    have I3 : Inv X pins σ (upd H s.heap.objs.size (.tup [x, y])) { s with heap := g2 } := by
      refine I.turnLaid (t' := s.toks) (o := .tup [x, y]) hf (fun e o he q => ?_) (Nat.le_refl _) ⟨by show 2 ≤ sizeLine; decide, [u1, u2], .cons ru1 (.cons ru2 .nil), ⟨_, np2, rfl, _, rfl⟩, _, np2, rfl⟩
      simp only [List.mem_cons, List.not_mem_nil, or_false, not_or] at he
      exact HZ.sb m2 he.1 (kk e o he.1 he.2.2.1 he.2.2.2.1 he.2.2.2.2 q)
    refine ⟨.ref s.heap.objs.size, _, I3, rfl, ⟨_, x, y, I.fresh, fun zs hzs => by rw [I.tuple_inj hzs q1]; exact hx, fun zs hzs => by rw [I.tuple_inj hzs q2]; exact hy, rfl, rfl⟩, st2, fun e he => ?_⟩
    rw [upd_ne (Nat.ne_of_lt (lt e he))]
    exact (hf e he).1
  done := by
    intro X hP hw hK hc i pins s σ H E I hf st hg
    subst hP hw hK
    obtain ⟨u, v, hz, ha, hb, h1, h2⟩ := st
    obtain ⟨xs, ys, q1, q2, hl, hle⟩ := hg
    obtain ⟨its1, r1, p1, _⟩ := I.tuple q1
    obtain ⟨its2, r2, p2, _⟩ := I.tuple q2
    refine HZ.next_stop (I.ok.hd hc) D ⟨hz, ha, hb, h1, h2, p1, p2⟩ (by have := r1.length; simp; omega) fun g kk => ⟨rfl, I.turnMany (t' := s.toks) hf fun e o he q => ?_⟩
    simp only [List.mem_cons, List.not_mem_nil, or_false, not_or] at he
    exact kk e o he.1 he.2.2.2.1 q
  self := fun A i s Q E st h => by
    obtain ⟨u, v, hz, _⟩ := st
    exact wpAny_pyIter_zip hz h
theorem zd_new (n p q : Nat) (h1 : p < n) (h2 : q < n) : HZ.ZD (n + 4) (n + 2) (n + 3) n (n + 1) p q :=
  ⟨show (n + 4 : Nat) ≠ n + 3 by omega, show (n + 4 : Nat) ≠ n by omega, show (n + 4 : Nat) ≠ n + 1 by omega, show (n + 3 : Nat) ≠ n by omega, show (n + 3 : Nat) ≠ n + 1 by omega, show (n : Nat) ≠ n + 1 by omega,
    ⟨show (n + 2 : Nat) ≠ n + 4 by omega, show (n + 2 : Nat) ≠ n + 3 by omega, show (n + 2 : Nat) ≠ n by omega, show (n + 2 : Nat) ≠ n + 1 by omega⟩,
    ⟨show (p : Nat) ≠ n + 4 by omega, show (p : Nat) ≠ n + 3 by omega, show (p : Nat) ≠ n by omega, show (p : Nat) ≠ n + 1 by omega⟩,
    ⟨show (q : Nat) ≠ n + 4 by omega, show (q : Nat) ≠ n + 3 by omega, show (q : Nat) ≠ n by omega, show (q : Nat) ≠ n + 1 by omega⟩⟩
theorem boot_zip : bootBuiltins (Str.ofString "zip") = some (Value.type "zip") := by decide +kernel
def iZip (K : PySem.W.Frag) (ta : TA) : TI := fun σ H R => ta σ H fun vs H1 => ∃ p q xs ys, vs = [.ref p, .ref q] ∧ SqT K H1 p xs ∧ SqT K H1 q ys ∧ xs.length = ys.length ∧ R (Itz K p q) H1
theorem pi_zip {e1 e2 : Expr} {ta : TA} {es : List Expr} {kt : Nat} {tp pp pos : Pos} (ha : PA X [e1, e2] ta) (hg : Gl X "zip") (hm : X.mg "zip" = none) (he : starEach [e1, e2] X.env = (false, eval e1 X.env) :: starEach [e2] X.env := by rfl) (hpl : (backTo pos (starEach [e2] X.env)).any (·.1) = false := by rfl) :
    PI X (.Tuple es kt tp) (.Call (.Name "zip" pp) [e1, e2] [] pos) (iZip X.K ta) := by
  intro pins s σ H R I h
  refine wpAny_Call_Name_kw (ld_blt I hg hm boot_zip ?_)
  refine PyProof.Rows.callWith_type1 (thn (ha pos pins s σ H _ I h) fun us s1 ⟨vs, H1, I1, r1, q1⟩ => ?_) he hpl
  obtain ⟨p, q, xs, ys, rfl, h1, h2, hl, hR⟩ := q1
  cases r1 with
  | cons ra rb =>
    cases rb with
    | cons rb rc =>
      cases rc; cases ra; cases rb
      obtain ⟨its1, r1, p1, _⟩ := I1.tuple h1
      obtain ⟨its2, r2, p2, _⟩ := I1.tuple h2
      refine HZ.made p1 p2 fun g S sz kk => ?_
      refine wpAny_pyIter_zip S.zip ?_
      have I2 : Inv X pins σ H1 { s1 with heap := g } := I1.kept (t' := s1.toks) kk
      have l1 : p < s1.heap.objs.size := by obtain ⟨_, g1, _⟩ := p1; exact Heap.lt_size g1
      have l2 : q < s1.heap.objs.size := by obtain ⟨_, g1, _⟩ := p2; exact Heap.lt_size g1
      have D : HZ.ZD (s1.heap.objs.size + 4) (s1.heap.objs.size + 2) (s1.heap.objs.size + 3) s1.heap.objs.size (s1.heap.objs.size + 1) p q := zd_new _ _ _ l1 l2
      refine ⟨s1.heap.objs.size + 4, [s1.heap.objs.size + 4, s1.heap.objs.size + 2, s1.heap.objs.size + 3, s1.heap.objs.size, s1.heap.objs.size + 1], _, _, H1, rfl, I2, turn_zip p q _ _ _ _ _ D, ⟨_, _, S.zip, S.ti, S.own, S.i1, S.i2⟩, fun b hb => ?_, hR⟩
      have hb' : s1.heap.objs.size ≤ b := by
        simp only [List.mem_cons, List.not_mem_nil, or_false] at hb
        rcases hb with rfl | rfl | rfl | rfl | rfl <;> first | exact Nat.le_refl _ | exact Nat.le_add_right _ _
      exact I1.fpOk hb' (I1.hok.fresh hb')
end
end L2
namespace HM
open PySem
theorem nofill_t : fillsNumberSlot (.type "tuple") "mul" = pure false :=
  fillsNumberSlot_seq (id := "tuple.__mul__") (r := some (.builtin "tuple.__rmul__")) F.slot_tuple_mul.lookup (by decide +kernel) F.slot_tuple_rmul.lookup (by decide +kernel)
theorem rep_t : seqRepeat? (.type "tuple") = pure (some (.builtin "tuple.__mul__")) := by
  have e1 := seqSlot_of (T := "tuple") (name := "__mul__") (id := "tuple.__mul__") F.slot_tuple_mul.lookup (by decide +kernel)
  have e2 := seqSlot_of (T := "tuple") (name := "__rmul__") (id := "tuple.__rmul__") F.slot_tuple_rmul.lookup (by decide +kernel)
  unfold seqRepeat?
  rw [e1, e2]
  rfl
theorem rmul_t (a : Int) (t : Tok) (l : Addr) (items : Array Value) (n : Nat) (d : Option Addr) (sl : Array (Option Value)) :
    Meets (Builtin.«int.__rmul__» ⟨[.int a t, .ref l], []⟩) (fun _ R s => s.heap.get? l = some { cls := .type "tuple", dict := d, data := .seq items n, slots := sl } ∧ R (.ok (.ret Value.notImplemented)) s) :=
  .of_wp fun prog w A R s h => by obtain ⟨hp, g, dr, tk, os⟩ := s; obtain ⟨hl, h⟩ := h; wp_walk; exact ⟨_, rfl, h⟩
theorem mul_meets (l : Addr) (items : Array Value) (n : Nat) (d : Option Addr) (sl : Array (Option Value)) (x : Int) (u : Tok) (c0 : ¬ (decide (x < -(2 ^ 63)) || decide (x ≥ 2 ^ 63)) = true) (c1 : ¬ (items.isEmpty || x == 1) = true)
    (c2 : ¬ (decide (x ≤ 0) || items.isEmpty) = true) (c3 : ¬ (items.size : Int) * x > (2 ^ 63 - 1) / 8) (c4 : ¬ Builtin.Tuple.tupleTooMany ((items.size : Int) * x) = true)
    (hz : ((List.replicate x.toNat items).foldl (· ++ ·) #[]).size ≤ sizeLine) :
    Meets (Builtin.«tuple.__mul__» ⟨[.ref l, .int x u], []⟩) (fun _ R s => s.heap.get? l = some { cls := .type "tuple", dict := d, data := .seq items n, slots := sl } ∧
      R (.ok (.ret (.ref s.heap.objs.size))) { s with heap := s.heap.push { cls := .type "tuple", data := .seq ((List.replicate x.toNat items).foldl (· ++ ·) #[]) } }) :=
  .of_wp fun prog w A R s h => by
    obtain ⟨hp, g, dr, tk, os⟩ := s; obtain ⟨hl, h⟩ := h
    wp_walk
    rw [if_neg c0]
    dsimp only
    refine wpAny_bind (wpAny_tupleItemsOf hl rfl ?_)
    rw [if_neg c1, if_neg c2, if_neg c3, if_neg c4]
    refine wpAny_bind (m := Builtin.Tuple.tupleExact _) (wpAny_newObj_type ?_ hz)
    exact wpAny_pure ⟨_, rfl, h⟩
theorem fold_rep (its : List Value) : ∀ (k : Nat) (acc : List Value), List.foldl (fun x1 x2 => x1 ++ x2) acc.toArray (List.replicate k its.toArray) = (acc ++ (List.replicate k its).flatten).toArray
  | 0, acc => by simp
  | k + 1, acc => by
    rw [List.replicate_succ, List.replicate_succ, List.foldl_cons, List.flatten_cons]
    have e : acc.toArray ++ its.toArray = (acc ++ its).toArray := by simp
    rw [e, fold_rep its k (acc ++ its), List.append_assoc]
section
variable {prog : Program} {w : World} {A : Around} {E : Value → Shared → Prop} {s : Shared}
theorem mul_t {l : Addr} {o : Obj} {its : List Value} {k : Nat} {x : Int} {u : Tok} {Q : Value → Shared → Prop} (ho : s.heap.get? l = some o) (hc : o.cls = .type "tuple") (hd : o.data = .seq its.toArray k)
    (h1 : 2 ≤ x) (h2 : x ≤ 1000) (hne : its ≠ []) (hsz : its.length ≤ 1000)
    (h : Q (.ref s.heap.objs.size) { s with heap := s.heap.push { cls := .type "tuple", data := .seq (List.replicate x.toNat its).flatten.toArray } }) :
    wpAny (model prog w) A (binaryOp .Mult (.ref l) (.int x u)) Q E s := by
  obtain ⟨oc, od, dt, sl⟩ := o
  cases hc; cases hd
  have ty : s.TypeIs (.ref l) "tuple" := ⟨_, ho, rfl⟩
  have hl : 0 < its.length := List.length_pos_iff.mpr hne
  have hem : its.toArray.isEmpty = false := by cases its with | nil => exact absurd rfl hne | cons a r => simp
  have hz0 : its.toArray.size = its.length := List.size_toArray ..
  have hp : (its.length : Int) * x ≤ 1000 * 1000 := Int.mul_le_mul (by omega) h2 (by omega) (by omega)
  have hfold := fold_rep its x.toNat []
  rw [List.nil_append] at hfold
  have hlen : (List.replicate x.toNat its).flatten.length = x.toNat * its.length := by simp
  have hxn : x.toNat * its.length ≤ 1000 * 1000 := Nat.mul_le_mul (by omega) hsz
  refine wpAny_binaryOp_repeat_ref (T := "tuple") (U := "int") (by decide) ty (fun s' => typeIs_int s' x u) nofill_t F.fills_int_mul F.slot_int_rmul rep_t F.slot_int_index.lookup
    (call_meets F.slot_int_rmul (typeIs_int s x u) F.entry_int_rmul (F.args_int_rmul_2 _ _) (rmul_t x u l its.toArray k od sl) ⟨ho, rfl, ty, ?_⟩)
  refine call_meets F.slot_tuple_mul ty F.entry_tuple_mul (F.args_tuple_mul_2 _ _) (mul_meets l its.toArray k od sl x u ?_ ?_ ?_ ?_ ?_ ?_) ⟨ho, ?_⟩
  · have a1 : ¬ x < -(2 ^ 63) := by omega
    have a2 : ¬ x ≥ 2 ^ 63 := by omega
    rw [decide_eq_false a1, decide_eq_false a2]
    exact Bool.false_ne_true
  · rw [hem]
    have : ¬ x = 1 := by omega
    simpa using this
  · rw [hem]
    have : ¬ x ≤ 0 := by omega
    simpa using this
  · rw [hz0]; omega
  · rw [hz0]
    unfold Builtin.Tuple.tupleTooMany
    rw [sizeLine_eq]
    simp only [decide_eq_true_eq, Int.not_lt, gt_iff_lt]
    omega
  · show (List.foldl (fun x1 x2 => x1 ++ x2) (#[] : Array Value) (List.replicate x.toNat its.toArray)).size ≤ _
    have e0 : (#[] : Array Value) = ([] : List Value).toArray := rfl
    rw [e0, hfold, List.size_toArray, hlen, sizeLine_eq]
    omega
  · have e : List.foldl (· ++ ·) (#[] : Array Value) (List.replicate x.toNat its.toArray) = (List.replicate x.toNat its).flatten.toArray := hfold
    rw [e]
    exact h
end
end HM
namespace L2
open PySem PySem.Spec PyProof.Rows
section
variable {X : Cx}
theorem call_isTup : CallR X (.builtin "isinstance") (fun xs H Q => ∃ a ys T b, xs = [.ref a, .ty T] ∧ SqT X.K H a ys ∧ PySem.W.kitOne X.K (.type "tuple") (.type T) = some b ∧ Q (.bl b) H) := by
  intro pins s σ H xs us Q I r h
  obtain ⟨a, ys, T, b, rfl, hq, hk, q⟩ := h
  obtain ⟨u, w', rfl, r1, r2⟩ := vals2 r
  cases r1
  cases r2
  obtain ⟨its, r, p, _⟩ := I.tuple hq
  obtain ⟨o, h1, h2, _⟩ := p
  exact PySem.W.kia_one PySem.W.kitx_tuple I.kIn ⟨o, h1, h2⟩ hk (fun z => nomatch z) fun tk => ⟨.bl b, H, I.tok _, rfl, q⟩
def tFmtR (te : TE) : TE := fun σ H Q => te σ H fun x H1 => ∃ y, x = .str y ∧ (reprText y).length ≤ sizeLine ∧ Q (.str (reprText y)) H1
theorem pe_fmtR {e : Expr} {te : TE} {pos : Pos} (he : PE X e te) : PE X (.FormattedValue e 114 none pos) (tFmtR te) := by
  intro pins s σ H Q I h
  refine wpAny_FormattedValue_repr (thn (he pins s σ H _ I h) fun v s1 ⟨x, H1, I1, r1, q1⟩ => ?_)
  obtain ⟨y, rfl, hy, q⟩ := q1
  obtain ⟨t, rfl⟩ := r1
  refine pyReprObj_str ?_ hy
  exact wpAny_formatField_str ⟨.str _, H1, I1.tok _, ⟨_, rfl⟩, q⟩ ⟨.str _, H1, I1.tok _, ⟨_, rfl⟩, q⟩ hy
theorem op_mulT : OpR X (binaryOp .Mult) (fun x y H Q => ∃ a xs n, x = .ref a ∧ y = .int n ∧ SqT X.K H a xs ∧ xs ≠ [] ∧ xs.length ≤ 1000 ∧ 2 ≤ n ∧ n ≤ 1000 ∧ ∀ p, H p = none → Q (.ref p) (upd H p (.tup (List.replicate n.toNat xs).flatten))) := by
  intro pins s σ H x y v u Q I rx ry h
  obtain ⟨a, xs, n, rfl, rfl, hq, hne, hl, h1, h2, q⟩ := h
  cases rx
  obtain ⟨t', rfl⟩ := ry
  obtain ⟨its, r, p, _⟩ := I.tuple hq
  obtain ⟨o, ho, hc, k, hd⟩ := p
  have hlen := r.length
  have rr : ∀ k : Nat, Vals (List.replicate k xs).flatten (List.replicate k its).flatten := fun k => by
    induction k with
    | zero => exact .nil
    | succ k ih => rw [List.replicate_succ, List.replicate_succ, List.flatten_cons, List.flatten_cons]; exact r.append ih
  refine HM.mul_t ho hc hd h1 h2 (fun e => hne (by subst e; cases r; rfl)) (by omega) ?_
  refine ⟨.ref s.heap.objs.size, _, I.laid (t' := s.toks) (o := .tup (List.replicate n.toNat xs).flatten) (fun b u e => Heap.get?_push_of_some _ e) (Nat.le_refl _) ?_, rfl, q _ I.fresh⟩
  have hz : (List.replicate n.toNat xs).flatten.length ≤ sizeLine := by
    have e : (List.replicate n.toNat xs).flatten.length = n.toNat * xs.length := by simp
    have hxn : n.toNat * xs.length ≤ 1000 * 1000 := Nat.mul_le_mul (by omega) hl
    rw [e, sizeLine_eq]; omega
  exact ⟨hz, _, rr _, ⟨_, Heap.get?_push_size _ rfl, rfl, _, rfl⟩, _, Heap.get?_push_size _ rfl, rfl⟩
def rJoinT (K : PySem.W.Frag) : V → List V → Hp → VK → Prop := fun x vs H Q => ∃ z p ts, x = .str z ∧ vs = [.ref p] ∧ SqT K H p (ts.map V.str) ∧ (ts.map (·.length)).sum + ts.length * z.length ≤ 16777216 ∧ Q (.str (Txt.join z ts)) H
theorem mt_joinT : MtM X "str.join" (rJoinT X.K) := by
  intro pins s σ H x vs v us Q I rx rv h
  obtain ⟨z, p, ts, rfl, rfl, hq, hz, q⟩ := h
  obtain ⟨t, rfl⟩ := rx
  obtain ⟨u, rfl, ru⟩ := rv.one
  cases ru
  obtain ⟨its, r, pl, _⟩ := I.tuple hq
  exact join_tuple pl (strsAre_vals (by simpa using r)) hz fun t' k => ⟨.str _, H, I.tok _, ⟨_, rfl⟩, q⟩
end
section
variable {P : Program} {w : World} {K : PySem.W.Frag} {mg : Str → Option Value} {base : Heap}
theorem Fun.okE {x qual : Str} {st : Stmt} {f : Addr} {fd : FuncData} {N ps : List Str} {k : Nat} {sp : Sp} (F : Fun K x qual st f fd) (S : FnScope N ps (defScope st)) (len : ∀ vs H Q E, sp vs H Q E → vs.length = ps.length)
    (hbody : ∀ (cdv : Value) (A : Around) (outer : List Env) (s : Shared) (H : Hp) (vs : List V) (Q : VK) (E : XK), Room k (A.deeper (envOfC qual (defScope st) s.heap.objs.size f cdv)) → sp vs H Q E →
      ∃ t, PSs (cxOf (CXE P w) P w K mg base N qual (defScope st) f cdv A outer s H E) (defBody st) t ∧ t { nx := fun _ H' => Q .non H', rt := Q } (start N vs) H) : FnOk P w K mg base (CXE P w) (k + 1) f fd ps sp := by
  obtain ⟨oc, od, kV, doc, pm, an, cdv, ct, osl, rfl, lk, hcd⟩ := F.ex
  exact fn_of lk hcd S len fun A outer s H vs Q E hr hsp => hbody cdv A outer s H vs Q E hr hsp
theorem own_mk {h : Heap} {x : Str} {C : Addr} {bm : List Value} {newId : String} (X : K.In h) (g : mg x = some (.ref C)) (q : PySem.W.excIn K C bm newId = true) : OwnCls x C bm newId mg h := by
  refine ⟨g, ?_⟩
  unfold PySem.W.excIn at q
  split at q
  · rename_i e0 rec0 sl0 lk0
    split at q
    · rename_i C0 rest0 q0 q1 q2 q3 n0 q5 em es0
      rw [Bool.and_eq_true, Bool.and_eq_true, Bool.and_eq_true, Bool.and_eq_true, Bool.and_eq_true] at q
      obtain ⟨⟨⟨⟨⟨f1, f2⟩, f3⟩, f4⟩, f5⟩, f6⟩ := q
      have g1 : C0 = C := by simpa using f1
      have g2 : n0 = newId := by simpa using f2
      subst g1 g2
      obtain ⟨c1, c2, c3, c4, c5, c6, c7, c8, c9, c10, c11⟩ := rec0
      obtain ⟨l0⟩ := sl0
      have es1 : l0 = _ := es0
      have em1 : c3 = _ := em
      have f31 : c11 = false := by simpa using f3
      subst es1 em1 f31
      exact ⟨rest0, c4, c1, c5, c2, c6, c7, c8, c9, c10, e0, q0, q1, q2, q3, q5, _, X _ _ lk0, .of_isNs (PySem.W.isNs_of_in X f5), PySem.W.nsMap_none_of_in X f5 (by simpa using f6), PySem.W.tail_of_in X f4⟩
    · cases q
  · cases q
end
end L2
namespace L2
open PySem PySem.Spec PyProof.Rows
end L2
namespace HS
open PySem PySem.W PyProof.Rows
def ev (lt : Nat → Nat → Bool) {α : Type} : KasT α → α
  | .ret a => a
  | .ask i j k => ev lt (k (lt i j))
structure Ord (lt : Nat → Nat → Bool) : Prop where
  tot : ∀ a b, lt a b = true → lt b a = false
  tr : ∀ a b c, lt b a = false → lt c b = false → lt c a = false
section
variable {lt : Nat → Nat → Bool} (O : Ord lt)
abbrev P (p : Array Nat) (i : Nat) : Nat := p.getD i 0
def S (lt : Nat → Nat → Bool) (p : Array Nat) (k : Nat) : Prop := ∀ i j, i ≤ j → j < k → lt (P p j) (P p i) = false
def D (lt : Nat → Nat → Bool) (p : Array Nat) (k : Nat) : Prop := ∀ i j, i ≤ j → j < k → lt (P p i) (P p j) = false
include O in
theorem rfl_ (a : Nat) : lt a a = false := by
  cases h : lt a a with
  | false => rfl
  | true => rw [O.tot a a h] at h; cases h
include O in
theorem S_step {p : Array Nat} {n : Nat} (h1 : 1 ≤ n) (hs : S lt p n) (h : lt (P p n) (P p (n - 1)) = false) : S lt p (n + 1) := fun i j hij hj => by
  by_cases e : j = n
  · subst e
    by_cases e2 : i = j
    · subst e2; exact rfl_ O _
    · exact O.tr _ _ _ (hs i (j - 1) (by omega) (by omega)) h
  · exact hs i j hij (by omega)
include O in
theorem D_step {p : Array Nat} {n : Nat} (h1 : 1 ≤ n) (hs : D lt p n) (h : lt (P p (n - 1)) (P p n) = false) : D lt p (n + 1) := fun i j hij hj => by
  by_cases e : j = n
  · subst e
    by_cases e2 : i = j
    · subst e2; exact rfl_ O _
    · exact O.tr _ _ _ h (hs i (j - 1) (by omega) (by omega))
  · exact hs i j hij (by omega)
include O in
theorem asc_ok (p : Array Nat) : ∀ (f n : Nat), 1 ≤ n → S lt p n → n ≤ ev lt (kas_asc p f n) ∧ ev lt (kas_asc p f n) ≤ n + f ∧ S lt p (ev lt (kas_asc p f n))
  | 0, n, _, hs => ⟨Nat.le_refl _, Nat.le_refl _, hs⟩
  | f + 1, n, h1, hs => by
    show n ≤ ev lt (if lt (P p n) (P p (n - 1)) = true then .ret n else kas_asc p f (n + 1)) ∧ ev lt (if lt (P p n) (P p (n - 1)) = true then .ret n else kas_asc p f (n + 1)) ≤ n + (f + 1) ∧ S lt p (ev lt (if lt (P p n) (P p (n - 1)) = true then .ret n else kas_asc p f (n + 1)))
    cases h : lt (P p n) (P p (n - 1)) with
    | true => rw [if_pos rfl]; exact ⟨Nat.le_refl _, Nat.le_add_right _ _, hs⟩
    | false =>
      rw [if_neg Bool.false_ne_true]
      have ih := asc_ok p f (n + 1) (by omega) (S_step O h1 hs h)
      exact ⟨by omega, by omega, ih.2.2⟩
end
end HS
namespace HS
open PySem PySem.W PyProof.Rows
structure Ent (n : Nat) (p : Array Nat) : Prop where
  pos : 0 < n
  all : ∀ y ∈ p.toList, y < n
theorem Ent.at {n : Nat} {p : Array Nat} (h : Ent n p) (x : Nat) : P p x < n := by
  by_cases hx : x < p.size
  · have e : P p x = p[x] := by simp [P, Array.getD, hx]
    rw [e]
    exact h.all _ (by simp)
  · have e : P p x = 0 := by simp [P, Array.getD, hx]
    rw [e]
    exact h.pos
theorem Ent.perm {n : Nat} {p q : Array Nat} (h : Ent n p) (hp : q.Perm p) : Ent n q := ⟨h.pos, fun y hy => h.all y ((hp.toList.mem_iff).mp hy)⟩
section
variable {prog : Program} {w : World} {A : Around} {E : Value → Shared → Prop} {s : Shared} {κ : Type}
end
end HS
namespace HD
open PySem
theorem entry_loop : entryFor table "dict.update.loop" = some Builtin.«dict.update.loop» := entryFor_of_tree (by kernel_rfl)
theorem plain_loop : plainId "dict.update.loop" = true := by decide +kernel
section
variable {prog : Program} {w : World} {A : Around} {E : Value → Shared → Prop} {s : Shared}
end
end HD
namespace HD
open PySem
section
variable {prog : Program} {w : World} {A : Around} {E : Value → Shared → Prop} {s : Shared} {K : Type} [DecidableEq K] {knd : KeyKind prog w K}
def PairsAt (knd : KeyKind prog w K) (h : Heap) (its : List Value) (kvs : List (K × Value)) : Prop :=
  its.length = kvs.length ∧ ∀ (j : Nat) (v : Value) (kx : K × Value), its[j]? = some v → kvs[j]? = some kx → ∃ b ob key n, v = Value.ref b ∧ h.get? b = some ob ∧ ob.cls = .type "tuple" ∧ ob.data = .seq #[key, kx.2] n ∧ knd.is kx.1 key = true
structure St (knd : KeyKind prog w K) (h0 : Heap) (its : List Value) (kvs : List (K × Value)) (a d it : Addr) (i : Nat) (h : Heap) : Prop where
  tup : h.IsTuple a its.toArray
  iter : h.IsTupleIter it a i
  dict : h.DictOf knd d (merged [] (kvs.take i))
  keep : ∀ b o, b ≠ d → b ≠ it → h0.get? b = some o → h.get? b = some o
theorem tuple_same {h h' : Heap} {a d : Addr} {xs : Array Value} (ht : h.IsTuple a xs) (hs : Heap.SameBut d h h') (hne : a ≠ d) : h'.IsTuple a xs := by
  obtain ⟨o, ho, r⟩ := ht
  exact ⟨o, (hs.2 a hne).trans ho, r⟩
theorem iter_same {h h' : Heap} {a d it : Addr} {i : Nat} (ht : h.IsTupleIter it a i) (hs : Heap.SameBut d h h') (hne : it ≠ d) : h'.IsTupleIter it a i := by
  obtain ⟨o, ho, r⟩ := ht
  exact ⟨o, (hs.2 it hne).trans ho, r⟩
theorem upd_loop {its : List Value} {kvs : List (K × Value)} {a d it : Addr} {h0 : Heap} {R : Result → Shared → Prop} (hh : A.handled = none) (hP : PairsAt knd h0 its kvs) (hd : a ≠ d) (hit : a ≠ it) (hdi : d ≠ it) (hz : its.length ≤ 1000)
    (hd0 : h0.get? d = none) (hi0 : h0.get? it = none) (hml : ∀ i, (merged [] (kvs.take i)).length ≤ 1000)
    (hR : ∀ h tk, h.DictOf knd d (merged [] kvs) → (∀ b o, b ≠ d → b ≠ it → h0.get? b = some o → h.get? b = some o) → R (.ok (.ret .none)) { s with heap := h, toks := tk }) :
    ∀ (m i : Nat) (h : Heap) (tk : Nat), its.length - i = m → i ≤ its.length → St knd h0 its kvs a d it i h → codeAny (model prog w) A (.builtin "dict.update.loop" ⟨[.ref d, .ref it, rawInt (i : Int), .none], []⟩) R { s with heap := h, toks := tk } := by
  intro m
  induction m with
  | zero =>
    intro i h tk hm hi st
    refine codeAny_builtin entry_loop ?_
    rw [Around.under_plainId plain_loop _]
    show wpAny _ A.in1 (pyNext (.ref it) >>= _) _ _ _
    refine wpAny_bind (wpAny_pyNext_tuple_end hh st.iter st.tup (by simp; omega) fun h' hk' => ?_)
    dsimp only
    refine wpAny_bind (m := Builtin.Dict.addKeywords d []) (wpAny_pure (wpAny_pure (hR h' _ ?_ ?_)))
    · have e : kvs.take i = kvs := List.take_of_length_le (by have := hP.1; omega)
      have := st.dict
      rw [e] at this
      exact this.extBut hk' hdi
    · intro b o n1 n2 e
      exact hk' b o n2 (st.keep b o n1 n2 e)
  | succ m ih =>
    intro i h tk hm hi st
    refine codeAny_builtin entry_loop ?_
    rw [Around.under_plainId plain_loop _]
    have hlt : i < its.length := by omega
    have hlk : i < kvs.length := by have := hP.1; omega
    have hgi : its[i]? = some its[i] := List.getElem?_eq_getElem hlt
    have hgk : kvs[i]? = some kvs[i] := List.getElem?_eq_getElem hlk
    obtain ⟨b, ob, key, n, ev, hb, hbc, hbd, hkey⟩ := hP.2 i _ _ hgi hgk
    have nb1 : b ≠ d := fun z => by rw [z, hd0] at hb; cases hb
    have nb2 : b ≠ it := fun z => by rw [z, hi0] at hb; cases hb
    show wpAny _ A.in1 (pyNext (.ref it) >>= _) _ _ _
    refine wpAny_bind (wpAny_pyNext_tuple_item (x := its[i]) st.iter st.tup (by simp [hlt]) fun h1 hI1 hs1 => ?_)
    rw [ev]
    dsimp only
    have hb1 : h1.get? b = some ob := (hs1.2 b nb2).trans (st.keep b ob nb1 nb2 hb)
    have ty : ∀ tk', Shared.TypeIs ⟨h1, s.gens, s.drawn, tk', s.os⟩ (.ref b) "tuple" := fun _ => ⟨ob, hb1, hbc⟩
    have hD1 : h1.DictOf knd d (merged [] (kvs.take i)) := by
      have := st.dict
      obtain ⟨o, es, ep, ho, r⟩ := this
      exact ⟨o, es, ep, (hs1.2 d hdi).trans ho, r⟩
    refine wpAny_bind (wpAny_holding (wpAny_bind (wpAny_tryCatch ?_)))
    unfold Builtin.Dict.pairItems
    refine wpAny_bind (wpAny_typeOf (ty _) ?_)
    rw [if_pos (by decide)]
    refine wpAny_bind (wpAny_seqItems hb1 hbd (wpAny_pure ?_))
    show wpAny _ _ (holding [key, kvs[i].2] (dictSet d key kvs[i].2)) _ _ _
    refine wpAny_holding (wpAny_dictSet_pairs hkey hD1 (fun h2 hd2 hs2 => ?_) (by have := hml i; rw [sizeLine_eq]; omega))
    refine wpAny_pure ⟨plainId_quiet plain_loop _, ih (i + 1) h2 _ (by omega) (by omega) ⟨?_, ?_, ?_, ?_⟩⟩
    · obtain ⟨o, ho, r⟩ := st.tup
      exact tuple_same ⟨o, (hs1.2 a hit).trans ho, r⟩ hs2 hd
    · exact iter_same hI1 hs2 hdi.symm
    · rw [merged_take_succ [] kvs i kvs[i] hgk]
      exact hd2
    · intro b' o' n1 n2 e
      exact (hs2.2 b' n1).trans ((hs1.2 b' n2).trans (st.keep b' o' n1 n2 e))
end
end HD
namespace HS
open PySem PySem.W PyProof.Rows
def ltS (a b : Str) : Bool := decide (a.cps.toList < b.cps.toList)
theorem ltS_irr (a : Str) : ltS a a = false := by unfold ltS; exact decide_eq_false (List.lt_irrefl _)
theorem ltS_tot (a b : Str) (h : ltS a b = true) : ltS b a = false := by
  unfold ltS at *
  exact decide_eq_false (List.lt_asymm (of_decide_eq_true h))
theorem ltS_tri {a b : Str} (h1 : ltS a b = false) (h2 : ltS b a = false) : a = b := by
  unfold ltS at *
  have e := List.le_antisymm (List.not_lt.mp (of_decide_eq_false h2)) (List.not_lt.mp (of_decide_eq_false h1))
  exact Str.ext' (Array.toList_inj.mp e)
theorem ltS_tr (a b c : Str) (h1 : ltS b a = false) (h2 : ltS c b = false) : ltS c a = false := by
  unfold ltS at *
  exact decide_eq_false (List.not_lt.mpr (List.le_trans (List.not_lt.mp (of_decide_eq_false h1)) (List.not_lt.mp (of_decide_eq_false h2))))
def ltT : List Str → List Str → Bool
  | _, [] => false
  | [], _ :: _ => true
  | a :: as, b :: bs => if a = b then ltT as bs else ltS a b
section
variable {prog : Program} {w : World} {A : Around} {E : Value → Shared → Prop} {s : Shared} {κ : Type}
def TupStr (h : Heap) (v : Value) (ts : List Str) : Prop := ∃ a o vs n, v = Value.ref a ∧ h.get? a = some o ∧ o.cls = .type "tuple" ∧ o.data = .seq vs n ∧ StrsAre vs.toList ts
inductive TupsAre (h : Heap) : List Value → List (List Str) → Prop where
  | nil : TupsAre h [] []
  | cons {v : Value} {ts : List Str} {vs : List Value} {tss : List (List Str)} : TupStr h v ts → ts ≠ [] → TupsAre h vs tss → TupsAre h (v :: vs) (ts :: tss)
theorem TupsAre.keep {h h' : Heap} (k : ∀ b o, h.get? b = some o → h'.get? b = some o) {vs : List Value} {tss : List (List Str)} (x : TupsAre h vs tss) : TupsAre h' vs tss := by
  induction x with
  | nil => exact .nil
  | cons t ne _ ih =>
    obtain ⟨a, o, xs, n, e, ho, r⟩ := t
    exact .cons ⟨a, o, xs, n, e, k a o ho, r⟩ ne ih
theorem TupsAre.len {h : Heap} {vs : List Value} {tss : List (List Str)} (x : TupsAre h vs tss) : vs.length = tss.length := by
  induction x with
  | nil => rfl
  | cons _ _ _ ih => rw [List.length_cons, List.length_cons, ih]
theorem TupsAre.at {h : Heap} {vs : List Value} {tss : List (List Str)} (x : TupsAre h vs tss) : ∀ i, i < vs.length → TupStr h (vs.getD i Value.none) (tss.getD i []) := by
  induction x with
  | nil => intro i hi; simp at hi
  | cons t _ _ ih =>
    intro i hi
    cases i with
    | zero => exact t
    | succ i => exact ih i (by simpa using hi)
end
end HS
namespace L2
open PySem PySem.Spec PyProof.Rows
section
variable {X : Cx}
theorem op_catH : OpR X (binaryOp .Add) (fun x y H Q => ∃ a b xs ys, x = .ref a ∧ y = .ref b ∧ H a = some (.tup xs) ∧ H b = some (.tup ys) ∧ xs.length + ys.length ≤ sizeLine ∧ ∀ p H', Same H H' → H' p = some (.tup (xs ++ ys)) → Q (.ref p) H') := by
  intro pins s σ H x y v u Q I rx ry h
  obtain ⟨a, b, xs, ys, rfl, rfl, ha, hb, hz, q⟩ := h
  by_cases hx : xs = []
  · subst hx
    cases rx
    cases ry
    obtain ⟨its, r1, p1, _⟩ := I.tuple (SqT.of ha)
    obtain ⟨its2, r2, p2, _⟩ := I.tuple (SqT.of hb)
    have e1 : its = [] := r1.nil_iff.mpr rfl
    subst e1
    obtain ⟨m, F⟩ := I.fr
    exact add_tuples F (news := []) (fun p hp => absurd hp (by simp)) p1 p2 (fun _ => ⟨.ref b, H, I, rfl, q b H (Same.refl H) hb⟩) (fun z => absurd rfl z) (fun z => absurd rfl z) (by simp at hz ⊢; rw [← r2.length]; exact hz)
  · refine op_catT pins s σ H (.ref a) (.ref b) v u Q I rx ry ⟨a, b, xs, ys, rfl, rfl, SqT.of ha, SqT.of hb, hx, hz, fun e => ?_, fun _ p hp => q p _ (Same.new hp _) upd_same⟩
    subst e
    exact q a H (Same.refl H) (by rw [List.append_nil]; exact ha)
end
end L2
namespace L2
open PySem PySem.Spec PyProof.Rows
def TS' (H H' : Hp) : Prop := ∀ b xs, H b = some (.tup xs) → H' b = some (.tup xs)
theorem _root_.L2.Same.ts {H H' : Hp} (s : Same H H') : TS' H H' := fun b xs h => s b _ h
theorem TS'.trans {H H1 H2 : Hp} (a : TS' H H1) (b : TS' H1 H2) : TS' H H2 := fun c xs h => b c xs (a c xs h)
theorem TS'.lst {H : Hp} {D : Addr} {ys : List V} {o : HO} (h : H D = some (.lst ys)) : TS' H (upd H D o) := fun b xs hb => by
  have : b ≠ D := fun e => by rw [e, h] at hb; cases hb
  rw [upd_ne this]
  exact hb
theorem compF_rel {J : It} {xs : List V} {te : TE} {fr : St} {H1 : Hp} {QD : Hp → Prop} (Rl : V → V → Hp → Prop) (mono : ∀ x v H H', TS' H H' → Rl x v H → Rl x v H') (D : Addr) (hD : H1 D = none) (T : Tells J H1 xs) (hz : xs.length < sizeLine)
    (he : ∀ x H R, x ∈ xs → Same H1 H → (∀ v H', Same H H' → Rl x v H' → R v H') → te (some x :: fr) H R)
    (hd : ∀ H' ys, Same H1 H' → H' D = some (.lst ys) → Paired (fun x v => Rl x v H') xs ys → QD H') :
    ∃ W : Nat → Nat → List V → Hp → Prop, (∃ m, W 0 m [] (upd H1 D (.lst []))) ∧ ∀ i m ys H2, W i m ys H2 → H2 D = some (.lst ys) ∧
      ((J.stop i H2 ∧ QD H2) ∨ (J.go i H2 ∧ ∀ x H3, J.yld i H2 x H3 → ∀ pre : St, pre.length = 1 → gName 0 x (pre ++ fr) H3 fun σ4 H4 => (∃ pre' : St, pre'.length = 1 ∧ σ4 = pre' ++ fr) ∧
        tTrue σ4 H4 fun b H5 => if b = true then te σ4 H5 (fun y H6 => H6 D = some (.lst ys) ∧ ys.length < sizeLine ∧ ∃ m', m' < m ∧ W (i + 1) m' (ys ++ [y]) (upd H6 D (.lst (ys ++ [y])))) else ∃ m', m' < m ∧ W (i + 1) m' ys H5)) := by
  refine ⟨fun i m ys H2 => m = xs.length - i ∧ i ≤ xs.length ∧ ys.length = i ∧ Paired (fun x v => Rl x v H2) (xs.take i) ys ∧ H2 D = some (.lst ys) ∧ Same H1 H2, ⟨xs.length, by simp, Nat.zero_le _, rfl, by rw [List.take_zero]; exact .nil, upd_same, Same.new hD _⟩, ?_⟩
  rintro i m ys H2 ⟨rfl, hi, hl, hp, hD2, sm⟩
  refine ⟨hD2, ?_⟩
  by_cases hlt : i < xs.length
  · refine .inr ⟨T.go H2 i sm hlt, fun x H3 y pre hpre => ?_⟩
    obtain ⟨rfl, hx⟩ := T.yld H2 i x H3 sm y
    obtain ⟨v0, rfl⟩ : ∃ v0, pre = [v0] := by
      cases pre with
      | nil => simp at hpre
      | cons v r => cases r with
        | nil => exact ⟨v, rfl⟩
        | cons _ _ => simp at hpre
    have hm := List.mem_of_getElem? hx
    refine ⟨⟨[some x], rfl, rfl⟩, ?_⟩
    unfold tTrue
    dsimp only
    refine iteT ?_
    refine he x H3 _ hm sm fun v H6 s6 hr => ?_
    have t6 : TS' H6 (upd H6 D (.lst (ys ++ [v]))) := TS'.lst (s6 _ _ hD2)
    refine ⟨s6 _ _ hD2, by omega, xs.length - (i + 1), by omega, rfl, hlt, by simp [hl], ?_, upd_same, ?_⟩
    · rw [List.take_add_one, hx]
      exact (hp.mono fun a b h => mono _ _ _ _ (s6.ts.trans t6) h).snoc (mono _ _ _ _ t6 hr)
    · intro b o e
      have hb : b ≠ D := ne_of_none e hD
      rw [upd_ne hb]
      exact s6 _ _ (sm _ _ e)
  · have e : i = xs.length := by omega
    subst e
    rw [List.take_length] at hp
    exact .inl ⟨T.stop H2 sm, hd H2 ys sm hD2 hp⟩
section
variable {X : Cx} {a : Expr} {ta : TE}
end
end L2
namespace L2
open PySem PySem.Spec PyProof.Rows
theorem KV.at : ∀ {kvs : List (Key × V)} {vs : List (Key × Value)} {i : Nat}, KV kvs vs → i < kvs.length → ∃ k x v, kvs[i]? = some (k, x) ∧ vs[i]? = some (k, v)
  | _ :: _, _ :: _, 0, .cons h r, _ => ⟨_, _, _, rfl, by rw [List.getElem?_cons_zero, h.1]⟩
  | _ :: _, _ :: _, i + 1, .cons h r, hl => by
    obtain ⟨k, x, v, h1, h2⟩ := KV.at (i := i) r (by simpa using hl)
    exact ⟨k, x, v, by simpa using h1, by simpa using h2⟩
section
variable {X : Cx} {tg : Expr}
end
end L2
namespace RD
open PySem PySem.Spec PyProof.Rows
section
variable {prog : Program} {w : World} {A : Around} {E : Value → Shared → Prop} {s : Shared}
theorem iter {d : Addr} {o : Obj} {es : Array DictEntry} {ep : Nat} {Q : Value → Shared → Prop} (lo : (d == sysModules) = false) (ho : s.heap.get? d = some o) (hx : o.ExactDict) (hdat : o.data = .dict es ep)
    (hQ : Q (.ref s.heap.objs.size) { s with heap := s.heap.push { cls := .type "dict_keyiterator", data := .fields #[.ref d, .int 0 0, .int es.size 0, .int ep 0] } }) : wpAny (model prog w) A (pyIter (.ref d)) Q E s := by
  have tyD : s.TypeIs (.ref d) "dict" := ⟨o, ho, hx.1⟩
  refine wpAny_pyIter_slot tyD F.slot_dict_iter (wpAny_call_entry F.slot_dict_iter tyD F.entry_dict_iter ?_ (F.args_dict_iter_1 _)); unfold Builtin.«dict.__iter__»; refine wpAny_bind ?_
  unfold Builtin.Dict.dictSlotNone; refine wpAny_bind (wpAny_notOrdered_dict tyD ?_); show wpAny _ _ (pure (Value.ref d)) _ _ s; refine wpAny_pure ?_
  show wpAny _ _ (Builtin.Dict.showsAll d >>= _) _ _ s; unfold Builtin.Dict.showsAll; rw [if_neg (by rw [lo]; exact Bool.false_ne_true)]
  refine wpAny_bind (wpAny_pure (wpAny_bind (wpAny_dictEntries ho hdat (wpAny_bind (wpAny_dictEpoch ho hdat ?_)))))
  refine wpAny_bind (wpAny_newObj_type (wpAny_pure ⟨_, rfl, "dict_keyiterator", _, ⟨_, Heap.get?_push_size _ rfl, rfl⟩, F.slot_dict_keyiterator_next.lookup, ?_⟩)); simpa [rawInt] using hQ
theorem item {it d : Addr} {i ep : Nat} {od : Obj} {es : Array DictEntry} {e : DictEntry} {Q : Option Value → Shared → Prop} (hit : s.heap.IsKeyIter it d i es.size ep) (hod : s.heap.get? d = some od) (hdd : od.data = .dict es ep) (hx : es[i]? = some e)
    (hQ : ∀ h', h'.IsKeyIter it d (i + 1) es.size ep → Heap.SameBut it s.heap h' → Q (some e.key) { s with heap := h' }) : wpAny (model prog w) A (pyNext (.ref it)) Q E s := by
  obtain ⟨o, ho, hc, hd⟩ := id hit
  unfold pyNext; refine wpAny_bind (wpAny_attempt (wpAny_callSpecial?_slot (name := Str.ofString "__next__") hit.typeIs F.slot_dict_keyiterator_next (wpAny_call_entry F.slot_dict_keyiterator_next hit.typeIs F.entry_dict_keyiterator_next ?_ (F.args_dict_keyiterator_next_1 _))))
  refine wpAny_bind (wpAny_pure (wpAny_bind (wpAny_bind ?_))); first | refine wpAny_bind (wpAny_typeNameOfWhole_keyiter hit.typeIs (wpAny_pure ?_)) | refine wpAny_bind (wpAny_typeNameOf_keyiter hit.typeIs (wpAny_pure ?_))
  refine wpAny_bind (wpAny_fieldsOf ho hd ?_); have own0 : Builtin.Dict_items.ownsTuple "dict_keyiterator" = false := by decide
  simp only [own0, Bool.false_eq_true, if_false]; show wpAny _ _ (if (Value.ref d == Value.none) = true then _ else _) _ _ s; rw [if_neg (show ¬ ((Value.ref d == Value.none) = true) from Bool.false_ne_true)]
  refine wpAny_bind (wpAny_pure (wpAny_bind (wpAny_dictEntries hod hdd ?_))); rw [if_neg (by simp)]
  refine wpAny_bind (wpAny_pure (wpAny_bind (wpAny_dictEpoch hod hdd ?_))); rw [if_neg (by simp)]; refine wpAny_pure ?_
  have lt : i < es.size := (Array.getElem?_eq_some_iff.mp hx).1
  have ee : es[i] = e := (Array.getElem?_eq_some_iff.mp hx).2
  simp only [show ¬ ((i : Int) < 0) from by omega, if_false, Int.toNat_natCast, hx]
  refine wpAny_bind ?_; first | refine wpAny_bind (wpAny_typeNameOfWhole_keyiter hit.typeIs (wpAny_pure ?_)) | refine wpAny_bind (wpAny_typeNameOf_keyiter hit.typeIs (wpAny_pure ?_))
  refine wpAny_bind (wpAny_isOneOf_keyiter hit.typeIs ?_); show wpAny _ _ (setField (.ref it) 1 (rawInt ((i : Int) + 1)) >>= _) _ _ s; refine wpAny_bind (wpAny_setField ho hd (by simp) ?_)
  have next : (s.heap.update it (Obj.mapFields (·.setIfInBounds 1 (rawInt ((i : Int) + 1))))).IsKeyIter it d (i + 1) es.size ep := ⟨_, Heap.get?_update_self _ ho (Obj.isFreed_of_fields (Obj.data_mapFields hd _)), (Obj.cls_mapFields ..).trans hc, by rw [Obj.data_mapFields hd]; simp [rawInt]⟩
  refine wpAny_bind (wpAny_holding (wpAny_bind (wpAny_isOneOf_keyiter (s := { s with heap := s.heap.update it (Obj.mapFields (·.setIfInBounds 1 (rawInt ((i : Int) + 1)))) }) next.typeIs ?_)))
  show wpAny _ _ (pure e.key) _ _ _; exact wpAny_pure (wpAny_pure ⟨_, rfl, wpAny_pure (hQ _ next (Heap.SameBut.update ..))⟩)
theorem done {it d : Addr} {i ep : Nat} {od : Obj} {es : Array DictEntry} {Q : Option Value → Shared → Prop} (hh : A.handled = none) (hit : s.heap.IsKeyIter it d i es.size ep) (hod : s.heap.get? d = some od) (hdd : od.data = .dict es ep) (hx : es.size ≤ i)
    (hQ : ∀ h', Heap.ExtBut it s.heap h' → Q none { s with heap := h' }) : wpAny (model prog w) A (pyNext (.ref it)) Q E s := by
  obtain ⟨o, ho, hc, hd⟩ := id hit
  unfold pyNext; refine wpAny_bind (wpAny_attempt (wpAny_callSpecial?_slot (name := Str.ofString "__next__") hit.typeIs F.slot_dict_keyiterator_next (wpAny_call_entry F.slot_dict_keyiterator_next hit.typeIs F.entry_dict_keyiterator_next ?_ (F.args_dict_keyiterator_next_1 _))))
  refine wpAny_bind (wpAny_pure (wpAny_bind (wpAny_bind ?_))); first | refine wpAny_bind (wpAny_typeNameOfWhole_keyiter hit.typeIs (wpAny_pure ?_)) | refine wpAny_bind (wpAny_typeNameOf_keyiter hit.typeIs (wpAny_pure ?_))
  refine wpAny_bind (wpAny_fieldsOf ho hd ?_); have own0 : Builtin.Dict_items.ownsTuple "dict_keyiterator" = false := by decide
  simp only [own0, Bool.false_eq_true, if_false]; show wpAny _ _ (if (Value.ref d == Value.none) = true then _ else _) _ _ s; rw [if_neg (show ¬ ((Value.ref d == Value.none) = true) from Bool.false_ne_true)]
  refine wpAny_bind (wpAny_pure (wpAny_bind (wpAny_dictEntries hod hdd ?_))); rw [if_neg (by simp)]
  refine wpAny_bind (wpAny_pure (wpAny_bind (wpAny_dictEpoch hod hdd ?_))); rw [if_neg (by simp)]; refine wpAny_pure ?_
  simp only [show ¬ ((i : Int) < 0) from by omega, if_false, Int.toNat_natCast, Array.getElem?_eq_none hx]
  refine wpAny_bind ?_; first | refine wpAny_bind (wpAny_typeNameOfWhole_keyiter hit.typeIs (wpAny_pure ?_)) | refine wpAny_bind (wpAny_typeNameOf_keyiter hit.typeIs (wpAny_pure ?_))
  show wpAny _ _ (setField (.ref it) 0 .none >>= _) _ _ s; refine wpAny_bind (wpAny_setField ho hd (by simp) ?_)
  show wpAny _ _ (newExc (.type "StopIteration") [] >>= _) _ _ _; refine wpAny_bind ?_; simp only [newExc, newTuple]; refine wpAny_bind (wpAny_newObj_type ?_ (by size_fits))
  refine wpAny_bind (m := firstArgMember _ _) (wpAny_of_eq (a := Value.none) (by first | rfl | (simp only [firstArgMember]; rfl)) (wpAny_newObj_type ?_ (by size_fits))); simp only [raiseNew]
  refine wpAny_bind (wpAny_handled ?_); rw [show A.in1.handled = none from hh]; refine wpAny_bind (wpAny_pure (wpAny_throw ?_))
  refine wpAny_bind (wpAny_isInstance (T := "StopIteration") (b := true) ⟨_, Heap.get?_push_size _ rfl, rfl⟩ isSubtype_stop ?_); exact wpAny_pure (hQ _ (((Heap.SameBut.update ..).extBut.push _).push _))
theorem walks {d : Addr} {od : Obj} {es : Array DictEntry} {ep : Nat} (hh : A.handled = none) (I : Addr) (hne : d ≠ I) (hdd : od.data = .dict es ep) :
    Walks prog w A I [I, d] [I] es.size (fun i v => ∃ e, es[i]? = some e ∧ v = e.key) (fun i h => h.IsKeyIter I d i es.size ep ∧ h.get? d = some od) where
  sub := fun b hb => by simp at hb; simp [hb]
  frame := fun _ _ _ st hk => ⟨st.1.at fun o e => hk I (by simp) o e, hk d (by simp) _ st.2⟩
  item := fun i s Q E hi st hQ => item st.1 st.2 hdd (Array.getElem?_eq_getElem hi) fun h' hit' hs' =>
    hQ _ h' s.toks ⟨_, Array.getElem?_eq_getElem hi, rfl⟩ ⟨hit', hs'.extBut d od hne st.2⟩ fun b o hb e => hs'.extBut b o (fun h => hb (by simp [h])) e
  done := fun s Q E st hQ => done hh st.1 st.2 hdd (Nat.le_refl _) fun h' he' => hQ h' s.toks fun b o hb e => he' b o (fun h => hb (by simp [h])) e
  self := fun _ _ _ _ st hQ => wpAny_pyIter_keyiter st.1 hQ
end
end RD
namespace L2
open PySem PySem.Spec PyProof.Rows
section
variable {X : Cx}
def strK : Key → Str
  | .inr t => t
  | .inl _ => ""
end
end L2
namespace L2
open PySem PySem.Spec PyProof.Rows
section
variable {X : Cx}
end
end L2
namespace HT
open PySem PySem.Spec PyProof.Rows
section
variable {prog : Program} {w : World} {A : Around} {E : Value → Shared → Prop} {s : Shared}
theorem getItem_whole {t sl : Addr} {items : Array Value} {vl vu : Value} {lo hi : Option Int} {Q : Value → Shared → Prop} (ht : IsTup s.heap t items) (hs : s.heap.IsSliceOf sl vl vu .none) (pl : IsPart vl lo) (pu : IsPart vu hi)
    (hw : sIx items.size 0 lo = 0 ∧ sIx items.size items.size hi = items.size) (h : Q (.ref t) s) : wpAny (model prog w) A (getItem (.ref t) (.ref sl)) Q E s := by
  obtain ⟨os, hos, hcs, hds⟩ := id hs
  have tyS : s.TypeIs (.ref sl) "slice" := ⟨os, hos, hcs⟩
  unfold getItem; try with_reducible refine wpAny_holding ?_
  first | refine wpAny_bind (wpAny_pure ?_) | skip
  refine wpAny_bind (wpAny_sequenceKey ht.typeIs (by decide) (wpAny_bind (wpAny_callSpecial?_slot (name := Str.ofString "__getitem__") ht.typeIs PyProof.Rows.slot_tuple_getitem (wpAny_call_entry PyProof.Rows.slot_tuple_getitem ht.typeIs entry_tuple_getitem ?_ (args_tuple_getitem _ _)))))
  show wpAny _ _ (Builtin.Tuple.tupleItemsOf (.ref t) >>= _) _ _ s; refine wpAny_bind (tupleItemsOf_ ht (wpAny_bind (wpAny_typeOf tyS ?_))); rw [if_pos (by decide)]
  refine wpAny_bind (sliceApplied_gen hs pl pu ?_)
  have yes : (((sIx items.size 0 lo : Nat) : Int) == 0 && (1 : Int) == 1 && (sIx items.size items.size hi - sIx items.size 0 lo) == items.size) = true := by rw [hw.1, hw.2]; simp
  show wpAny _ _ (if (((sIx items.size 0 lo : Nat) : Int) == 0 && (1 : Int) == 1 && (sIx items.size items.size hi - sIx items.size 0 lo) == items.size) = true then _ else _) _ _ s
  rw [if_pos yes]
  unfold Builtin.Tuple.tupleIsExact
  refine wpAny_bind (wpAny_bind (wpAny_typeOf ht.typeIs (wpAny_pure ?_)))
  have yes2 : ((Value.type "tuple" == Value.type "tuple") = true) := by decide
  first
    | (rw [if_pos yes2]; exact wpAny_bind (wpAny_rule (wpAny_pure ⟨_, rfl, wpAny_pure h⟩)))
    | (rw [if_pos yes2]; exact wpAny_bind (wpAny_rule (wpAny_bind (wpAny_pure (wpAny_pure ⟨_, rfl, wpAny_pure h⟩)))))
    | (simp only [yes2, if_true]; exact wpAny_rule (wpAny_pure ⟨_, rfl, wpAny_pure h⟩))
end
end HT
namespace L2
open PySem PySem.Spec PyProof.Rows
theorem cut_whole {xs : List V} {lo hi : Option Int} (h : HT.sIx xs.length 0 lo = 0 ∧ HT.sIx xs.length xs.length hi = xs.length) : cutV xs lo hi = xs := by
  unfold cutV
  rw [h.1, h.2]
  simp
theorem cut_last (xs : List V) (x : V) : cutV (xs ++ [x]) none (some (-1)) = xs := by
  unfold cutV
  have e : HT.sIx (xs ++ [x]).length (xs ++ [x]).length (some (-1)) = xs.length := by
    show (if (-1 : Int) < 0 then ((-1 : Int) + ((xs ++ [x]).length : Int)).toNat else min (-1 : Int).toNat (xs ++ [x]).length) = _
    rw [if_pos (by decide), List.length_append, List.length_singleton]
    omega
  have e2 : HT.sIx (xs ++ [x]).length 0 none = 0 := rfl
  rw [e, e2]
  simp
theorem at_last {α : Type} (xs : List α) (x : α) : atI (xs ++ [x]) (-1) = some x := by
  have e : ixN (xs ++ [x]).length (-1) = some xs.length := by
    unfold ixN
    rw [List.length_append, List.length_singleton]
    simp
    omega
  unfold atI
  rw [e]
  simp
section
variable {X : Cx}
theorem sl_tupH : SlR X (fun x lo hi H Q => ∃ a xs, x = .ref a ∧ H a = some (.tup xs) ∧ ∀ p H', Same H H' → H' p = some (.tup (cutV xs lo hi)) → Q (.ref p) H') := by
  intro pins s σ H x v vl vu lo hi sl Q I rx hs pl pu h
  obtain ⟨a, xs, rfl, hx, q⟩ := h
  by_cases hw : HT.sIx xs.length 0 lo = 0 ∧ HT.sIx xs.length xs.length hi = xs.length
  · cases rx
    obtain ⟨its, r, ht, hz⟩ := I.tuple (SqT.of hx)
    have hlen : its.toArray.size = xs.length := by rw [List.size_toArray]; exact r.length.symm
    refine ⟨"tuple", _, PyProof.Rows.slot_tuple_getitem.lookup, ht.typeIs, ?_⟩
    refine HT.getItem_whole ht hs pl pu (by rw [hlen]; exact hw) ?_
    exact ⟨.ref a, H, I, rfl, q a H (Same.refl H) (by rw [cut_whole hw]; exact hx)⟩
  · exact sl_tup pins s σ H (.ref a) v vl vu lo hi sl Q I rx hs pl pu ⟨a, xs, rfl, SqT.of hx, hw, fun p np => q p _ (Same.new np _) upd_same⟩
end
end L2
namespace L2
open PySem PySem.Spec PyProof.Rows
section
variable {X : Cx}
end
end L2
namespace HD
open PySem
section
variable {prog : Program} {w : World} {A : Around} {E : Value → Shared → Prop} {s : Shared}
end
end HD
namespace HD
open PySem
section
variable {prog : Program} {w : World} {A : Around} {E : Value → Shared → Prop} {s : Shared} {K : Type} [DecidableEq K] {knd : KeyKind prog w K}
end
end HD
namespace L2
open PySem PySem.Spec PyProof.Rows
section
variable {X : Cx}
end
end L2
namespace HZ
open PySem PySem.Builtin
end HZ
namespace HZ
open PySem PySem.Builtin
section
variable {prog : Program} {w : World} {A : Around} {E : Value → Shared → Prop} {s : Shared}
end
end HZ
namespace L2
open PySem PySem.Spec PyProof.Rows
section
variable {X : Cx}
end
end L2
namespace Mi
open PySem L2
abbrev Rw := Str × Str
def val (G : List Rw) (n : Str) : Option Str := (G.find? fun p => decide (p.1 = n)).map (·.2)
theorem val_nil (n : Str) : val [] n = none := rfl
theorem val_cons (p : Rw) (G : List Rw) (n : Str) : val (p :: G) n = if p.1 = n then some p.2 else val G n := by
  unfold val
  rw [List.find?_cons]
  by_cases h : p.1 = n
  · rw [if_pos h]; simp [h]
  · rw [if_neg h]; simp [h]
theorem val_none {G : List Rw} {n : Str} : val G n = none ↔ n ∉ G.map (·.1) := by
  induction G with
  | nil => simp [val_nil]
  | cons p G ih =>
    rw [val_cons, List.map_cons, List.mem_cons, not_or]
    by_cases h : p.1 = n
    · rw [if_pos h]; simp [h]
    · rw [if_neg h, ih]
      exact ⟨fun z => ⟨fun e => h e.symm, z⟩, fun z => z.2⟩
theorem val_mem {G : List Rw} {n m : Str} (h : val G n = some m) : (n, m) ∈ G := by
  induction G with
  | nil => cases h
  | cons p G ih =>
    rw [val_cons] at h
    by_cases e : p.1 = n
    · rw [if_pos e] at h
      cases h
      subst e
      exact List.mem_cons_self ..
    · rw [if_neg e] at h
      exact List.mem_cons_of_mem _ (ih h)
theorem val_of {G : List Rw} (nd : (G.map (·.1)).Nodup) {r : Rw} (h : r ∈ G) : val G r.1 = some r.2 := by
  induction G with
  | nil => cases h
  | cons p G ih =>
    rw [List.map_cons, List.nodup_cons] at nd
    rw [val_cons]
    rcases List.mem_cons.mp h with e | h
    · subst e; rw [if_pos rfl]
    · rw [if_neg fun e => nd.1 (by rw [e]; exact List.mem_map.mpr ⟨r, h, rfl⟩), ih nd.2 h]
def stopF (G : List Rw) : Nat → List Str → Str → Str
  | 0, _, n => n
  | f + 1, P, n => match val G n with
    | none => n
    | some m => if n ∈ P then n else stopF G f (P ++ [n]) m
def stop (G : List Rw) (n : Str) : Str := stopF G (G.length + 1) [] n
theorem stop_none {G : List Rw} {n : Str} (h : val G n = none) : stop G n = n := by
  unfold stop stopF
  rw [h]
theorem stopF_succ {G : List Rw} {f : Nat} {P : List Str} {n m : Str} (h : val G n = some m) (hn : n ∉ P) : stopF G (f + 1) P n = stopF G f (P ++ [n]) m := by
  show (match val G n with | none => n | some m => if n ∈ P then n else stopF G f (P ++ [n]) m) = _
  rw [h]
  exact if_neg hn
theorem stopF_none {G : List Rw} {f : Nat} {P : List Str} {n : Str} (h : val G n = none) : stopF G f P n = n := by
  cases f with
  | zero => rfl
  | succ f =>
    show (match val G n with | none => n | some m => if n ∈ P then n else stopF G f (P ++ [n]) m) = _
    rw [h]
theorem stop_one {G : List Rw} {n m : Str} (h : val G n = some m) (h2 : val G m = none) : stop G n = m := by
  unfold stop
  rw [stopF_succ h (by simp), stopF_none h2]
structure Flat (R : List Rw) : Prop where
  nd : (R.map (·.1)).Nodup
  no : ∀ r ∈ R, val R r.2 = none
theorem Flat.stop {R : List Rw} (f : Flat R) (n : Str) : stop R n = (val R n).getD n ∧ val R (Mi.stop R n) = none := by
  cases h : val R n with
  | none => rw [stop_none h]; exact ⟨rfl, h⟩
  | some m =>
    have hm := f.no _ (val_mem h)
    rw [stop_one h hm]
    exact ⟨rfl, hm⟩
def more (R : List Rw) (one en : Str) : List Rw := ((R.filter fun r => decide (r.1 ≠ one)).map fun r => (r.1, if r.2 = one then en else r.2)) ++ [(one, en)]
def with1 (R : List Rw) (one en : Str) : List Rw := (R.filter fun r => decide (r.1 ≠ one)) ++ [(one, en)]
theorem with1_val {R : List Rw} (nd : (R.map (·.1)).Nodup) (one en n : Str) : val (with1 R one en) n = if n = one then some en else val R n := by
  unfold with1
  induction R with
  | nil =>
    show val [(one, en)] n = _
    rw [val_cons]
    by_cases h : n = one
    · rw [if_pos h.symm, if_pos h]
    · rw [if_neg (Ne.symm h), if_neg h]
  | cons p R ih =>
    rw [List.map_cons, List.nodup_cons] at nd
    rw [List.filter_cons]
    by_cases h : p.1 = one
    · rw [if_neg (by simpa using h), ih nd.2, val_cons]
      by_cases e : n = one
      · rw [if_pos e, if_pos e]
      · rw [if_neg e, if_neg e, if_neg fun z => e (z.symm.trans h)]
    · rw [if_pos (by simpa using h), List.cons_append, val_cons, val_cons]
      by_cases e : p.1 = n
      · rw [if_pos e, if_pos e, if_neg fun z => h (e.trans z)]
      · rw [if_neg e, if_neg e, ih nd.2]
def Rise (R : List Rw) : Prop := R.Pairwise fun a b => HS.ltS a.1 b.1 = true
theorem Rise.nd {R : List Rw} (h : Rise R) : (R.map (·.1)).Nodup := by
  rw [List.Nodup, List.pairwise_map]
  exact h.imp fun {a b} z e => by rw [e, HS.ltS_irr] at z; cases z
theorem more_val {R : List Rw} (nd : (R.map (·.1)).Nodup) (one en n : Str) : val (more R one en) n = if n = one then some en else (val R n).map fun g => if g = one then en else g := by
  cases h : val (more R one en) n with
  | none =>
    have hk := val_none.mp h
    have e : (more R one en).map (·.1) = (with1 R one en).map (·.1) := by
      unfold more with1
      rw [List.map_append, List.map_append, List.map_map]
      rfl
    rw [e] at hk
    have hw := val_none.mpr hk
    rw [with1_val nd] at hw
    by_cases c : n = one
    · rw [if_pos c] at hw; cases hw
    · rw [if_neg c] at hw
      rw [if_neg c, hw]
      rfl
  | some m =>
    have hm := val_mem h
    unfold more at hm
    rcases List.mem_append.mp hm with hm | hm
    · obtain ⟨q, hq, e⟩ := List.mem_map.mp hm
      obtain ⟨h1, h2⟩ := List.mem_filter.mp hq
      injection e with e1 e2
      subst e1 e2
      have h3 : ¬ q.1 = one := by simpa using h2
      show some (if q.2 = one then en else q.2) = if q.1 = one then some en else (val R q.1).map fun g => if g = one then en else g
      rw [if_neg h3, val_of nd h1]
      rfl
    · have : (n, m) = (one, en) := by simpa using hm
      injection this with e1 e2
      subst e1 e2
      rw [if_pos rfl]
def putS (D : List Rw) (n y : Str) : List Rw := if D.any (fun p => decide (p.1 = n)) then D.map (fun p => if p.1 = n then (p.1, y) else p) else D ++ [(n, y)]
def dkOf (D : List Rw) : List (Key × V) := D.map fun p => ((Sum.inr p.1 : Key), V.str p.2)
theorem dk_val (D : List Rw) (n : Str) : valV (dkOf D) (Sum.inr n) = (val D n).map V.str := by
  induction D with
  | nil => rfl
  | cons p D ih =>
    rw [val_cons]
    show valV ((Sum.inr p.1, V.str p.2) :: dkOf D) _ = _
    by_cases h : p.1 = n
    · rw [valV_pos (show ((Sum.inr p.1 : Key), V.str p.2).1 = Sum.inr n by rw [h]), if_pos h]; rfl
    · rw [valV_neg (show ¬ ((Sum.inr p.1 : Key), V.str p.2).1 = Sum.inr n from fun e => h (Sum.inr.inj e)), if_neg h, ih]
theorem dk_put (D : List Rw) (n y : Str) : putK (dkOf D) (Sum.inr n) (V.str y) = dkOf (putS D n y) := by
  have e1 : ((dkOf D).any fun kv => decide (kv.1 = (Sum.inr n : Key))) = D.any fun p => decide (p.1 = n) := by
    unfold dkOf
    rw [List.any_map]
    congr 1
    funext p
    show decide ((Sum.inr p.1 : Key) = Sum.inr n) = _
    rw [key_rr]
  unfold putK putS
  rw [e1]
  split
  · unfold dkOf
    rw [List.map_map, List.map_map]
    refine List.map_congr_left fun p _ => ?_
    show (if (Sum.inr p.1 : Key) = Sum.inr n then ((Sum.inr p.1 : Key), V.str y) else ((Sum.inr p.1 : Key), V.str p.2)) = _
    by_cases h : p.1 = n
    · rw [if_pos (by rw [h])]; show _ = ((Sum.inr (if p.1 = n then (p.1, y) else p).1 : Key), V.str (if p.1 = n then (p.1, y) else p).2); rw [if_pos h]
    · rw [if_neg fun e => h (Sum.inr.inj e)]; show _ = ((Sum.inr (if p.1 = n then (p.1, y) else p).1 : Key), V.str (if p.1 = n then (p.1, y) else p).2); rw [if_neg h]
  · unfold dkOf
    rw [List.map_append]
    rfl
theorem putS_val (D : List Rw) (n y m : Str) : val (putS D n y) m = if m = n then some y else val D m := by
  have h := valV_put (dkOf D) (Sum.inr n) (Sum.inr m) (V.str y)
  rw [dk_put, dk_val, dk_val] at h
  by_cases e : m = n
  · rw [if_pos (by rw [e])] at h
    rw [if_pos e]
    cases hv : val (putS D n y) m with
    | none => rw [hv] at h; cases h
    | some z => rw [hv] at h; injection h with h; injection h with h; rw [h]
  · rw [if_neg fun z => e (Sum.inr.inj z)] at h
    rw [if_neg e]
    cases hv : val (putS D n y) m with
    | none => cases hw : val D m with
      | none => rfl
      | some z => rw [hv, hw] at h; cases h
    | some z => cases hw : val D m with
      | none => rw [hv, hw] at h; cases h
      | some z' => rw [hv, hw] at h; injection h with h; injection h with h; rw [h]
end Mi
namespace Co
open PySem L2 Mi
def Has (P : Program) (w : World) (K : PySem.W.Frag) (mg : Str → Option Value) (base : Heap) (x : Str) (k : Nat) (ps : List Str) (sp : Sp) : Prop :=
  ∃ (f : Addr) (fd : FuncData), FnOk P w K mg base CX0 k f fd ps sp ∧ Binds K fd ps [] ∧ PySem.W.keepIn K (.ref f) = true ∧ mg x = some (.ref f)
def HasE (P : Program) (w : World) (K : PySem.W.Frag) (mg : Str → Option Value) (base : Heap) (x : Str) (k : Nat) (ps : List Str) (sp : Sp) : Prop :=
  ∃ (f : Addr) (fd : FuncData), FnOk P w K mg base (CXE P w) k f fd ps sp ∧ Binds K fd ps [] ∧ PySem.W.keepIn K (.ref f) = true ∧ mg x = some (.ref f)
theorem pe_callH {X : Cx} {x : Str} {k : Nat} {ps : List Str} {sp : Sp} {e : Expr} {es : List Expr} {t : TA} {p pos : Pos} (h : Has X.prog X.w X.K X.mg X.base x k ps sp) (hr : Room k X.A) (hg : Gl X x) (ha : PA X (e :: es) t)
    (hdb : (x == ("__debug__" : Str)) = false := by decide) (he : starEach (e :: es) X.env = (false, eval e X.env) :: starEach es X.env := by rfl) (hpl : (backTo pos (starEach es X.env)).any (·.1) = false := by rfl) :
    PE X (.Call (.Name x p) (e :: es) [] pos) (tCall sp [] E0 t) := by
  obtain ⟨f, fd, F, b, kp, m⟩ := h
  exact pe_call F hr hg m kp b .nil pass0 ha hdb he hpl
theorem pe_callX {X : Cx} {x : Str} {k : Nat} {ps : List Str} {sp : Sp} {E : XK} {e : Expr} {es : List Expr} {t : TA} {p pos : Pos} (h : HasE X.prog X.w X.K X.mg X.base x k ps sp) (hr : Room k X.A) (hx : Passes (CXE X.prog X.w) X E) (hg : Gl X x) (ha : PA X (e :: es) t)
    (hdb : (x == ("__debug__" : Str)) = false := by decide) (he : starEach (e :: es) X.env = (false, eval e X.env) :: starEach es X.env := by rfl) (hpl : (backTo pos (starEach es X.env)).any (·.1) = false := by rfl) :
    PE X (.Call (.Name x p) (e :: es) [] pos) (tCall sp [] E t) := by
  obtain ⟨f, fd, F, b, kp, m⟩ := h
  exact pe_call F hr hg m kp b .nil hx ha hdb he hpl
theorem Has.mono {P : Program} {w : World} {K : PySem.W.Frag} {mg : Str → Option Value} {base : Heap} {x : Str} {j k : Nat} {ps : List Str} {sp : Sp} (h : Has P w K mg base x j ps sp) (hk : j ≤ k) : Has P w K mg base x k ps sp := by
  obtain ⟨f, fd, F, b, kp, m⟩ := h
  exact ⟨f, fd, F.mono hk, b, kp, m⟩
theorem HasE.mono {P : Program} {w : World} {K : PySem.W.Frag} {mg : Str → Option Value} {base : Heap} {x : Str} {j k : Nat} {ps : List Str} {sp : Sp} (h : HasE P w K mg base x j ps sp) (hk : j ≤ k) : HasE P w K mg base x k ps sp := by
  obtain ⟨f, fd, F, b, kp, m⟩ := h
  exact ⟨f, fd, F.mono hk, b, kp, m⟩
theorem boot_all : bootBuiltins (Str.ofString "all") = some (Value.builtin "all") := by decide +kernel
theorem boot_isinstance : bootBuiltins (Str.ofString "isinstance") = some (Value.builtin "isinstance") := by decide +kernel
theorem boot_str : bootBuiltins (Str.ofString "str") = some (Value.type "str") := by decide +kernel
theorem boot_int : bootBuiltins (Str.ofString "int") = some (Value.type "int") := by decide +kernel
theorem boot_bool : bootBuiltins (Str.ofString "bool") = some (Value.type "bool") := by decide +kernel
theorem boot_tuple : bootBuiltins (Str.ofString "tuple") = some (Value.type "tuple") := by decide +kernel
theorem boot_list : bootBuiltins (Str.ofString "list") = some (Value.type "list") := by decide +kernel
theorem big (n : Nat) (h : n ≤ 100000) : n ≤ sizeLine := by rw [sizeLine_eq]; omega
theorem bigl (n : Nat) (h : n ≤ 100000) : n < sizeLine := by rw [sizeLine_eq]; omega
theorem iteN {c A B : Prop} [Decidable c] (hc : ¬ c) (h : B) : if decide c = true then A else B := by
  rw [decide_eq_false hc]
  exact iteF h
theorem iteY {c A B : Prop} [Decidable c] (hc : c) (h : A) : if decide c = true then A else B := by
  rw [decide_eq_true hc]
  exact iteT h
structure Blt (mg : Str → Option Value) : Prop where
  len : mg "len" = none
  all : mg "all" = none
  isi : mg "isinstance" = none
  str : mg "str" = none
  int : mg "int" = none
  bool : mg "bool" = none
  tuple : mg "tuple" = none
  list : mg "list" = none
  range : mg "range" = none
  zip : mg "zip" = none
  any : mg "any" = none
  sorted : mg "sorted" = none
  dict : mg "dict" = none
  enumerate : mg "enumerate" = none
abbrev WS (mg : Str → Option Value) : Prop := ∃ t, mg "WORD_SIGNS" = some (.str "abcdefghijklmnopqrstuvwxyz0123456789" t)
abbrev IsInt (mg : Str → Option Value) (x : Str) (n : Int) : Prop := ∃ t, mg x = some (.int n t)
def sp1 (P : Str → Prop) (g : Str → V) : Sp := fun vs H Q _ => ∃ x, vs = [.str x] ∧ P x ∧ ∀ H', Same H H' → Q (g x) H'
theorem inV_strs (x : Str) : ∀ ts : List Str, inV (.str x) (ts.map V.str) = decide (x ∈ ts)
  | [] => by simp [inV]
  | t :: ts => by
    have ih := inV_strs x ts
    unfold inV at ih ⊢
    rw [List.map_cons, List.any_cons, ih]
    by_cases e : t = x
    · subst e; simp [eqV]
    · have e' : x ≠ t := fun z => e z.symm
      simp [eqV, e, e']
theorem flat_strs (ts : List Str) : (ts.map V.str).all flatV = true := by
  induction ts with
  | nil => rfl
  | cons t ts ih => rw [List.map_cons, List.all_cons, ih]; rfl
theorem app_len (a b : Str) : (a ++ b).length = a.length + b.length := strLen_append a b
theorem split_part (z y t : Str) (h : t ∈ Txt.split z y) : t.length ≤ z.length := by
  unfold Txt.split at h
  split at h
  · simp at h; rw [h]; exact Nat.le_refl _
  · split at h
    · simp at h; rw [h]; exact Nat.le_refl _
    · unfold Builtin.Str.partsBetween at h
      obtain ⟨p, _, rfl⟩ := List.mem_map.mp h
      exact le_strSub z p.1 p.2
def Scr (K : PySem.W.Frag) (H : Hp) (a : Addr) (ns : List Int) : Prop :=
  (∃ o, H a = some (.frz o (.lst (ns.map V.int)))) ∨
    ∃ (o : Obj) (its : Array Value) (n : Nat), K.lookup a = some o ∧ o.cls = .type "list" ∧ o.dict = none ∧ o.data = .seq its n ∧ its.size ≤ sizeLine ∧ Vals (ns.map V.int) its.toList
theorem Scr.sq {K : PySem.W.Frag} {H : Hp} {a : Addr} {ns : List Int} (h : Scr K H a ns) : SqL K H a (ns.map V.int) := by
  rcases h with ⟨o, h⟩ | h
  · exact .inl (.inr ⟨o, h⟩)
  · exact .inr h
def Stp (t : Addr) (H H' : Hp) : Prop := ∀ b o, b ≠ t → H b = some o → H' b = some o
theorem Stp.refl (t : Addr) (H : Hp) : Stp t H H := fun _ _ _ h => h
theorem Stp.trans {t : Addr} {H H1 H2 : Hp} (a : Stp t H H1) (b : Stp t H1 H2) : Stp t H H2 := fun c o hc h => b c o hc (a c o hc h)
theorem _root_.L2.Same.stp {t : Addr} {H H' : Hp} (s : Same H H') : Stp t H H' := fun b o _ h => s b o h
theorem Stp.upd {t : Addr} {H : Hp} (o : HO) : Stp t H (upd H t o) := fun b u hb h => by rw [upd_ne hb]; exact h
theorem Scr.stp {K : PySem.W.Frag} {H H' : Hp} {a t : Addr} {ns : List Int} {zs : List V} (h : Scr K H a ns) (ht : H t = some (.lst zs)) (s : Stp t H H') : Scr K H' a ns := by
  rcases h with ⟨o, h⟩ | h
  · refine .inl ⟨o, s a _ (fun e => ?_) h⟩
    rw [e, ht] at h
    cases h
  · exact .inr h
theorem Scr.same {K : PySem.W.Frag} {H H' : Hp} {a : Addr} {ns : List Int} (h : Scr K H a ns) (s : Same H H') : Scr K H' a ns := by
  rcases h with ⟨o, h⟩ | h
  · exact .inl ⟨o, s a _ h⟩
  · exact .inr h
theorem tup_stp {K : PySem.W.Frag} {H H' : Hp} {p t : Addr} {xs zs : List V} (h : SqT K H p xs) (ht : H t = some (.lst zs)) (s : Stp t H H') : SqT K H' p xs := by
  rcases h with (h | ⟨o, h⟩) | h
  · exact .inl (.inl (s p _ (fun e => by rw [e, ht] at h; cases h) h))
  · exact .inl (.inr ⟨o, s p _ (fun e => by rw [e, ht] at h; cases h) h⟩)
  · exact .inr h
def spDraw (K : PySem.W.Frag) : Sp := fun vs H Q _ => ∃ (a t : Addr) (ns : List Int) (zs : List V) (m : Int), vs = [.ref a, .ref t, .int m] ∧ Scr K H a ns ∧ ns.length ≤ 63 ∧ H t = some (.lst zs) ∧ zs.length < 100000 ∧ 0 < m ∧
  ∀ (r : Int) (H' : Hp), 0 ≤ r → r < m → H' t = some (.lst (zs ++ [.int 0])) → Stp t H H' → Q (.int r) H'
def spPick (K : PySem.W.Frag) : Sp := fun vs H Q _ => ∃ (a t : Addr) (ns : List Int) (zs : List V), Scr K H a ns ∧ ns.length ≤ 63 ∧ H t = some (.lst zs) ∧ zs.length < 100000 ∧
  ((∃ (l : Addr) (xs : List V), vs = [.ref a, .ref t, .ref l] ∧ H l = some (.lst xs) ∧ l ≠ t ∧ 0 < xs.length ∧ ∀ (x : V) (H' : Hp), x ∈ xs → H' t = some (.lst (zs ++ [.int 0])) → Stp t H H' → Q x H') ∨
   (∃ z : Str, vs = [.ref a, .ref t, .str z] ∧ 0 < z.length ∧ z.length ≤ 1000 ∧ ∀ (c : Nat) (H' : Hp), c ∈ z.cps.toList → H' t = some (.lst (zs ++ [.int 0])) → Stp t H H' → Q (.str ⟨#[c]⟩) H'))
theorem at_mod {ns : List Int} (h : ns ≠ []) (k : Int) : ∃ v : Int, atI (ns.map V.int) (k % ((ns.map V.int).length : Int)) = some (.int v) := by
  have hl : 0 < ns.length := List.length_pos_iff.mpr h
  have e : ((ns.map V.int).length : Int) = (ns.length : Int) := by rw [List.length_map]
  rw [e]
  have h0 := Int.emod_nonneg k (b := (ns.length : Int)) (by omega)
  have h1 := Int.emod_lt_of_pos k (b := (ns.length : Int)) (by omega)
  generalize k % (ns.length : Int) = i at h0 h1 ⊢
  obtain ⟨j, rfl⟩ : ∃ j : Nat, i = (j : Int) := ⟨i.toNat, by omega⟩
  have hj : j < ns.length := by omega
  exact ⟨ns[j], atI_nat (by rw [List.getElem?_map, List.getElem?_eq_getElem hj]; rfl)⟩
theorem at_place {α : Type} {xs : List α} {r : Int} (h0 : 0 ≤ r) (h1 : r < (xs.length : Int)) : ∃ v, atI xs r = some v ∧ v ∈ xs := by
  obtain ⟨j, rfl⟩ : ∃ j : Nat, r = (j : Int) := ⟨r.toNat, by omega⟩
  have hj : j < xs.length := by omega
  exact ⟨xs[j], atI_nat (List.getElem?_eq_getElem hj), List.getElem_mem hj⟩
def spLaw (K : PySem.W.Frag) : Sp := fun vs H Q _ => ∃ (a : Addr) (ns : List Int), vs = [.ref a] ∧ Scr K H a ns ∧ ns.length ≤ 63 ∧ ∀ H', Q (.bl true) H'
theorem scr_of {K : PySem.W.Frag} {H : Hp} {a : Addr} {ns : List Int} (hO : Only H) (hS : SqL K H a (ns.map V.int)) : Scr K H a ns := by
  rcases hS with (h | ⟨o, h⟩) | h
  · rcases hO a with z | ⟨o, xs, z⟩
    · rw [z] at h; cases h
    · rw [z] at h; cases h
  · exact .inl ⟨o, h⟩
  · exact .inr h
def Alike0 (x y : V) : Prop := (x = .non ∧ y = .non) ∨ (∃ b, x = .bl b ∧ y = .bl b) ∨ (∃ i, x = .int i ∧ y = .int i) ∨ ∃ z, x = .str z ∧ y = .str z
def Alike (K : PySem.W.Frag) (H : Hp) : Nat → V → V → Prop
  | 0, x, y => Alike0 x y
  | n + 1, x, y => Alike0 x y ∨ ∃ a b xs ys, x = .ref a ∧ y = .ref b ∧ SqT K H a xs ∧ SqT K H b ys ∧ xs.length = ys.length ∧ xs.length ≤ 1000 ∧ ∀ (i : Nat) u v, xs[i]? = some u → ys[i]? = some v → Alike K H n u v
theorem Alike.same {K : PySem.W.Frag} {H H' : Hp} (s : Same H H') : ∀ {n : Nat} {x y : V}, Alike K H n x y → Alike K H' n x y
  | 0, _, _, h => h
  | n + 1, _, _, h => by
    rcases h with h | ⟨a, b, xs, ys, e1, e2, h1, h2, hl, hm, h3⟩
    · exact .inl h
    · exact .inr ⟨a, b, xs, ys, e1, e2, s.tup h1, s.tup h2, hl, hm, fun i u v hu hv => (h3 i u v hu hv).same s⟩
theorem Alike.up {K : PySem.W.Frag} {H : Hp} : ∀ {n : Nat} {x y : V}, Alike K H n x y → Alike K H (n + 1) x y
  | 0, _, _, h => .inl h
  | n + 1, _, _, h => by
    rcases h with h | ⟨a, b, xs, ys, e1, e2, h1, h2, hl, hm, h3⟩
    · exact .inl h
    · exact .inr ⟨a, b, xs, ys, e1, e2, h1, h2, hl, hm, fun i u v hu hv => (h3 i u v hu hv).up⟩
theorem Alike.mono {K : PySem.W.Frag} {H : Hp} {m n : Nat} {x y : V} (h : Alike K H m x y) (hm : m ≤ n) : Alike K H n x y := by
  induction hm with
  | refl => exact h
  | step _ ih => exact ih.up
def spSame (K : PySem.W.Frag) : Nat → Sp
  | 0 => fun _ _ _ _ => False
  | n + 1 => fun vs H Q _ => ∃ x y, vs = [x, y] ∧ Alike K H n x y ∧ ∀ H', Same H H' → Q (.bl true) H'
def Thg0 (K : PySem.W.Frag) (H : Hp) (v : V) : Prop := (∃ x : Str, v = .str x ∧ x.length ≤ 1000) ∨ v = .non ∨ (∃ i, v = .int i) ∨ (∃ b, v = .bl b) ∨ (∃ a xs, v = .ref a ∧ SqT K H a xs) ∨ ∃ a xs, v = .ref a ∧ H a = some (.lst xs)
theorem Thg0.same {K : PySem.W.Frag} {H H' : Hp} {v : V} (h : Thg0 K H v) (s : Same H H') : Thg0 K H' v := by
  rcases h with h | h | h | h | ⟨a, xs, e, h⟩ | ⟨a, xs, e, h⟩
  · exact .inl h
  · exact .inr (.inl h)
  · exact .inr (.inr (.inl h))
  · exact .inr (.inr (.inr (.inl h)))
  · exact .inr (.inr (.inr (.inr (.inl ⟨a, xs, e, s.tup h⟩))))
  · exact .inr (.inr (.inr (.inr (.inr ⟨a, xs, e, s _ _ h⟩))))
def NoT (H : Hp) (v : V) : Prop := (∃ x : Str, v = .str x ∧ x.length ≤ 1000) ∨ v = .non ∨ (∃ i, v = .int i) ∨ (∃ b, v = .bl b) ∨ ∃ a xs, v = .ref a ∧ H a = some (.lst xs)
theorem NoT.thg {K : PySem.W.Frag} {H : Hp} {v : V} (h : NoT H v) : Thg0 K H v := by
  rcases h with h | h | h | h | h
  · exact .inl h
  · exact .inr (.inl h)
  · exact .inr (.inr (.inl h))
  · exact .inr (.inr (.inr (.inl h)))
  · exact .inr (.inr (.inr (.inr (.inr h))))
def isS : V → Bool
  | .str _ => true
  | _ => false
theorem call_isS {X : Cx} : CallR X (.builtin "isinstance") (fun xs H Q => ∃ v, xs = [v, .ty "str"] ∧ Thg0 X.K H v ∧ Q (.bl (isS v)) H) := by
  intro pins s σ H xs us Q I r h
  obtain ⟨v, rfl, th, q⟩ := h
  rcases th with ⟨x, rfl, _⟩ | rfl | ⟨i, rfl⟩ | ⟨b, rfl⟩ | ⟨a, ys, rfl, hq⟩ | ⟨a, ys, rfl, hq⟩
  · exact call_isinst pins s σ H _ us Q I r ⟨_, _, _, _, rfl, TyOf.str _, rfl, q⟩
  · exact call_isinst pins s σ H _ us Q I r ⟨_, _, _, _, rfl, TyOf.non, rfl, q⟩
  · exact call_isinst pins s σ H _ us Q I r ⟨_, _, _, _, rfl, TyOf.int _, rfl, q⟩
  · exact call_isinst pins s σ H _ us Q I r ⟨_, _, _, _, rfl, TyOf.bl _, rfl, q⟩
  · exact call_isTup pins s σ H _ us Q I r ⟨_, _, _, _, rfl, hq, rfl, q⟩
  · exact call_isinst pins s σ H _ us Q I r ⟨_, _, _, _, rfl, TyOf.lst hq, rfl, q⟩
theorem call_isT {X : Cx} : CallR X (.builtin "isinstance") (fun xs H Q => ∃ v, xs = [v, .ty "tuple"] ∧ ((∃ a ys, v = .ref a ∧ SqT X.K H a ys ∧ Q (.bl true) H) ∨ (NoT H v ∧ Q (.bl false) H))) := by
  intro pins s σ H xs us Q I r h
  obtain ⟨v, rfl, h⟩ := h
  rcases h with ⟨a, ys, rfl, hq, q⟩ | ⟨⟨x, rfl, _⟩ | rfl | ⟨i, rfl⟩ | ⟨b, rfl⟩ | ⟨a, ys, rfl, hq⟩, q⟩
  · exact call_isTup pins s σ H _ us Q I r ⟨_, _, _, _, rfl, hq, rfl, q⟩
  · exact call_isinst pins s σ H _ us Q I r ⟨_, _, _, _, rfl, TyOf.str _, rfl, q⟩
  · exact call_isinst pins s σ H _ us Q I r ⟨_, _, _, _, rfl, TyOf.non, rfl, q⟩
  · exact call_isinst pins s σ H _ us Q I r ⟨_, _, _, _, rfl, TyOf.int _, rfl, q⟩
  · exact call_isinst pins s σ H _ us Q I r ⟨_, _, _, _, rfl, TyOf.bl _, rfl, q⟩
  · exact call_isinst pins s σ H _ us Q I r ⟨_, _, _, _, rfl, TyOf.lst hq, rfl, q⟩
theorem compF_zip {K : PySem.W.Frag} {p q : Addr} {xs zs : List V} {te : TE} {H1 : Hp} {QD : Hp → Prop} (f : V → V → V) (D : Addr) (hD : H1 D = none) (h1 : SqT K H1 p xs) (h2 : SqT K H1 q zs) (hl : xs.length = zs.length) (hz : xs.length < sizeLine)
    (he : ∀ (i : Nat) x z H R, xs[i]? = some x → zs[i]? = some z → Same H1 H → (∀ H', Same H H' → R (f x z) H') → te [some x, some z] H R)
    (hd : ∀ H', Same H1 H' → H' D = some (.lst (List.zipWith f xs zs)) → QD H') :
    ∃ W : Nat → Nat → List V → Hp → Prop, (∃ m, W 0 m [] (upd H1 D (.lst []))) ∧ ∀ i m ys H2, W i m ys H2 → H2 D = some (.lst ys) ∧
      (((Itz K p q).stop i H2 ∧ QD H2) ∨ ((Itz K p q).go i H2 ∧ ∀ x H3, (Itz K p q).yld i H2 x H3 → ∀ pre : St, pre.length = 2 → gTup K 2 (gCons (gName 0) (gCons (gName 1) gNil)) x (pre ++ []) H3 fun σ4 H4 => (∃ pre' : St, pre'.length = 2 ∧ σ4 = pre' ++ []) ∧
        tTrue σ4 H4 fun b H5 => if b = true then te σ4 H5 (fun y H6 => H6 D = some (.lst ys) ∧ ys.length < sizeLine ∧ ∃ m', m' < m ∧ W (i + 1) m' (ys ++ [y]) (upd H6 D (.lst (ys ++ [y])))) else ∃ m', m' < m ∧ W (i + 1) m' ys H5)) := by
  have hzl : (List.zipWith f xs zs).length = xs.length := by rw [List.length_zipWith]; omega
  refine ⟨fun i m ys H2 => m = xs.length - i ∧ i ≤ xs.length ∧ ys = (List.zipWith f xs zs).take i ∧ H2 D = some (.lst ys) ∧ Same H1 H2, ⟨xs.length, by simp, Nat.zero_le _, by simp, upd_same, Same.new hD _⟩, ?_⟩
  rintro i m ys H2 ⟨rfl, hi, rfl, hD2, sm⟩
  refine ⟨hD2, ?_⟩
  by_cases hlt : i < xs.length
  · have hx : xs[i]? = some xs[i] := List.getElem?_eq_getElem hlt
    have hzz : zs[i]? = some (zs[i]'(by omega)) := List.getElem?_eq_getElem (by omega)
    refine .inr ⟨⟨xs, zs, _, _, sm.tup h1, sm.tup h2, hx, hzz⟩, fun v H3 y pre hpre => ?_⟩
    obtain ⟨t, u, v', ht, hu, hv, rfl, rfl⟩ := y
    have eu := hu xs (sm.tup h1)
    have ev := hv zs (sm.tup h2)
    obtain ⟨a0, a1, rfl⟩ : ∃ a0 a1, pre = [a0, a1] := by
      cases pre with
      | nil => simp at hpre
      | cons a0 r => cases r with
        | nil => simp at hpre
        | cons a1 r => cases r with
          | nil => exact ⟨a0, a1, rfl⟩
          | cons _ _ => simp at hpre
    refine ⟨t, _, rfl, SqT.of upd_same, rfl, _, _, rfl, _, _, rfl, rfl, ⟨[some u, some v'], rfl, rfl⟩, ?_⟩
    unfold tTrue
    dsimp only
    refine iteT ?_
    refine he i u v' _ _ eu ev (sm.trans (Same.new ht _)) fun H6 s6 => ?_
    have sA := (Same.new ht (.tup [u, v'])).trans s6
    refine ⟨sA _ _ hD2, by rw [List.length_take]; omega, xs.length - (i + 1), by omega, rfl, hlt, ?_, upd_same, ?_⟩
    · have hg : (List.zipWith f xs zs)[i]? = some (f u v') := by rw [List.getElem?_zipWith, eu, ev]
      rw [List.take_add_one, hg]
      rfl
    · intro b o e
      have hb : b ≠ D := ne_of_none e hD
      rw [upd_ne hb]
      exact sA _ _ (sm _ _ e)
  · have e : i = xs.length := by omega
    subst e
    rw [← hzl, List.take_length] at hD2
    exact .inl ⟨⟨xs, zs, sm.tup h1, sm.tup h2, hl, Nat.le_refl _⟩, hd H2 sm hD2⟩
theorem zip_true : ∀ xs zs : List V, ∃ bs : List Bool, List.zipWith (fun _ _ => V.bl true) xs zs = bs.map V.bl ∧ bs.all id = true
  | [], _ => ⟨[], by simp, rfl⟩
  | _ :: _, [] => ⟨[], by simp, rfl⟩
  | x :: xs, z :: zs => by
    obtain ⟨bs, e, h⟩ := zip_true xs zs
    exact ⟨true :: bs, by rw [List.zipWith_cons_cons, e]; rfl, by simpa using h⟩
end Co
namespace Co
open PySem L2 Mi
def Thg (K : PySem.W.Frag) (H : Hp) (v : V) : Prop := NoT H v ∨ ∃ a xs, v = .ref a ∧ SqT K H a xs ∧ xs.length ≤ 1000 ∧ ∀ x ∈ xs, Thg0 K H x
theorem NoT.same {H H' : Hp} {v : V} (h : NoT H v) (s : Same H H') : NoT H' v := by
  rcases h with h | h | h | h | ⟨a, xs, e, h⟩
  · exact .inl h
  · exact .inr (.inl h)
  · exact .inr (.inr (.inl h))
  · exact .inr (.inr (.inr (.inl h)))
  · exact .inr (.inr (.inr (.inr ⟨a, xs, e, s _ _ h⟩)))
theorem Thg.same {K : PySem.W.Frag} {H H' : Hp} {v : V} (h : Thg K H v) (s : Same H H') : Thg K H' v := by
  rcases h with h | ⟨a, xs, e, h, hl, hx⟩
  · exact .inl (h.same s)
  · exact .inr ⟨a, xs, e, s.tup h, hl, fun x hm => (hx x hm).same s⟩
theorem NoT.stp {H H' : Hp} {t : Addr} {zs zs' : List V} {v : V} (h : NoT H v) (s : Stp t H H') (h2 : H' t = some (.lst zs')) : NoT H' v := by
  rcases h with h | h | h | h | ⟨a, xs, e, h⟩
  · exact .inl h
  · exact .inr (.inl h)
  · exact .inr (.inr (.inl h))
  · exact .inr (.inr (.inr (.inl h)))
  · by_cases ha : a = t
    · exact .inr (.inr (.inr (.inr ⟨a, zs', e, ha ▸ h2⟩)))
    · exact .inr (.inr (.inr (.inr ⟨a, xs, e, s a _ ha h⟩)))
theorem Thg0.stp {K : PySem.W.Frag} {H H' : Hp} {t : Addr} {zs zs' : List V} {v : V} (h : Thg0 K H v) (ht : H t = some (.lst zs)) (s : Stp t H H') (h2 : H' t = some (.lst zs')) : Thg0 K H' v := by
  rcases h with h | h | h | h | ⟨a, xs, e, h⟩ | ⟨a, xs, e, h⟩
  · exact .inl h
  · exact .inr (.inl h)
  · exact .inr (.inr (.inl h))
  · exact .inr (.inr (.inr (.inl h)))
  · exact .inr (.inr (.inr (.inr (.inl ⟨a, xs, e, tup_stp h ht s⟩))))
  · by_cases ha : a = t
    · exact .inr (.inr (.inr (.inr (.inr ⟨a, zs', e, ha ▸ h2⟩))))
    · exact .inr (.inr (.inr (.inr (.inr ⟨a, xs, e, s a _ ha h⟩))))
theorem Thg.stp {K : PySem.W.Frag} {H H' : Hp} {t : Addr} {zs zs' : List V} {v : V} (h : Thg K H v) (ht : H t = some (.lst zs)) (s : Stp t H H') (h2 : H' t = some (.lst zs')) : Thg K H' v := by
  rcases h with h | ⟨a, xs, e, h, hl, hx⟩
  · exact .inl (h.stp (zs := zs) s h2)
  · exact .inr ⟨a, xs, e, tup_stp h ht s, hl, fun x hm => (hx x hm).stp ht s h2⟩
section
variable {X : Cx}
end
end Co
namespace Co
open PySem L2 Mi
abbrev VE : List Value := [.type "ValueError", .type "Exception", .type "BaseException", .type "object"]
def RowsIn (H : Hp) (rs : List (Addr × Rw)) : Prop := ∀ r ∈ rs, H r.1 = some (.tup [V.str r.2.1, V.str r.2.2])
abbrev refs (rs : List (Addr × Rw)) : List V := rs.map fun r => V.ref r.1
def RowsAt (H : Hp) (a : Addr) (R : List Rw) : Prop := ∃ rs : List (Addr × Rw), H a = some (.tup (refs rs)) ∧ RowsIn H rs ∧ rs.map (·.2) = R
theorem RowsIn.ts {H H' : Hp} {rs : List (Addr × Rw)} (h : RowsIn H rs) (s : TS' H H') : RowsIn H' rs := fun r hr => s _ _ (h r hr)
theorem RowsAt.ts {H H' : Hp} {a : Addr} {R : List Rw} (h : RowsAt H a R) (s : TS' H H') : RowsAt H' a R := by
  obtain ⟨rs, h1, h2, h3⟩ := h
  exact ⟨rs, s _ _ h1, h2.ts s, h3⟩
theorem RowsAt.same {H H' : Hp} {a : Addr} {R : List Rw} (h : RowsAt H a R) (s : Same H H') : RowsAt H' a R := h.ts s.ts
theorem Stp.ts {t : Addr} {H H' : Hp} {zs : List V} (s : Stp t H H') (h : H t = some (.lst zs)) : TS' H H' := fun b xs hb => s b _ (fun e => by rw [e, h] at hb; cases hb) hb
theorem RowsIn.filter {H : Hp} {rs : List (Addr × Rw)} (h : RowsIn H rs) (p : Addr × Rw → Bool) : RowsIn H (rs.filter p) := fun r hr => h r (List.mem_filter.mp hr).1
end Co
namespace Mi
open PySem L2
theorem turn_end {R D : List Rw} {one en : Str} (nd : (R.map (·.1)).Nodup) (hv : ∀ n, val D n = (val R n).map fun g => if n ∈ (R.map (·.1)).take (R.map (·.1)).length ∧ g = one then en else g) : ∀ n, val (putS D one en) n = val (more R one en) n := fun n => by
  rw [putS_val, more_val nd, hv, List.take_length]
  by_cases c : n = one
  · rw [if_pos c, if_pos c]
  · rw [if_neg c, if_neg c]
    cases h : val R n with
    | none => rfl
    | some g =>
      have hm : n ∈ R.map (·.1) := List.mem_map.mpr ⟨_, val_mem h, rfl⟩
      simp [hm]
end Mi
namespace Co
open PySem L2 Mi
end Co
namespace Co
open PySem L2 Mi
end Co
namespace Co
open PySem L2 Mi
end Co
namespace Co
open PySem L2 Mi
end Co
namespace Mi
open PySem L2
def Ch (R : List Rw) : List Str → Str → Prop
  | [], _ => True
  | x :: P, n => val R x = some (P.headD n) ∧ Ch R P n
theorem Ch.snoc {R : List Rw} : ∀ {P : List Str} {n m : Str}, Ch R P n → val R n = some m → Ch R (P ++ [n]) m
  | [], n, m, _, h => ⟨h, trivial⟩
  | x :: P, n, m, h, hv => by
    obtain ⟨h1, h2⟩ := h
    refine ⟨?_, h2.snoc hv⟩
    cases P with
    | nil => exact h1
    | cons y P => exact h1
theorem Ch.drop {R : List Rw} : ∀ {A B : List Str} {n : Str}, Ch R (A ++ B) n → Ch R B n
  | [], _, _, h => h
  | _ :: A, B, n, h => Ch.drop (A := A) h.2
end Mi
namespace Co
open PySem L2 Mi
def grp (Rs : List Rw) (g : Str) : List Str := (Rs.filter fun r => decide (r.2 = g)).map (·.1)
theorem grp_snoc (Rs : List Rw) (r : Rw) (g : Str) : grp (Rs ++ [r]) g = grp Rs g ++ (if r.2 = g then [r.1] else []) := by
  unfold grp
  rw [List.filter_append, List.map_append]
  congr 1
  by_cases h : r.2 = g
  · rw [if_pos h]; simp [h]
  · rw [if_neg h]; simp [h]
theorem putK_keys {kvs : List (Key × V)} {us : List Str} {u : Str} {v : V} (h : kvs.map (·.1) = us.map Sum.inr) : (putK kvs (Sum.inr u) v).map (·.1) = (if u ∈ us then us else us ++ [u]).map Sum.inr := by
  have hany : (kvs.any fun kv => decide (kv.1 = (Sum.inr u : Key))) = decide (u ∈ us) := by
    rw [Bool.eq_iff_iff, List.any_eq_true, decide_eq_true_eq]
    constructor
    · rintro ⟨kv, hm, e⟩
      have hk : kv.1 ∈ kvs.map (·.1) := List.mem_map.mpr ⟨kv, hm, rfl⟩
      rw [h] at hk
      obtain ⟨t, ht, e2⟩ := List.mem_map.mp hk
      have e3 : kv.1 = Sum.inr u := by simpa using e
      have e4 : (Sum.inr t : Key) = Sum.inr u := e2.trans e3
      rw [← Sum.inr.inj e4]
      exact ht
    · intro hu
      have hk : (Sum.inr u : Key) ∈ us.map Sum.inr := List.mem_map.mpr ⟨u, hu, rfl⟩
      rw [← h] at hk
      obtain ⟨kv, hm, e⟩ := List.mem_map.mp hk
      exact ⟨kv, hm, by simpa using e⟩
  unfold putK
  rw [hany]
  by_cases c : u ∈ us
  · rw [decide_eq_true c, if_pos rfl, if_pos c, List.map_map, ← h]
    refine List.map_congr_left fun kv _ => ?_
    show (if kv.1 = Sum.inr u then (kv.1, v) else kv).1 = kv.1
    split <;> rfl
  · rw [decide_eq_false c, if_neg Bool.false_ne_true, if_neg c, List.map_append, List.map_append, h]
    rfl
def GrpAt (H : Hp) (d : Addr) (Rs : List Rw) (gs : List Str) : Prop := ∃ kvs : List (Key × V), H d = some (.dK kvs) ∧ kvs.map (·.1) = gs.map Sum.inr ∧ gs.Nodup ∧ (∀ g, g ∈ gs ↔ ∃ r ∈ Rs, r.2 = g) ∧ gs.length ≤ Rs.length ∧
  ∀ g, (g ∈ gs → ∃ b, valV kvs (Sum.inr g) = some (.ref b) ∧ H b = some (.tup ((grp Rs g).map V.str))) ∧ (g ∉ gs → valV kvs (Sum.inr g) = none)
theorem GrpAt.ts {H H' : Hp} {d : Addr} {Rs : List Rw} {gs : List Str} (h : GrpAt H d Rs gs) (s : TS' H H') (hd : ∀ kvs, H d = some (.dK kvs) → H' d = some (.dK kvs)) : GrpAt H' d Rs gs := by
  obtain ⟨kvs, h1, h2, h3, h4, h5, h6⟩ := h
  refine ⟨kvs, hd _ h1, h2, h3, h4, h5, fun g => ⟨fun hg => ?_, (h6 g).2⟩⟩
  obtain ⟨b, e1, e2⟩ := (h6 g).1 hg
  exact ⟨b, e1, s _ _ e2⟩
theorem GrpAt.same {H H' : Hp} {d : Addr} {Rs : List Rw} {gs : List Str} (h : GrpAt H d Rs gs) (s : Same H H') : GrpAt H' d Rs gs := h.ts s.ts fun kvs e => s _ _ e
theorem GrpAt.get {H : Hp} {d : Addr} {Rs : List Rw} {gs : List Str} (h : GrpAt H d Rs gs) (g : Str) {e : Addr} (he : H e = some (.tup [])) : ∃ o b, DGet H d (.str g) o ∧ o.getD (.ref e) = .ref b ∧ H b = some (.tup ((grp Rs g).map V.str)) := by
  obtain ⟨kvs, h1, h2, h3, h4, h5, h6⟩ := h
  by_cases hg : g ∈ gs
  · obtain ⟨b, e1, e2⟩ := (h6 g).1 hg
    exact ⟨_, b, DGet.k (k := Sum.inr g) h1, by rw [e1]; rfl, e2⟩
  · have hn : grp Rs g = [] := by
      unfold grp
      rw [List.map_eq_nil_iff, List.filter_eq_nil_iff]
      intro r hr hc
      exact hg ((h4 g).mpr ⟨r, hr, by simpa using hc⟩)
    exact ⟨_, e, DGet.k (k := Sum.inr g) h1, by rw [(h6 g).2 hg]; rfl, by rw [hn]; exact he⟩
theorem GrpAt.at {H : Hp} {d : Addr} {Rs : List Rw} {gs : List Str} (h : GrpAt H d Rs gs) {g : Str} (hg : g ∈ gs) : ∃ b, DGet H d (.str g) (some (.ref b)) ∧ H b = some (.tup ((grp Rs g).map V.str)) := by
  obtain ⟨kvs, h1, h2, h3, h4, h5, h6⟩ := h
  obtain ⟨b, e1, e2⟩ := (h6 g).1 hg
  have := DGet.k (k := Sum.inr g) h1
  rw [e1] at this
  exact ⟨b, this, e2⟩
theorem GrpAt.put {H : Hp} {d : Addr} {Rs : List Rw} {gs : List Str} (h : GrpAt H d Rs gs) (r : Rw) {b : Addr} (hb : H b = some (.tup ((grp Rs r.2 ++ [r.1]).map V.str))) (hl : Rs.length ≤ 1000) :
    ∃ H', DPut H d (.str r.2) (.ref b) H' ∧ GrpAt H' d (Rs ++ [r]) (if r.2 ∈ gs then gs else gs ++ [r.2]) ∧ ∀ c o, c ≠ d → H c = some o → H' c = some o := by
  obtain ⟨kvs, h1, h2, h3, h4, h5, h6⟩ := h
  have hkl : kvs.length = gs.length := by have := congrArg List.length h2; rw [List.length_map, List.length_map] at this; exact this
  refine ⟨_, DPut.k (k := Sum.inr r.2) h1 (bigl _ (by omega)), ⟨_, upd_same, putK_keys h2, ?_, fun g => ?_, ?_, fun g => ?_⟩, fun c o hc e => by rw [upd_ne hc]; exact e⟩
  · by_cases c : r.2 ∈ gs
    · rw [if_pos c]; exact h3
    · rw [if_neg c, List.nodup_append]
      exact ⟨h3, by simp, fun x hx y hy e => by rw [List.mem_singleton.mp hy] at e; exact c (e ▸ hx)⟩
  · have base' : (∃ z ∈ Rs ++ [r], z.2 = g) ↔ g ∈ gs ∨ g = r.2 := by
      rw [h4]
      constructor
      · rintro ⟨z, hz, e⟩
        rcases List.mem_append.mp hz with hz | hz
        · exact .inl ⟨z, hz, e⟩
        · rw [List.mem_singleton.mp hz] at e; exact .inr e.symm
      · rintro (⟨z, hz, e⟩ | e)
        · exact ⟨z, List.mem_append_left _ hz, e⟩
        · exact ⟨r, List.mem_append_right _ (by simp), e.symm⟩
    rw [base']
    by_cases c : r.2 ∈ gs
    · rw [if_pos c]; exact ⟨.inl, fun h => h.elim id fun e => e ▸ c⟩
    · rw [if_neg c, List.mem_append, List.mem_singleton]
  · rw [List.length_append, List.length_singleton]
    by_cases c : r.2 ∈ gs
    · rw [if_pos c]; omega
    · rw [if_neg c, List.length_append, List.length_singleton]; omega
  · have ndb : ∀ b' xs, H b' = some (.tup xs) → (upd H d (.dK (putK kvs (Sum.inr r.2) (.ref b))) : Hp) b' = some (.tup xs) := fun b' xs e => by
      rw [upd_ne (fun z => by rw [z, h1] at e; cases e)]; exact e
    rw [grp_snoc, valV_put]
    by_cases e : g = r.2
    · subst e
      have c1 : (if (Sum.inr r.2 : Key) = Sum.inr r.2 then some (V.ref b) else valV kvs (Sum.inr r.2)) = some (V.ref b) := if_pos rfl
      have c2 : (if r.2 = r.2 then [r.1] else []) = [r.1] := if_pos rfl
      rw [c1, c2]
      refine ⟨fun _ => ⟨b, rfl, ndb _ _ hb⟩, fun hn => absurd ?_ hn⟩
      by_cases c : r.2 ∈ gs
      · rw [if_pos c]; exact c
      · rw [if_neg c]; exact List.mem_append_right _ (by simp)
    · rw [if_neg (fun z => e (Sum.inr.inj z)), if_neg (Ne.symm e), List.append_nil]
      have hg : (g ∈ if r.2 ∈ gs then gs else gs ++ [r.2]) ↔ g ∈ gs := by
        by_cases c : r.2 ∈ gs
        · rw [if_pos c]
        · rw [if_neg c, List.mem_append, List.mem_singleton]
          exact ⟨fun h => h.elim id fun z => absurd z e, .inl⟩
      rw [hg]
      refine ⟨fun h => ?_, (h6 g).2⟩
      obtain ⟨b', e1, e2⟩ := (h6 g).1 h
      exact ⟨b', e1, ndb _ _ e2⟩
def TurnAt (H : Hp) (p : Addr) (U : List (Str × List Str)) : Prop := ∃ qs : List (Addr × Str × Addr × List Str), H p = some (.tup (qs.map fun q => V.ref q.1)) ∧ (∀ q ∈ qs, H q.1 = some (.tup [.str q.2.1, .ref q.2.2.1]) ∧ H q.2.2.1 = some (.tup (q.2.2.2.map V.str))) ∧ qs.map (fun q => (q.2.1, q.2.2.2)) = U
theorem TurnAt.ts {H H' : Hp} {p : Addr} {U : List (Str × List Str)} (h : TurnAt H p U) (s : TS' H H') : TurnAt H' p U := by
  obtain ⟨qs, h1, h2, h3⟩ := h
  exact ⟨qs, s _ _ h1, fun q hq => ⟨s _ _ (h2 q hq).1, s _ _ (h2 q hq).2⟩, h3⟩
end Co
namespace Co
open PySem L2 Mi
theorem alike_strs' {K : PySem.W.Frag} {H : Hp} {a b : Addr} {ts : List Str} (h1 : SqT K H a (ts.map V.str)) (h2 : SqT K H b (ts.map V.str)) (hl : ts.length ≤ 1000) : Alike K H 1 (.ref a) (.ref b) := by
  refine .inr ⟨a, b, _, _, rfl, rfl, h1, h2, rfl, by rw [List.length_map]; exact hl, fun i u v hu hv => ?_⟩
  rw [hu] at hv
  cases hv
  rw [List.getElem?_map] at hu
  cases hh : ts[i]? with
  | none => rw [hh] at hu; cases hu
  | some t => rw [hh] at hu; cases hu; exact .inr (.inr (.inr ⟨_, rfl, rfl⟩))
end Co
namespace Mi
open PySem L2
end Mi
namespace Co
open PySem L2 Mi
def St1 (K : PySem.W.Frag) (a t : Addr) (ns : List Int) (n : Nat) (H : Hp) : Prop := (∃ zs, H t = some (.lst zs) ∧ zs.length ≤ n) ∧ Scr K H a ns
theorem St1.same {K : PySem.W.Frag} {a t : Addr} {ns : List Int} {n : Nat} {H H' : Hp} (h : St1 K a t ns n H) (s : Same H H') : St1 K a t ns n H' := by
  obtain ⟨⟨zs, h1, h2⟩, h3⟩ := h
  exact ⟨⟨zs, s _ _ h1, h2⟩, h3.same s⟩
theorem St1.up {K : PySem.W.Frag} {a t : Addr} {ns : List Int} {n m : Nat} {H : Hp} (h : St1 K a t ns n H) (hm : n ≤ m) : St1 K a t ns m H := by
  obtain ⟨⟨zs, h1, h2⟩, h3⟩ := h
  exact ⟨⟨zs, h1, by omega⟩, h3⟩
theorem St1.drawn {K : PySem.W.Frag} {a t : Addr} {ns : List Int} {n m : Nat} {H H' : Hp} {zs zs' : List V} (h : St1 K a t ns n H) (h0 : H t = some (.lst zs)) (h1 : H' t = some (.lst zs')) (hl : zs'.length ≤ m) (s : Stp t H H') : St1 K a t ns m H' ∧ TS' H H' :=
  ⟨⟨⟨_, h1, hl⟩, h.2.stp h0 s⟩, s.ts h0⟩
theorem St1.frz {K : PySem.W.Frag} {a t g : Addr} {ns : List Int} {n : Nat} {H : Hp} {o : Obj} {kvs : List (Key × V)} (h : St1 K a t ns n H) (hg : H g = some (.dK kvs)) : St1 K a t ns n (upd H g (.frz o (.dK kvs))) ∧ TS' H (upd H g (.frz o (.dK kvs))) := by
  obtain ⟨⟨zs, h1, h2⟩, h3⟩ := h
  refine ⟨⟨⟨zs, by rw [upd_ne (fun e => by rw [e, hg] at h1; cases h1)]; exact h1, h2⟩, ?_⟩, fun b xs hb => ?_⟩
  · rcases h3 with ⟨o', h3⟩ | h3
    · exact .inl ⟨o', by rw [upd_ne (fun e => by rw [e, hg] at h3; cases h3)]; exact h3⟩
    · exact .inr h3
  · rw [upd_ne (fun e => by rw [e, hg] at hb; cases hb)]; exact hb
end Co
namespace Mi
open PySem L2
def nx (R : List Rw) (n : Str) : Str := (val R n).getD n
def it (R : List Rw) : Nat → Str → Str
  | 0, n => n
  | k + 1, n => it R k (nx R n)
theorem it_add (R : List Rw) : ∀ (j k : Nat) (n : Str), it R (j + k) n = it R k (it R j n)
  | 0, k, n => by rw [Nat.zero_add]; rfl
  | j + 1, k, n => by
    rw [Nat.succ_add]
    exact it_add R j k (nx R n)
theorem it_succ' (R : List Rw) (k : Nat) (n : Str) : it R (k + 1) n = nx R (it R k n) := it_add R k 1 n
theorem nx_none {R : List Rw} {n : Str} (h : val R n = none) : nx R n = n := by unfold nx; rw [h]; rfl
theorem nx_some {R : List Rw} {n m : Str} (h : val R n = some m) : nx R n = m := by unfold nx; rw [h]; rfl
theorem it_fix {R : List Rw} {e : Str} (h : val R e = none) : ∀ k, it R k e = e
  | 0 => rfl
  | k + 1 => by show it R k (nx R e) = e; rw [nx_none h]; exact it_fix h k
structure Cyc (R : List Rw) (h : Str) (l : Nat) : Prop where
  pos : 0 < l
  back : it R l h = h
  first : ∀ i, 0 < i → i < l → it R i h ≠ h
  go : ∀ i, val R (it R i h) ≠ none
def orb (R : List Rw) (h : Str) (l : Nat) : List Str := (List.range l).map fun i => it R i h
theorem orb_len (R : List Rw) (h : Str) (l : Nat) : (orb R h l).length = l := by unfold orb; rw [List.length_map, List.length_range]
theorem orb_get {R : List Rw} {h : Str} {l i : Nat} (hi : i < l) : (orb R h l)[i]? = some (it R i h) := by
  unfold orb
  rw [List.getElem?_map, List.getElem?_range hi]; rfl
theorem orb_mem {R : List Rw} {h x : Str} {l : Nat} : x ∈ orb R h l ↔ ∃ i, i < l ∧ it R i h = x := by
  unfold orb
  simp [List.mem_map, List.mem_range]
theorem Cyc.mul {R : List Rw} {h : Str} {l : Nat} (c : Cyc R h l) : ∀ q, it R (q * l) h = h
  | 0 => by rw [Nat.zero_mul]; rfl
  | q + 1 => by rw [Nat.succ_mul, it_add, c.mul q, c.back]
theorem Cyc.mem {R : List Rw} {h : Str} {l : Nat} (c : Cyc R h l) (k : Nat) : it R k h ∈ orb R h l := by
  refine orb_mem.mpr ⟨k % l, Nat.mod_lt _ c.pos, ?_⟩
  conv => rhs; rw [← Nat.div_add_mod k l, Nat.mul_comm, it_add, c.mul]
theorem Cyc.turn {R : List Rw} {h : Str} {l i : Nat} (c : Cyc R h l) (hi : i < l) : Cyc R (it R i h) l ∧ (orb R h l).drop i ++ (orb R h l).take i = orb R (it R i h) l := by
  refine ⟨⟨c.pos, ?_, fun j h0 hj e => ?_, fun j => ?_⟩, ?_⟩
  · rw [← it_add, Nat.add_comm, it_add, c.back]
  · have e2 : it R (l - i) (it R i h) = h := by rw [← it_add, show i + (l - i) = l by omega, c.back]
    have e3 : it R j h = h := by
      conv => lhs; rw [← e2]
      rw [← it_add, Nat.add_comm, it_add, e, e2]
    exact c.first j h0 hj e3
  · rw [← it_add]; exact c.go _
  · refine List.ext_getElem? fun j => ?_
    by_cases hj : j < l
    · rw [orb_get hj]
      by_cases hd : j < l - i
      · rw [List.getElem?_append_left (by rw [List.length_drop, orb_len]; exact hd), List.getElem?_drop, orb_get (by omega), it_add]
      · rw [List.getElem?_append_right (by rw [List.length_drop, orb_len]; omega), List.length_drop, orb_len, List.getElem?_take, if_pos (by omega), orb_get (by omega)]
        rw [← it_add, show i + j = l + (j - (l - i)) by omega, it_add, c.back]
    · rw [List.getElem?_eq_none (by rw [List.length_append, List.length_drop, List.length_take, orb_len]; omega), List.getElem?_eq_none (by rw [orb_len]; omega)]
structure Rg (R : List Rw) (u : List Str) (h : Str) (l : Nat) : Prop where
  is : u = orb R h l
  cyc : Cyc R h l
  min : ∀ x ∈ u, HS.ltS x h = false
theorem Rg.len {R : List Rw} {u : List Str} {h : Str} {l : Nat} (r : Rg R u h l) : u.length = l := by rw [r.is, orb_len]
theorem Rg.get {R : List Rw} {u : List Str} {h : Str} {l i : Nat} (r : Rg R u h l) (hi : i < l) : u[i]? = some (it R i h) := by rw [r.is]; exact orb_get hi
theorem Rg.next {R : List Rw} {u : List Str} {h x : Str} {l i : Nat} (r : Rg R u h l) (hx : u[i]? = some x) : ∃ y, val R x = some y ∧ (if i + 1 < l then u[i + 1]? = some y else y = h) := by
  have hi : i < l := by rw [← r.len]; exact (List.getElem?_eq_some_iff.mp hx).1
  rw [r.get hi] at hx
  injection hx with hx
  have hg := r.cyc.go i
  cases hv : val R (it R i h) with
  | none => exact absurd hv hg
  | some y =>
    have e : it R (i + 1) h = y := by rw [it_succ', nx_some hv]
    refine ⟨y, by rw [← hx]; exact hv, ?_⟩
    by_cases c : i + 1 < l
    · rw [if_pos c, r.get c, e]
    · rw [if_neg c, ← e, show i + 1 = l by omega, r.cyc.back]
theorem Rg.nd {R : List Rw} {u : List Str} {h : Str} {l i j : Nat} (r : Rg R u h l) (hi : i < j) (hj : j < l) : it R i h ≠ it R j h := fun e => by
  have e2 : it R (l - j + i) h = h := by
    rw [Nat.add_comm, it_add, e, ← it_add, show j + (l - j) = l by omega, r.cyc.back]
  exact r.cyc.first (l - j + i) (by omega) (by omega) e2
theorem Rg.same {R : List Rw} {u u' : List Str} {h h' x : Str} {l l' : Nat} (r : Rg R u h l) (r' : Rg R u' h' l') (h1 : x ∈ u) (h2 : x ∈ u') : u = u' := by
  have key : ∀ {u u' : List Str} {h h' : Str} {l l' : Nat}, Rg R u h l → Rg R u' h' l' → x ∈ u → x ∈ u' → h ∈ u' := fun {u u' h h' l l'} r r' h1 h2 => by
    rw [r.is] at h1
    rw [r'.is] at h2 ⊢
    obtain ⟨i, hi, e⟩ := orb_mem.mp h1
    obtain ⟨j, hj, e'⟩ := orb_mem.mp h2
    have e3 : it R (j + (l - i)) h' = h := by rw [it_add, e', ← e, ← it_add, show i + (l - i) = l by omega, r.cyc.back]
    rw [← e3]
    exact r'.cyc.mem _
  have hh : h = h' := HS.ltS_tri (r'.min h (key r r' h1 h2)) (r.min h' (key r' r h2 h1))
  subst hh
  have hl : l = l' := by
    rcases Nat.lt_trichotomy l l' with c | c | c
    · exact absurd r.cyc.back (r'.cyc.first l r.cyc.pos c)
    · exact c
    · exact absurd r'.cyc.back (r.cyc.first l' r'.cyc.pos c)
  rw [r.is, r'.is, hl]
end Mi
namespace Co
open PySem L2 Mi
theorem hu8 {A : Around} {k : Nat} (hr : Room k A) : A.units + 8 < cLine := Nat.lt_of_le_of_lt (Nat.add_le_add_left (by decide : 8 ≤ 64) _) hr.units
abbrev tupD (u : List Str) : Dat := .tup (u.map Dat.str)
end Co
namespace L2
open PySem PySem.Spec PyProof.Rows
section
variable {X : Cx} {pos : Pos}
end
end L2
namespace HD
open PySem
section
variable {prog : Program} {w : World} {A : Around} {E : Value → Shared → Prop} {s : Shared} {K : Type} [DecidableEq K] {knd : KeyKind prog w K}
end
end HD
namespace L2
open PySem PySem.Spec PyProof.Rows
section
variable {X : Cx}
end
end L2
namespace Mi
open PySem L2
structure Cl where
  ad : List Str
  ck : Int
  hd : Str
  nm : Int
deriving DecidableEq
def ltC (c d : Cl) : Bool := if c.ck = d.ck then (if c.hd = d.hd then decide (c.nm < d.nm) else HS.ltS c.hd d.hd) else decide (c.ck < d.ck)
theorem ltC_irr (c : Cl) : ltC c c = false := by unfold ltC; rw [if_pos rfl, if_pos rfl]; exact decide_eq_false (Int.lt_irrefl _)
theorem ltC_tri {c d : Cl} (h : c.ad = d.ad) (h1 : ltC c d = false) (h2 : ltC d c = false) : c = d := by
  obtain ⟨a, k, x, n⟩ := c
  obtain ⟨a', k', x', n'⟩ := d
  unfold ltC at h1 h2
  simp only at h h1 h2
  by_cases e1 : k = k'
  · subst e1
    rw [if_pos rfl] at h1 h2
    by_cases e2 : x = x'
    · subst e2
      rw [if_pos rfl] at h1 h2
      have h1' := of_decide_eq_false h1
      have h2' := of_decide_eq_false h2
      have : n = n' := by omega
      rw [h, this]
    · rw [if_neg e2] at h1
      rw [if_neg (Ne.symm e2)] at h2
      exact absurd (HS.ltS_tri h1 h2) e2
  · rw [if_neg e1] at h1
    rw [if_neg (Ne.symm e1)] at h2
    have h1' := of_decide_eq_false h1
    have h2' := of_decide_eq_false h2
    omega
theorem ltC_tot {c d : Cl} (h : ltC c d = true) : ltC d c = false := by
  unfold ltC at h ⊢
  by_cases e1 : c.ck = d.ck
  · rw [if_pos e1] at h
    rw [if_pos e1.symm]
    by_cases e2 : c.hd = d.hd
    · rw [if_pos e2] at h
      rw [if_pos e2.symm]
      have := of_decide_eq_true h
      exact decide_eq_false (by omega)
    · rw [if_neg e2] at h
      rw [if_neg (Ne.symm e2)]
      exact HS.ltS_tot _ _ h
  · rw [if_neg e1] at h
    rw [if_neg (Ne.symm e1)]
    have := of_decide_eq_true h
    exact decide_eq_false (by omega)
theorem ltC_tr {a b c : Cl} (h1 : ltC b a = false) (h2 : ltC c b = false) : ltC c a = false := by
  unfold ltC at h1 h2 ⊢
  by_cases e1 : c.ck = a.ck
  · rw [if_pos e1]
    by_cases e3 : b.ck = a.ck
    · rw [if_pos e3] at h1
      rw [if_pos (e1.trans e3.symm)] at h2
      by_cases f1 : c.hd = a.hd
      · rw [if_pos f1]
        by_cases f3 : b.hd = a.hd
        · rw [if_pos f3] at h1
          rw [if_pos (f1.trans f3.symm)] at h2
          have h1' := of_decide_eq_false h1
          have h2' := of_decide_eq_false h2
          exact decide_eq_false (by omega)
        · rw [if_neg f3] at h1
          rw [if_neg (fun z => f3 (z.symm.trans f1))] at h2
          rw [f1] at h2
          exact absurd (HS.ltS_tri h1 h2) f3
      · rw [if_neg f1]
        by_cases f3 : b.hd = a.hd
        · rw [← f3] at f1 ⊢
          rw [if_neg f1] at h2
          exact h2
        · rw [if_neg f3] at h1
          by_cases f4 : c.hd = b.hd
          · rw [f4]; exact h1
          · rw [if_neg f4] at h2
            exact HS.ltS_tr _ _ _ h1 h2
    · rw [if_neg e3] at h1
      rw [if_neg (fun z => e3 (z.symm.trans e1))] at h2
      have h1' := of_decide_eq_false h1
      have h2' := of_decide_eq_false h2
      omega
  · rw [if_neg e1]
    refine decide_eq_false ?_
    by_cases e3 : b.ck = a.ck
    · rw [if_neg (fun z => e1 (z.trans e3))] at h2
      have h2' := of_decide_eq_false h2
      omega
    · rw [if_neg e3] at h1
      have h1' := of_decide_eq_false h1
      by_cases e4 : c.ck = b.ck
      · omega
      · rw [if_neg e4] at h2
        have h2' := of_decide_eq_false h2
        omega
def MaxIn (L : List Cl) (c : Cl) : Prop := c ∈ L ∧ ∀ d ∈ L, d.ad = c.ad → ltC c d = false
theorem MaxIn.uniq {L : List Cl} {c d : Cl} (hc : MaxIn L c) (hd : MaxIn L d) (h : c.ad = d.ad) : c = d := ltC_tri h (hc.2 d hd.1 h.symm) (hd.2 c hc.1 h)
theorem max_ex : ∀ (L : List Cl) (u : List Str), (∃ c ∈ L, c.ad = u) → ∃ c, MaxIn L c ∧ c.ad = u
  | [], _, ⟨_, h, _⟩ => by cases h
  | x :: L, u, h => by
    by_cases hL : ∃ c ∈ L, c.ad = u
    · obtain ⟨c, hc, e⟩ := max_ex L u hL
      by_cases hx : x.ad = u ∧ ltC c x = true
      · refine ⟨x, ⟨List.mem_cons_self .., fun d hd he => ?_⟩, hx.1⟩
        rcases List.mem_cons.mp hd with rfl | hd
        · exact ltC_irr _
        · exact ltC_tr (hc.2 d hd (he.trans (hx.1.trans e.symm))) (ltC_tot hx.2)
      · refine ⟨c, ⟨List.mem_cons_of_mem _ hc.1, fun d hd he => ?_⟩, e⟩
        rcases List.mem_cons.mp hd with rfl | hd
        · cases hl : ltC c d with
          | false => rfl
          | true => exact absurd ⟨he.trans e, hl⟩ hx
        · exact hc.2 d hd he
    · obtain ⟨c, hc, e⟩ := h
      rcases List.mem_cons.mp hc with rfl | hc
      · refine ⟨c, ⟨List.mem_cons_self .., fun d hd he => ?_⟩, e⟩
        rcases List.mem_cons.mp hd with rfl | hd
        · exact ltC_irr _
        · exact absurd ⟨d, hd, he.trans e⟩ hL
      · exact absurd ⟨c, hc, e⟩ hL
structure Tog (L A : List Cl) : Prop where
  rise : A.Pairwise fun a b => HS.ltT a.ad b.ad = true
  mem : ∀ c, c ∈ A ↔ MaxIn L c
end Mi
namespace Co
open PySem L2 Mi
def ClH (H : Hp) (b a : Addr) (c : Cl) : Prop := H b = some (.tup [.ref a, .int c.ck, .str c.hd, .int c.nm]) ∧ H a = some (.tup (c.ad.map V.str))
theorem ClH.ts {H H' : Hp} {b a : Addr} {c : Cl} (h : ClH H b a c) (s : TS' H H') : ClH H' b a c := ⟨s _ _ h.1, s _ _ h.2⟩
abbrev crefs (cs : List (Addr × Addr × Cl)) : List V := cs.map fun x => V.ref x.1
def ClsIn (H : Hp) (cs : List (Addr × Addr × Cl)) : Prop := ∀ x ∈ cs, ClH H x.1 x.2.1 x.2.2
def ClsAt (H : Hp) (p : Addr) (L : List Cl) : Prop := ∃ cs : List (Addr × Addr × Cl), H p = some (.tup (crefs cs)) ∧ ClsIn H cs ∧ cs.map (·.2.2) = L
theorem ClsIn.ts {H H' : Hp} {cs : List (Addr × Addr × Cl)} (h : ClsIn H cs) (s : TS' H H') : ClsIn H' cs := fun x hx => (h x hx).ts s
theorem ClsAt.ts {H H' : Hp} {p : Addr} {L : List Cl} (h : ClsAt H p L) (s : TS' H H') : ClsAt H' p L := by
  obtain ⟨cs, h1, h2, h3⟩ := h
  exact ⟨cs, s _ _ h1, h2.ts s, h3⟩
theorem ClsAt.same {H H' : Hp} {p : Addr} {L : List Cl} (h : ClsAt H p L) (s : Same H H') : ClsAt H' p L := h.ts s.ts
theorem dat_strs' {K : PySem.W.Frag} {H : Hp} : ∀ ts : List Str, AreDat K H (ts.map Dat.str) (ts.map V.str)
  | [] => rfl
  | t :: ts => ⟨_, _, rfl, rfl, dat_strs' ts⟩
theorem deeps0' : ∀ u : List Str, Dat.deeps (u.map Dat.str) = 0
  | [] => rfl
  | t :: u => by show max 0 (Dat.deeps (u.map Dat.str)) = 0; rw [deeps0' u]; rfl
theorem inrT_inj {a b : List Str} (h : (a.map Sum.inr : List Key) = b.map Sum.inr) : a = b := by
  have e := congrArg (List.map strK) h
  rw [List.map_map, List.map_map] at e
  have id' : ∀ l : List Str, l.map (strK ∘ (Sum.inr : Str → Key)) = l := fun l => by
    have : ∀ z ∈ l, (strK ∘ (Sum.inr : Str → Key)) z = z := fun z _ => rfl
    rw [List.map_congr_left this, List.map_id']
  rw [id', id'] at e
  exact e
theorem putKT_keys {kvs : List (List Key × V)} {us : List (List Str)} {u : List Str} {v : V} (h : kvs.map (·.1) = us.map fun t => t.map Sum.inr) :
    (putK kvs (u.map Sum.inr) v).map (·.1) = (if u ∈ us then us else us ++ [u]).map fun t => t.map Sum.inr := by
  have hany : (kvs.any fun kv => decide (kv.1 = u.map Sum.inr)) = decide (u ∈ us) := by
    rw [Bool.eq_iff_iff, List.any_eq_true, decide_eq_true_eq]
    constructor
    · rintro ⟨kv, hm, e⟩
      have hk : kv.1 ∈ kvs.map (·.1) := List.mem_map.mpr ⟨kv, hm, rfl⟩
      rw [h] at hk
      obtain ⟨t, ht, e2⟩ := List.mem_map.mp hk
      have e3 : kv.1 = u.map Sum.inr := by simpa using e
      rw [← inrT_inj (e2.trans e3)]
      exact ht
    · intro hu
      have hk : (u.map Sum.inr : List Key) ∈ us.map fun t => t.map Sum.inr := List.mem_map.mpr ⟨u, hu, rfl⟩
      rw [← h] at hk
      obtain ⟨kv, hm, e⟩ := List.mem_map.mp hk
      exact ⟨kv, hm, by simpa using e⟩
  unfold putK
  rw [hany]
  by_cases c : u ∈ us
  · rw [decide_eq_true c, if_pos rfl, if_pos c, List.map_map, ← h]
    refine List.map_congr_left fun kv _ => ?_
    show (if kv.1 = u.map Sum.inr then (kv.1, v) else kv).1 = kv.1
    split <;> rfl
  · rw [decide_eq_false c, if_neg Bool.false_ne_true, if_neg c, List.map_append, List.map_append, h]
    rfl
def LatAt (H : Hp) (d : Addr) (L : List Cl) (us : List (List Str)) : Prop := ∃ kvs : List (List Key × V), H d = some (.dT kvs) ∧ kvs.map (·.1) = (us.map fun t => t.map Sum.inr) ∧ us.Nodup ∧ us.length ≤ L.length ∧ (∀ u, u ∈ us ↔ ∃ c ∈ L, c.ad = u) ∧
  ∀ u, (u ∈ us → ∃ b a c, valV kvs (u.map Sum.inr) = some (.ref b) ∧ ClH H b a c ∧ MaxIn L c ∧ c.ad = u) ∧ (u ∉ us → valV kvs (u.map Sum.inr) = none)
theorem LatAt.nil {H : Hp} {d : Addr} (h : H d = some (.dT [])) : LatAt H d [] [] := ⟨[], h, rfl, List.nodup_nil, Nat.le_refl _, by simp, fun u => ⟨(fun z => by cases z), fun _ => rfl⟩⟩
theorem LatAt.same {H H' : Hp} {d : Addr} {L : List Cl} {us : List (List Str)} (h : LatAt H d L us) (s : Same H H') : LatAt H' d L us := by
  obtain ⟨kvs, h1, h2, h3, h4, h5, h6⟩ := h
  refine ⟨kvs, s _ _ h1, h2, h3, h4, h5, fun u => ⟨fun hu => ?_, (h6 u).2⟩⟩
  obtain ⟨b, a, c, e1, e2, e3⟩ := (h6 u).1 hu
  exact ⟨b, a, c, e1, e2.ts s.ts, e3⟩
theorem max_snoc_keep {L : List Cl} {x m : Cl} (hm : MaxIn L m) (h : m.ad = x.ad → ltC m x = false) : MaxIn (L ++ [x]) m := ⟨List.mem_append_left _ hm.1, fun d hd he => by
  rcases List.mem_append.mp hd with hd | hd
  · exact hm.2 d hd he
  · rw [List.mem_singleton.mp hd] at he ⊢; exact h he.symm⟩
theorem LatAt.skip {H : Hp} {d : Addr} {L : List Cl} {us : List (List Str)} (h : LatAt H d L us) {x m : Cl} (hm : MaxIn L m) (ha : m.ad = x.ad) (hl : ltC m x = false) : LatAt H d (L ++ [x]) us := by
  obtain ⟨kvs, h1, h2, h3, h4, h5, h6⟩ := h
  have hx : x.ad ∈ us := (h5 x.ad).mpr ⟨m, hm.1, ha⟩
  refine ⟨kvs, h1, h2, h3, by rw [List.length_append]; omega, fun u => ?_, fun u => ⟨fun hu => ?_, (h6 u).2⟩⟩
  · rw [h5]
    constructor
    · rintro ⟨c, hc, e⟩; exact ⟨c, List.mem_append_left _ hc, e⟩
    · rintro ⟨c, hc, e⟩
      rcases List.mem_append.mp hc with hc | hc
      · exact ⟨c, hc, e⟩
      · rw [List.mem_singleton.mp hc] at e; exact ⟨m, hm.1, ha.trans e⟩
  · obtain ⟨b, a, c, e1, e2, e3, e4⟩ := (h6 u).1 hu
    refine ⟨b, a, c, e1, e2, max_snoc_keep e3 fun he => ?_, e4⟩
    rw [MaxIn.uniq e3 hm (he.trans ha.symm)]
    exact hl
theorem LatAt.put {H : Hp} {d : Addr} {L : List Cl} {us : List (List Str)} (h : LatAt H d L us) {b a : Addr} {x : Cl} (hx : ClH H b a x) (hl : ∀ m, MaxIn L m → m.ad = x.ad → ltC m x = true) (hz : L.length ≤ 1000) :
    ∃ H', DPut H d (.ref a) (.ref b) H' ∧ LatAt H' d (L ++ [x]) (if x.ad ∈ us then us else us ++ [x.ad]) ∧ (∀ c o, c ≠ d → H c = some o → H' c = some o) ∧ ∀ kvs, H d = some (.dT kvs) → H' = upd H d (.dT (putK kvs (x.ad.map Sum.inr) (.ref b))) := by
  obtain ⟨kvs, h1, h2, h3, h4, h5, h6⟩ := h
  have hkl : kvs.length = us.length := by have := congrArg List.length h2; rw [List.length_map, List.length_map] at this; exact this
  have ek : (x.ad.map V.str) = ((x.ad.map Sum.inr : List Key).map kV) := by rw [List.map_map]; rfl
  have hk := hx.2
  rw [ek] at hk
  have ndT : TS' H (upd H d (.dT (putK kvs (x.ad.map Sum.inr) (.ref b)))) := fun c ys e => by rw [upd_ne (fun z => by rw [z, h1] at e; cases e)]; exact e
  have hmx : MaxIn (L ++ [x]) x := ⟨List.mem_append_right _ (by simp), fun e he hee => by
    rcases List.mem_append.mp he with he | he
    · obtain ⟨m, hm, em⟩ := max_ex L e.ad ⟨e, he, rfl⟩
      exact ltC_tr (hm.2 e he em.symm) (ltC_tot (hl m hm (em.trans hee)))
    · rw [List.mem_singleton.mp he]; exact ltC_irr _⟩
  refine ⟨_, DPut.t h1 hk (bigl _ (by omega)), ⟨_, upd_same, putKT_keys h2, ?_, ?_, fun u => ?_, fun u => ?_⟩, (fun c o hc e => by rw [upd_ne hc]; exact e), fun kvs' e => by rw [h1] at e; cases e; rfl⟩
  · by_cases c : x.ad ∈ us
    · rw [if_pos c]; exact h3
    · rw [if_neg c, List.nodup_append]
      exact ⟨h3, by simp, fun y hy z hz e => by rw [List.mem_singleton.mp hz] at e; exact c (e ▸ hy)⟩
  · rw [List.length_append, List.length_singleton]
    by_cases c : x.ad ∈ us
    · rw [if_pos c]; omega
    · rw [if_neg c, List.length_append, List.length_singleton]; omega
  · have base' : (∃ c ∈ L ++ [x], c.ad = u) ↔ u ∈ us ∨ u = x.ad := by
      rw [h5]
      constructor
      · rintro ⟨z, hz, e⟩
        rcases List.mem_append.mp hz with hz | hz
        · exact .inl ⟨z, hz, e⟩
        · rw [List.mem_singleton.mp hz] at e; exact .inr e.symm
      · rintro (⟨z, hz, e⟩ | e)
        · exact ⟨z, List.mem_append_left _ hz, e⟩
        · exact ⟨x, List.mem_append_right _ (by simp), e.symm⟩
    rw [base']
    by_cases c : x.ad ∈ us
    · rw [if_pos c]; exact ⟨.inl, fun h => h.elim id fun e => e ▸ c⟩
    · rw [if_neg c, List.mem_append, List.mem_singleton]
  · rw [valV_put]
    by_cases e : u = x.ad
    · subst e
      have c1 : (if ((x.ad.map Sum.inr : List Key) = x.ad.map Sum.inr) then some (V.ref b) else valV kvs (x.ad.map Sum.inr)) = some (V.ref b) := if_pos rfl
      rw [c1]
      refine ⟨fun _ => ⟨b, a, x, rfl, hx.ts ndT, hmx, rfl⟩, fun hn => absurd ?_ hn⟩
      by_cases c : x.ad ∈ us
      · rw [if_pos c]; exact c
      · rw [if_neg c]; exact List.mem_append_right _ (by simp)
    · rw [if_neg (fun z => e (inrT_inj z))]
      have hg : (u ∈ if x.ad ∈ us then us else us ++ [x.ad]) ↔ u ∈ us := by
        by_cases c : x.ad ∈ us
        · rw [if_pos c]
        · rw [if_neg c, List.mem_append, List.mem_singleton]
          exact ⟨fun h => h.elim id fun z => absurd z e, .inl⟩
      rw [hg]
      refine ⟨fun h => ?_, (h6 u).2⟩
      obtain ⟨b', a', c', e1, e2, e3, e4⟩ := (h6 u).1 h
      exact ⟨b', a', c', e1, e2.ts ndT, max_snoc_keep e3 fun he => absurd (e4.symm.trans he) e, e4⟩
theorem LatAt.get {H : Hp} {d a : Addr} {L : List Cl} {us : List (List Str)} (h : LatAt H d L us) {u : List Str} (ha : H a = some (.tup (u.map V.str))) :
    (u ∈ us ∧ ∃ b a' c, DGet H d (.ref a) (some (.ref b)) ∧ ClH H b a' c ∧ MaxIn L c ∧ c.ad = u) ∨ (u ∉ us ∧ DGet H d (.ref a) none) := by
  obtain ⟨kvs, h1, h2, h3, h4, h5, h6⟩ := h
  have ek : (u.map V.str) = ((u.map Sum.inr : List Key).map kV) := by rw [List.map_map]; rfl
  rw [ek] at ha
  have g := DGet.t h1 ha
  by_cases hu : u ∈ us
  · obtain ⟨b, a', c, e1, e2, e3, e4⟩ := (h6 u).1 hu
    rw [e1] at g
    exact .inl ⟨hu, b, a', c, g, e2, e3, e4⟩
  · rw [(h6 u).2 hu] at g
    exact .inr ⟨hu, g⟩
end Co
namespace Co
open PySem L2 Mi
def TupsH (H : Hp) (p : Addr) (T : List (List Str)) : Prop := ∃ rs : List (Addr × List Str), H p = some (.tup (rs.map fun r => V.ref r.1)) ∧ (∀ r ∈ rs, H r.1 = some (.tup (r.2.map V.str))) ∧ rs.map (·.2) = T
end Co
namespace Co
open PySem L2 Mi
def GotAt (H : Hp) (d : Addr) (us : List (List Str)) (Pc : Cl → Prop := fun c => 0 ≤ c.ck) : Prop := ∃ kvs : List (List Key × V), H d = some (.dT kvs) ∧ kvs.map (·.1) = (us.map fun t => t.map Sum.inr) ∧ us.Nodup ∧
  ∀ u, u ∈ us → ∃ b a c, valV kvs (u.map Sum.inr) = some (.ref b) ∧ ClH H b a c ∧ c.ad = u ∧ Pc c
theorem GotAt.nil {Pc : Cl → Prop} {H : Hp} {d : Addr} (h : H d = some (.dT [])) : GotAt H d [] Pc := ⟨[], h, rfl, List.nodup_nil, fun u z => by cases z⟩
theorem GotAt.ts {Pc : Cl → Prop} {H H' : Hp} {d : Addr} {us : List (List Str)} (h : GotAt H d us Pc) (s : TS' H H') (hd : ∀ kvs, H d = some (.dT kvs) → H' d = some (.dT kvs)) : GotAt H' d us Pc := by
  obtain ⟨kvs, h1, h2, h3, h6⟩ := h
  refine ⟨kvs, hd _ h1, h2, h3, fun u hu => ?_⟩
  obtain ⟨b, a, c, e1, e2, e3⟩ := h6 u hu
  exact ⟨b, a, c, e1, e2.ts s, e3⟩
theorem GotAt.same {Pc : Cl → Prop} {H H' : Hp} {d : Addr} {us : List (List Str)} (h : GotAt H d us Pc) (s : Same H H') : GotAt H' d us Pc := h.ts s.ts fun _ e => s _ _ e
theorem GotAt.put {Pc : Cl → Prop} {H : Hp} {d : Addr} {us : List (List Str)} (h : GotAt H d us Pc) {b a : Addr} {x : Cl} (hx : ClH H b a x) (h0 : Pc x) (hz : us.length ≤ 1000) :
    ∃ o, DPut H d (.ref a) (.ref b) (upd H d o) ∧ GotAt (upd H d o) d (if x.ad ∈ us then us else us ++ [x.ad]) Pc := by
  obtain ⟨kvs, h1, h2, h3, h6⟩ := h
  have hkl : kvs.length = us.length := by have := congrArg List.length h2; rw [List.length_map, List.length_map] at this; exact this
  have ek : (x.ad.map V.str) = ((x.ad.map Sum.inr : List Key).map kV) := by rw [List.map_map]; rfl
  have hk := hx.2
  rw [ek] at hk
  have ndT : TS' H (upd H d (.dT (putK kvs (x.ad.map Sum.inr) (.ref b)))) := fun c ys e => by rw [upd_ne (fun z => by rw [z, h1] at e; cases e)]; exact e
  refine ⟨_, DPut.t h1 hk (bigl _ (by omega)), _, upd_same, putKT_keys h2, ?_, fun u hu => ?_⟩
  · by_cases c : x.ad ∈ us
    · rw [if_pos c]; exact h3
    · rw [if_neg c, List.nodup_append]
      exact ⟨h3, by simp, fun y hy z hz e => by rw [List.mem_singleton.mp hz] at e; exact c (e ▸ hy)⟩
  · rw [valV_put]
    by_cases e : u = x.ad
    · subst e
      exact ⟨b, a, x, if_pos rfl, hx.ts ndT, rfl, h0⟩
    · rw [if_neg (fun z => e (inrT_inj z))]
      have hu' : u ∈ us := by
        by_cases c : x.ad ∈ us
        · rw [if_pos c] at hu; exact hu
        · rw [if_neg c] at hu
          exact (List.mem_append.mp hu).elim id fun z => absurd (List.mem_singleton.mp z) e
      obtain ⟨b', a', c', e1, e2, e3⟩ := h6 u hu'
      exact ⟨b', a', c', e1, e2.ts ndT, e3⟩
theorem GotAt.get {Pc : Cl → Prop} {H : Hp} {d a : Addr} {us : List (List Str)} (h : GotAt H d us Pc) {u : List Str} (hu : u ∈ us) (ha : H a = some (.tup (u.map V.str))) : ∃ b a' c, DGet H d (.ref a) (some (.ref b)) ∧ ClH H b a' c ∧ c.ad = u ∧ Pc c := by
  obtain ⟨kvs, h1, h2, h3, h6⟩ := h
  have ek : (u.map V.str) = ((u.map Sum.inr : List Key).map kV) := by rw [List.map_map]; rfl
  rw [ek] at ha
  obtain ⟨b, a', c, e1, e2, e3⟩ := h6 u hu
  have g := DGet.t h1 ha
  rw [e1] at g
  exact ⟨b, a', c, g, e2, e3⟩
end Co
namespace Co
open PySem L2 Mi
theorem compF_drw {J : It} {n : Nat} {te : TE} {fr : St} {H1 : Hp} {QD : Hp → Prop} (D : Addr) (V0 : Nat → V → Prop) (G : Nat → List V → Hp → Prop) (hn : n < sizeLine)
    (hgo : ∀ i H, i < n → J.go i H) (hyl : ∀ i H x H', i < n → J.yld i H x H' → H' = H ∧ V0 i x) (hst : ∀ H, J.stop n H)
    (g0 : G 0 [] (upd H1 D (.lst [])))
    (gs : ∀ i x ys H (R : VK), i < n → V0 i x → G i ys H → H D = some (.lst ys) → (∀ y H6, H6 D = some (.lst ys) → G (i + 1) (ys ++ [y]) (upd H6 D (.lst (ys ++ [y]))) → R y H6) → te (some x :: fr) H R)
    (hd : ∀ ys H, G n ys H → H D = some (.lst ys) → QD H) :
    ∃ W : Nat → Nat → List V → Hp → Prop, (∃ m, W 0 m [] (upd H1 D (.lst []))) ∧ ∀ i m ys H2, W i m ys H2 → H2 D = some (.lst ys) ∧
      ((J.stop i H2 ∧ QD H2) ∨ (J.go i H2 ∧ ∀ x H3, J.yld i H2 x H3 → ∀ pre : St, pre.length = 1 → gName 0 x (pre ++ fr) H3 fun σ4 H4 => (∃ pre' : St, pre'.length = 1 ∧ σ4 = pre' ++ fr) ∧
        tTrue σ4 H4 fun b H5 => if b = true then te σ4 H5 (fun y H6 => H6 D = some (.lst ys) ∧ ys.length < sizeLine ∧ ∃ m', m' < m ∧ W (i + 1) m' (ys ++ [y]) (upd H6 D (.lst (ys ++ [y])))) else ∃ m', m' < m ∧ W (i + 1) m' ys H5)) := by
  refine ⟨fun i m ys H2 => m = n - i ∧ i ≤ n ∧ ys.length = i ∧ H2 D = some (.lst ys) ∧ G i ys H2, ⟨n, by simp, Nat.zero_le _, rfl, upd_same, g0⟩, ?_⟩
  rintro i m ys H2 ⟨rfl, hi, hl, hD2, g⟩
  refine ⟨hD2, ?_⟩
  by_cases hlt : i < n
  · refine .inr ⟨hgo i H2 hlt, fun x H3 y pre hpre => ?_⟩
    obtain ⟨rfl, hv⟩ := hyl i H2 x H3 hlt y
    obtain ⟨v0, rfl⟩ : ∃ v0, pre = [v0] := by
      cases pre with
      | nil => simp at hpre
      | cons v r => cases r with
        | nil => exact ⟨v, rfl⟩
        | cons _ _ => simp at hpre
    refine ⟨⟨[some x], rfl, rfl⟩, ?_⟩
    unfold tTrue
    dsimp only
    refine iteT (gs i x ys H3 _ hlt hv g hD2 fun y H6 q1 q2 => ?_)
    exact ⟨q1, by omega, n - (i + 1), by omega, rfl, hlt, by rw [List.length_append, hl]; rfl, upd_same, q2⟩
  · have e : i = n := by omega
    subst e
    exact .inl ⟨hst H2, hd ys H2 g hD2⟩
theorem _root_.Mi.Tog.sub {L A : List Cl} (h : Tog L A) {c : Cl} (hc : c ∈ A) : c ∈ L := ((h.mem c).mp hc).1
end Co
namespace Co
open PySem L2 Mi
end Co
namespace Co
open PySem L2 Mi
theorem TupsH.ts {H H' : Hp} {p : Addr} {T : List (List Str)} (h : TupsH H p T) (s : TS' H H') : TupsH H' p T := by
  obtain ⟨rs, h1, h2, h3⟩ := h
  exact ⟨rs, s _ _ h1, fun r hr => s _ _ (h2 r hr), h3⟩
theorem TupsH.same {H H' : Hp} {p : Addr} {T : List (List Str)} (h : TupsH H p T) (s : Same H H') : TupsH H' p T := h.ts s.ts
end Co
namespace HK
open PySem
section
variable {prog : Program} {w : World} {A : Around} {R : Result → Shared → Prop} {I : Addr} {fp wr : List Addr} {n : Nat} {P : Nat → Value → Prop} {St : Nat → Heap → Prop} {Kp : Shared → Prop}
end
section
variable {prog : Program} {w : World} {A : Around} {E : Value → Shared → Prop} {s : Shared}
end
end HK
namespace HL
open PySem PySem.SeqAt
open AutoSeq1 (wpAny_loadPart')
open MeetsSeq MeetsSeq2 MeetsSeq3
def GtAt (A : Around) (s : Shared) (y x : Value) (b : Bool) : Prop :=
  ∀ (prog : Program) (w : World) (E : Value → Shared → Prop) (Q : Value → Shared → Prop), Q (.bool b) s → wpAny (model prog w) A (richCompare .Gt y x) Q E s
theorem tuple_gtAt (p q : Addr) (xs ys : Array Value) (n n2 : Nat) (dp dq : Option Addr) (sp sq : Array (Option Value)) (e g : Nat → Bool) :
    Meets (Builtin.«tuple.__gt__» ⟨[.ref p, .ref q], []⟩)
      (fun A R s => s.heap.get? p = some { cls := .type "tuple", dict := dp, data := .seq xs n, slots := sp } ∧ s.heap.get? q = some { cls := .type "tuple", dict := dq, data := .seq ys n2, slots := sq } ∧
        (∀ j (h1 : j < xs.size) (h2 : j < ys.size), EqAt A.in1 s xs[j] ys[j] (e j)) ∧ (∀ j (h1 : j < xs.size) (h2 : j < ys.size), e j = false → GtAt A.in1 s xs[j] ys[j] (g j)) ∧
        R (.ok (.ret (.bool (lexB e g (decide (ys.size < xs.size)) (List.range (min xs.size ys.size)))))) s) :=
  .of_wp fun prog w A R s h => by
    obtain ⟨hp, gs, d, tk, os⟩ := s; obtain ⟨g1, g2, he, hg, h⟩ := h
    have sub := AutoSeq1.sub_tuple_tuple
    have hZ : (xs.toList.zip ys.toList).length = min xs.size ys.size := by simp
    wp_walk using wpAny_loadPart' g1, wpAny_loadPart' g2, wpAny_forIn_list _ (fun rest b s' => b.1 = none ∧ s' = ⟨hp, gs, d, tk, os⟩ ∧ ∃ i, rest = (xs.toList.zip ys.toList).drop i ∧
      R (.ok (.ret (.bool (lexB e g (decide (ys.size < xs.size)) ((List.range (min xs.size ys.size)).drop i))))) ⟨hp, gs, d, tk, os⟩) _
    case turn =>
      rintro ⟨y, x⟩ rest b s' ⟨hb', rfl, i, hz, hR⟩
      have hlt : i < (xs.toList.zip ys.toList).length := Nat.lt_of_not_le fun z => by rw [List.drop_of_length_le z] at hz; cases hz
      have hm : i < min xs.size ys.size := hZ ▸ hlt
      have h1 : i < xs.size := by omega
      have h2 : i < ys.size := by omega
      rw [List.drop_eq_getElem_cons hlt] at hz
      injection hz with hyx hrest
      obtain rfl : y = xs[i] := by simpa using congrArg Prod.fst hyx
      obtain rfl : x = ys[i] := by simpa using congrArg Prod.snd hyx
      have hd : (List.range (min xs.size ys.size)).drop i = i :: (List.range (min xs.size ys.size)).drop (i + 1) := by simp [List.drop_eq_getElem_cons, hm]
      rw [hd] at hR
      have step : lexB e g (decide (ys.size < xs.size)) (i :: (List.range (min xs.size ys.size)).drop (i + 1)) = if e i = true then lexB e g (decide (ys.size < xs.size)) ((List.range (min xs.size ys.size)).drop (i + 1)) else g i := rfl
      rw [step] at hR
      refine wpAny_bind (he i h1 h2 prog w _ _ ?_)
      cases hy : e i with
      | true =>
        rw [hy] at hR
        wp_walk
        exact ⟨rfl, rfl, i + 1, hrest, by simpa using hR⟩
      | false =>
        rw [hy] at hR
        have hg' := hg i h1 h2 hy
        simp only [Bool.not_false, if_true]
        exact wpAny_bind (wpAny_rule (wpAny_bind (hg' prog w _ _ (wpAny_bind (wpAny_pure (wpAny_pure (wpAny_pure ⟨_, rfl, by simpa using hR⟩)))))))
    case fin =>
      rintro ⟨b1, b2⟩ s' ⟨hb', rfl, i, hz, hR⟩
      simp only at hb'
      subst hb'
      have hge : min xs.size ys.size ≤ i := Nat.le_of_not_lt fun z => by
        rw [List.drop_eq_getElem_cons (hZ.symm ▸ z)] at hz; cases hz
      rw [List.drop_of_length_le (by simpa using hge)] at hR
      wp_walk
      exact ⟨_, rfl, by simpa [Builtin.Tuple.tupleCompareSizes, lexB] using hR⟩
    case h =>
      exact ⟨rfl, rfl, 0, rfl, by simpa using h⟩
section
variable {A : Around} {s : Shared}
theorem GtAt.tuples {p q : Addr} {xs ys : Array Value} {e g : Nat → Bool} (hp : s.heap.IsTuple p xs) (hq : s.heap.IsTuple q ys) (hu : A.units < cLine)
    (he : ∀ j (h1 : j < xs.size) (h2 : j < ys.size), EqAt A.in1 s xs[j] ys[j] (e j)) (hg : ∀ j (h1 : j < xs.size) (h2 : j < ys.size), e j = false → GtAt A.in1 s xs[j] ys[j] (g j)) :
    GtAt A s (.ref p) (.ref q) (lexB e g (decide (ys.size < xs.size)) (List.range (min xs.size ys.size))) := fun prog w E Q h => by
  obtain ⟨⟨c1, d1, da1, s1⟩, o1, k1, n1, e1⟩ := id hp
  obtain ⟨⟨c2, d2, da2, s2⟩, o2, k2, n2, e2⟩ := id hq
  simp only at k1 e1 k2 e2
  subst k1 e1 k2 e2
  exact richCompare_meets_room (op := .Gt) ⟨_, o1, rfl⟩ ⟨_, o2, rfl⟩ F.slot_tuple_gt F.entry_tuple_gt (F.args_tuple_gt_2 _ _) (tuple_gtAt p q xs ys n1 n2 d1 d2 s1 s2 e g)
    ⟨o1, o2, he, hg, show Value.bool (lexB e g (decide (ys.size < xs.size)) (List.range (min xs.size ys.size))) ≠ Value.notImplemented ∧ Q _ s from ⟨(fun x => nomatch x), h⟩⟩ hu
theorem GtAt.int (a : Int) (t : Tok) (b : Int) (u : Tok) : GtAt A s (.int a t) (.int b u) (decide (b < a)) := fun _ _ _ _ h => PyProof.Rows.gt_int h
theorem GtAt.str (a : Str) (t : Tok) (b : Str) (u : Tok) : GtAt A s (.str a t) (.str b u) (decide (b.cps.toList < a.cps.toList)) := fun _ _ _ _ h => PySem.P.gt_str h
end
end HL
namespace L2
open PySem PySem.Spec PyProof.Rows HL
mutual
theorem dat_eq_of : ∀ {d e : Dat}, Dat.beq d e = true → d = e
  | .non, .non, _ => rfl
  | .int i, .int j, h => by rw [show i = j from eq_of_beq h]
  | .str i, .str j, h => by rw [show i = j from eq_of_beq h]
  | .tup ds, .tup es, h => by rw [dats_eq_of (ds := ds) (es := es) h]
  | .non, .int _, h => by cases h
  | .non, .str _, h => by cases h
  | .non, .tup _, h => by cases h
  | .int _, .non, h => by cases h
  | .int _, .str _, h => by cases h
  | .int _, .tup _, h => by cases h
  | .str _, .non, h => by cases h
  | .str _, .int _, h => by cases h
  | .str _, .tup _, h => by cases h
  | .tup _, .non, h => by cases h
  | .tup _, .int _, h => by cases h
  | .tup _, .str _, h => by cases h
theorem dats_eq_of : ∀ {ds es : List Dat}, Dat.beqs ds es = true → ds = es
  | [], [], _ => rfl
  | d :: ds, e :: es, h => by
    have h' : (Dat.beq d e && Dat.beqs ds es) = true := h
    rw [Bool.and_eq_true] at h'
    rw [dat_eq_of h'.1, dats_eq_of h'.2]
  | [], _ :: _, h => by cases h
  | _ :: _, [], h => by cases h
end
theorem beqs_iff {ds es : List Dat} : Dat.beqs ds es = true ↔ ds = es := ⟨dats_eq_of, fun h => h ▸ beqs_refl ds⟩
section
variable {X : Cx} {pins : List (Addr × Obj)} {σ : St} {H : Hp} {s : Shared}
end
end L2
namespace L2
open PySem PySem.Spec PyProof.Rows HL
section
variable {X : Cx}
theorem dats_any {H : Hp} {e : Dat} {f : Value → Bool} : ∀ {ds : List Dat} {xs : List V} {its : List Value}, AreDat X.K H ds xs → Vals xs its → (∀ d x u, d ∈ ds → IsDat X.K H d x → RelV x u → u ∈ its → f u = Dat.beq d e) → its.any f = ds.any fun d => Dat.beq d e
  | [], _, _, h, r, _ => by rw [show _ = [] from h] at r; cases r; rfl
  | d :: ds, _, _, ⟨y, ys, e1, h1, h2⟩, r, hf => by
    subst e1
    cases r with
    | cons r1 r2 =>
      rw [List.any_cons, List.any_cons, hf d y _ (List.mem_cons_self ..) h1 r1 (List.mem_cons_self ..), dats_any h2 r2 fun d' x' u' hd hi hr hu => hf d' x' u' (List.mem_cons_of_mem _ hd) hi hr (List.mem_cons_of_mem _ hu)]
theorem dats_get {H : Hp} : ∀ {ds : List Dat} {xs : List V} {its : List Value} {u : Value}, AreDat X.K H ds xs → Vals xs its → u ∈ its → ∃ d x, d ∈ ds ∧ IsDat X.K H d x ∧ RelV x u
  | [], _, _, _, h, r, hu => by rw [show _ = [] from h] at r; cases r; cases hu
  | d :: ds, _, _, u, ⟨y, ys, e1, h1, h2⟩, r, hu => by
    subst e1
    cases r with
    | cons r1 r2 =>
      rcases List.mem_cons.mp hu with rfl | hu
      · exact ⟨d, y, List.mem_cons_self .., h1, r1⟩
      · obtain ⟨d', x', hm, hi, hr⟩ := dats_get h2 r2 hu
        exact ⟨d', x', List.mem_cons_of_mem _ hm, hi, hr⟩
def rInD (K : PySem.W.Frag) (neg : Bool) : R2 := fun x y H Q => ∃ p ds es xs, IsDat K H es x ∧ y = .ref p ∧ (SqL K H p xs ∨ SqT K H p xs) ∧ AreDat K H ds xs ∧ Dat.deeps ds ≤ 6 ∧ Q (.bl (if neg then !(ds.any fun d => Dat.beq d es) else ds.any fun d => Dat.beq d es)) H
open Classical in
theorem in_D (neg : Bool) (hu : X.A.units + 8 < cLine) : OpR X (compareOp (if neg then .NotIn else .In)) (rInD X.K neg) := by
  intro pins s σ H x y v u Q I rx ry h
  obtain ⟨p, ds, es, xs, he, rfl, hq, hd, hdp, q⟩ := h
  cases ry
  have key : ∀ {its : List Value}, Vals xs its → ∃ f : Value → Bool, (∀ u ∈ its, SeqAt.EqAt X.A.in1 s u v (f u)) ∧ its.any f = ds.any fun d => Dat.beq d es := fun {its} r => by
    let f : Value → Bool := fun u => decide (∃ d x, d ∈ ds ∧ IsDat X.K H d x ∧ RelV x u ∧ Dat.beq d es = true)
    have fE : ∀ u d x, d ∈ ds → IsDat X.K H d x → RelV x u → f u = Dat.beq d es := fun u d x hm hi hr => by
      cases hb : Dat.beq d es with
      | true => exact decide_eq_true ⟨d, x, hm, hi, hr, hb⟩
      | false =>
        refine decide_eq_false ?_
        rintro ⟨d', x', hm', hi', hr', hb'⟩
        have e' := dat_eq_of hb'
        subst e'
        have ex := RelV.inj hr hr'
        subst ex
        have := dat_det I hi hi'
        rw [hb] at this
        cases this
    refine ⟨f, fun u hu' => ?_, dats_any hd r fun d x u hm hi hr _ => fE u d x hm hi hr⟩
    obtain ⟨d, x', hm, hi, hr⟩ := dats_get hd r hu'
    rw [fE u d x' hm hi hr]
    exact dat_eqAt I 6 X.A.in1 (Nat.le_trans (deep_at hm) hdp) (by show X.A.units + 1 + 6 < cLine; omega) hi he hr rx
  cases neg
  · rcases hq with hq | hq
    · obtain ⟨its, r, pl, hz⟩ := I.list hq
      obtain ⟨f, f1, f2⟩ := key r
      refine SeqAt.in_listAt f pl.isList (fun w hw => f1 w (by simpa using hw)) ⟨.bl _, H, I, rfl, ?_⟩
      rw [show its.toArray.any f = its.any f by simp, f2]
      exact q
    · obtain ⟨its, r, pl, hz⟩ := I.tuple hq
      obtain ⟨f, f1, f2⟩ := key r
      refine SeqAt.in_tupleAt f pl (fun w hw => f1 w (by simpa using hw)) ⟨.bl _, H, I, rfl, ?_⟩
      rw [show its.toArray.any f = its.any f by simp, f2]
      exact q
  · rcases hq with hq | hq
    · obtain ⟨its, r, pl, hz⟩ := I.list hq
      obtain ⟨f, f1, f2⟩ := key r
      refine SeqAt.notIn_listAt f pl.isList (fun w hw => f1 w (by simpa using hw)) ⟨.bl _, H, I, rfl, ?_⟩
      rw [show its.toArray.any f = its.any f by simp, f2]
      exact q
    · obtain ⟨its, r, pl, hz⟩ := I.tuple hq
      obtain ⟨f, f1, f2⟩ := key r
      refine SeqAt.notIn_tupleAt f pl (fun w hw => f1 w (by simpa using hw)) ⟨.bl _, H, I, rfl, ?_⟩
      rw [show its.toArray.any f = its.any f by simp, f2]
      exact q
theorem op_inD (hu : X.A.units + 8 < cLine) : OpR X (compareOp .In) (rInD X.K false) := in_D false hu
theorem op_notInD (hu : X.A.units + 8 < cLine) : OpR X (compareOp .NotIn) (rInD X.K true) := in_D true hu
end
end L2
namespace L2
open PySem PySem.Spec PyProof.Rows HL
section
variable {X : Cx}
end
end L2
namespace HM
open PySem
section
variable {prog : Program} {w : World} {A : Around} {E : Value → Shared → Prop} {s : Shared}
end
end HM
namespace L2
open PySem PySem.Spec PyProof.Rows
section
variable {X : Cx}
end
end L2
namespace L2
open PySem PySem.Spec PyProof.Rows
section
variable {X : Cx}
end
theorem deeps_map {α : Type} {f : α → Dat} {n : Nat} : ∀ {L : List α}, (∀ x ∈ L, Dat.deep (f x) ≤ n) → Dat.deeps (L.map f) ≤ n
  | [], _ => Nat.zero_le _
  | x :: L, h => by
    show max (Dat.deep (f x)) (Dat.deeps (L.map f)) ≤ n
    exact Nat.max_le.mpr ⟨h x (List.mem_cons_self ..), deeps_map fun y hy => h y (List.mem_cons_of_mem _ hy)⟩
theorem are_map {α : Type} {K : PySem.W.Frag} {H : Hp} {f : α → Dat} {g : α → V} : ∀ {L : List α}, (∀ x ∈ L, IsDat K H (f x) (g x)) → AreDat K H (L.map f) (L.map g)
  | [], _ => rfl
  | x :: L, h => ⟨_, _, rfl, h x (List.mem_cons_self ..), are_map fun y hy => h y (List.mem_cons_of_mem _ hy)⟩
end L2
namespace Co
open PySem L2 Mi
theorem tup_beq (u v : List Str) : Dat.beqs (u.map Dat.str) (v.map Dat.str) = decide (u = v) := by
  rw [Bool.eq_iff_iff, beqs_iff, decide_eq_true_eq]
  constructor
  · intro h
    have e := congrArg (List.map fun d => match d with | Dat.str x => x | _ => ("" : Str)) h
    rw [List.map_map, List.map_map] at e
    have id' : ∀ l : List Str, l.map ((fun d => match d with | Dat.str x => x | _ => ("" : Str)) ∘ Dat.str) = l := fun l => by
      have : ∀ z ∈ l, ((fun d => match d with | Dat.str x => x | _ => ("" : Str)) ∘ Dat.str) z = z := fun z _ => rfl
      rw [List.map_congr_left this, List.map_id']
    rw [id', id'] at e
    exact e
  · rintro rfl; rfl
theorem str_dat {K : PySem.W.Frag} {H : Hp} {a : Addr} {u : List Str} (h : H a = some (.tup (u.map V.str))) : IsDat K H (tupD u) (.ref a) := ⟨a, _, rfl, SqT.of h, dat_strs' u⟩
end Co
namespace Co
open PySem L2 Mi
end Co
namespace Co
open PySem L2 Mi
end Co
namespace Co
open PySem L2 Mi
end Co
namespace L2
open PySem PySem.Spec PyProof.Rows
section
variable {X : Cx} {k : Nat} {f : Addr} {fd : FuncData} {ps : List Str} {sp : Sp} {E : XK}
theorem FpOk.with {pins : List (Addr × Obj)} {H : Hp} {b : Addr} (h : FpOk X pins H b) : FpOk X pins H b := h
end
end L2
namespace L2
open PySem PySem.Spec PyProof.Rows
section
variable {X : Cx} {k : Nat} {f : Addr} {fd : FuncData} {ps : List Str} {sp : Sp} {E : XK}
end
end L2
namespace L2
open PySem PySem.Spec PyProof.Rows
section
variable {X : Cx} {tg : Expr}
end
end L2
namespace L2
open PySem PySem.Spec PyProof.Rows
section
variable {X : Cx}
end
end L2
namespace L2
open PySem PySem.Spec PyProof.Rows
section
variable {X : Cx}
end
end L2
namespace Mi
open PySem L2
abbrev Rl := List Str × List Str
def fits (a : List Str) (r : Rl) : Bool := decide (a.take r.1.length = r.1)
def Best (R : List Rl) (a : List Str) (r : Rl) : Prop := r ∈ R ∧ fits a r = true ∧ ∀ q ∈ R, fits a q = true → q.1.length ≤ r.1.length
theorem Best.congr {R S : List Rl} {a : List Str} {r : Rl} (h : ∀ x, x ∈ R ↔ x ∈ S) (b : Best R a r) : Best S a r := ⟨(h r).mp b.1, b.2.1, fun q hq => b.2.2 q ((h q).mpr hq)⟩
def rest (R : List Rl) (b : List Str) : List Rl := R.filter fun r => !decide (r.1 = b)
end Mi
namespace L2
open PySem PySem.Spec PyProof.Rows
section
variable {X : Cx} {tg : Expr}
end
end L2
namespace Co
open PySem L2 Mi
theorem compF_gen {α : Type} {J : It} {rs : List α} (gv : α → V) {tt : TT} {te : TE} {fr : St} {H1 : Hp} {QD : Hp → Prop} (f : α → V) (p : α → Bool) (D : Addr) (hD : H1 D = none) (T : Tells J H1 (rs.map gv)) (hz : rs.length < sizeLine)
    (ht : ∀ r H R, r ∈ rs → Same H1 H → (∀ H', Same H H' → R (p r) H') → tt (some (gv r) :: fr) H R)
    (he : ∀ r H R, r ∈ rs → p r = true → Same H1 H → (∀ H', Same H H' → R (f r) H') → te (some (gv r) :: fr) H R)
    (hd : ∀ H', Same H1 H' → H' D = some (.lst ((rs.filter p).map f)) → QD H') :
    ∃ W : Nat → Nat → List V → Hp → Prop, (∃ m, W 0 m [] (upd H1 D (.lst []))) ∧ ∀ i m ys H2, W i m ys H2 → H2 D = some (.lst ys) ∧
      ((J.stop i H2 ∧ QD H2) ∨ (J.go i H2 ∧ ∀ x H3, J.yld i H2 x H3 → ∀ pre : St, pre.length = 1 → gName 0 x (pre ++ fr) H3 fun σ4 H4 => (∃ pre' : St, pre'.length = 1 ∧ σ4 = pre' ++ fr) ∧
        tt σ4 H4 fun b H5 => if b = true then te σ4 H5 (fun y H6 => H6 D = some (.lst ys) ∧ ys.length < sizeLine ∧ ∃ m', m' < m ∧ W (i + 1) m' (ys ++ [y]) (upd H6 D (.lst (ys ++ [y])))) else ∃ m', m' < m ∧ W (i + 1) m' ys H5)) := by
  refine ⟨fun i m ys H2 => m = rs.length - i ∧ i ≤ rs.length ∧ ys = ((rs.take i).filter p).map f ∧ H2 D = some (.lst ys) ∧ Same H1 H2, ⟨rs.length, by simp, Nat.zero_le _, by simp, upd_same, Same.new hD _⟩, ?_⟩
  rintro i m ys H2 ⟨rfl, hi, rfl, hD2, sm⟩
  refine ⟨hD2, ?_⟩
  by_cases hlt : i < rs.length
  · refine .inr ⟨T.go H2 i sm (by rw [List.length_map]; exact hlt), fun x H3 y pre hpre => ?_⟩
    obtain ⟨rfl, hx⟩ := T.yld H2 i x H3 sm y
    rw [List.getElem?_map, List.getElem?_eq_getElem hlt] at hx
    cases hx
    have hm : rs[i] ∈ rs := List.getElem_mem hlt
    obtain ⟨a0, rfl⟩ : ∃ a0, pre = [a0] := by
      cases pre with
      | nil => simp at hpre
      | cons a0 r => cases r with
        | nil => exact ⟨a0, rfl⟩
        | cons _ _ => simp at hpre
    refine ⟨⟨[some (gv rs[i])], rfl, rfl⟩, ?_⟩
    have htk : (rs.take (i + 1)).filter p = (rs.take i).filter p ++ (if p rs[i] = true then [rs[i]] else []) := by
      rw [List.take_add_one, List.getElem?_eq_getElem hlt, List.filter_append]
      cases hp : p rs[i] <;> simp [hp]
    refine ht rs[i] H3 _ hm sm fun H5 s5 => ?_
    cases hp : p rs[i] with
    | false =>
      rw [hp, if_neg Bool.false_ne_true, List.append_nil] at htk
      exact iteF ⟨rs.length - (i + 1), by omega, rfl, hlt, by rw [htk], s5 _ _ hD2, sm.trans s5⟩
    | true =>
      rw [hp, if_pos rfl] at htk
      refine iteT (he rs[i] H5 _ hm hp (sm.trans s5) fun H6 s6 => ?_)
      have hl : (((rs.take i).filter p).map f).length ≤ i := by
        rw [List.length_map]
        refine Nat.le_trans (List.length_filter_le _ _) ?_
        rw [List.length_take]; omega
      refine ⟨s6 _ _ (s5 _ _ hD2), by omega, rs.length - (i + 1), by omega, rfl, hlt, ?_, upd_same, ?_⟩
      · rw [htk, List.map_append]; rfl
      · intro b o e
        have hb : b ≠ D := ne_of_none e hD
        rw [upd_ne hb]
        exact s6 _ _ (s5 _ _ (sm _ _ e))
  · have e : i = rs.length := by omega
    subst e
    rw [List.take_length] at hD2
    have hst := T.stop H2 sm
    rw [List.length_map] at hst
    exact .inl ⟨hst, hd H2 sm hD2⟩
abbrev TupA (H : Hp) (a : Addr) (u : List Str) : Prop := H a = some (.tup (u.map V.str))
abbrev Rx := Addr × Addr × Addr × Rl
def RlH (H : Hp) (x : Rx) : Prop := H x.1 = some (.tup [.ref x.2.1, .ref x.2.2.1]) ∧ TupA H x.2.1 x.2.2.2.1 ∧ TupA H x.2.2.1 x.2.2.2.2
theorem RlH.ts {H H' : Hp} {x : Rx} (h : RlH H x) (s : TS' H H') : RlH H' x := ⟨s _ _ h.1, s _ _ h.2.1, s _ _ h.2.2⟩
def RlsIn (H : Hp) (rs : List Rx) : Prop := ∀ x ∈ rs, RlH H x
theorem RlsIn.ts {H H' : Hp} {rs : List Rx} (h : RlsIn H rs) (s : TS' H H') : RlsIn H' rs := fun x hx => (h x hx).ts s
abbrev rrefs (rs : List Rx) : List V := rs.map fun x => V.ref x.1
def RlsAt (H : Hp) (p : Addr) (R : List Rl) : Prop := ∃ rs : List Rx, H p = some (.tup (rrefs rs)) ∧ RlsIn H rs ∧ rs.map (·.2.2.2) = R
def RlsSq (H : Hp) (p : Addr) (rs : List Rx) : Prop := H p = some (.tup (rrefs rs)) ∨ H p = some (.lst (rrefs rs))
theorem RlsAt.ts {H H' : Hp} {p : Addr} {R : List Rl} (h : RlsAt H p R) (s : TS' H H') : RlsAt H' p R := by
  obtain ⟨rs, h1, h2, h3⟩ := h
  exact ⟨rs, s _ _ h1, h2.ts s, h3⟩
theorem RlsAt.same {H H' : Hp} {p : Addr} {R : List Rl} (h : RlsAt H p R) (s : Same H H') : RlsAt H' p R := h.ts s.ts
theorem RlsSq.same {H H' : Hp} {p : Addr} {rs : List Rx} (h : RlsSq H p rs) (s : Same H H') : RlsSq H' p rs := h.elim (fun h => .inl (s _ _ h)) fun h => .inr (s _ _ h)
theorem cut_fromS (u : List Str) (k : Nat) : cutV (u.map V.str) (some (k : Int)) none = (u.drop k).map V.str := by rw [cut_from, List.map_drop]
end Co
namespace Co
open PySem L2 Mi
theorem compF_gen2 {α : Type} {K : PySem.W.Frag} {J : It} {rs : List α} (gv : α → Addr) (v1 v2 : α → V) {tt : TT} {te : TE} {fr : St} {H1 : Hp} {QD : Hp → Prop} (f : α → V) (p : α → Bool) (D : Addr) (hD : H1 D = none) (T : Tells J H1 (rs.map fun r => V.ref (gv r))) (hpr : ∀ r ∈ rs, H1 (gv r) = some (.tup [v1 r, v2 r])) (hz : rs.length < sizeLine)
    (ht : ∀ r H R, r ∈ rs → Same H1 H → (∀ H', Same H H' → R (p r) H') → tt (some (v1 r) :: some (v2 r) :: fr) H R)
    (he : ∀ r H R, r ∈ rs → p r = true → Same H1 H → (∀ H', Same H H' → R (f r) H') → te (some (v1 r) :: some (v2 r) :: fr) H R)
    (hd : ∀ H', Same H1 H' → H' D = some (.lst ((rs.filter p).map f)) → QD H') :
    ∃ W : Nat → Nat → List V → Hp → Prop, (∃ m, W 0 m [] (upd H1 D (.lst []))) ∧ ∀ i m ys H2, W i m ys H2 → H2 D = some (.lst ys) ∧
      ((J.stop i H2 ∧ QD H2) ∨ (J.go i H2 ∧ ∀ x H3, J.yld i H2 x H3 → ∀ pre : St, pre.length = 2 → gTup K 2 (gCons (gName 0) (gCons (gName 1) gNil)) x (pre ++ fr) H3 fun σ4 H4 => (∃ pre' : St, pre'.length = 2 ∧ σ4 = pre' ++ fr) ∧
        tt σ4 H4 fun b H5 => if b = true then te σ4 H5 (fun y H6 => H6 D = some (.lst ys) ∧ ys.length < sizeLine ∧ ∃ m', m' < m ∧ W (i + 1) m' (ys ++ [y]) (upd H6 D (.lst (ys ++ [y])))) else ∃ m', m' < m ∧ W (i + 1) m' ys H5)) := by
  refine ⟨fun i m ys H2 => m = rs.length - i ∧ i ≤ rs.length ∧ ys = ((rs.take i).filter p).map f ∧ H2 D = some (.lst ys) ∧ Same H1 H2, ⟨rs.length, by simp, Nat.zero_le _, by simp, upd_same, Same.new hD _⟩, ?_⟩
  rintro i m ys H2 ⟨rfl, hi, rfl, hD2, sm⟩
  refine ⟨hD2, ?_⟩
  by_cases hlt : i < rs.length
  · refine .inr ⟨T.go H2 i sm (by rw [List.length_map]; exact hlt), fun x H3 y pre hpre => ?_⟩
    obtain ⟨rfl, hx⟩ := T.yld H2 i x H3 sm y
    rw [List.getElem?_map, List.getElem?_eq_getElem hlt] at hx
    cases hx
    have hm : rs[i] ∈ rs := List.getElem_mem hlt
    obtain ⟨a0, a1, rfl⟩ : ∃ a0 a1, pre = [a0, a1] := by
      cases pre with
      | nil => simp at hpre
      | cons a0 r => cases r with
        | nil => simp at hpre
        | cons a1 r => cases r with
          | nil => exact ⟨a0, a1, rfl⟩
          | cons _ _ => simp at hpre
    refine ⟨gv rs[i], _, rfl, SqT.of (sm _ _ (hpr _ hm)), rfl, _, _, rfl, _, _, rfl, rfl, ⟨[some (v1 rs[i]), some (v2 rs[i])], rfl, rfl⟩, ?_⟩
    have htk : (rs.take (i + 1)).filter p = (rs.take i).filter p ++ (if p rs[i] = true then [rs[i]] else []) := by
      rw [List.take_add_one, List.getElem?_eq_getElem hlt, List.filter_append]
      cases hp : p rs[i] <;> simp [hp]
    refine ht rs[i] H3 _ hm sm fun H5 s5 => ?_
    cases hp : p rs[i] with
    | false =>
      rw [hp, if_neg Bool.false_ne_true, List.append_nil] at htk
      exact iteF ⟨rs.length - (i + 1), by omega, rfl, hlt, by rw [htk], s5 _ _ hD2, sm.trans s5⟩
    | true =>
      rw [hp, if_pos rfl] at htk
      refine iteT (he rs[i] H5 _ hm hp (sm.trans s5) fun H6 s6 => ?_)
      have hl : (((rs.take i).filter p).map f).length ≤ i := by
        rw [List.length_map]
        refine Nat.le_trans (List.length_filter_le _ _) ?_
        rw [List.length_take]; omega
      refine ⟨s6 _ _ (s5 _ _ hD2), by omega, rs.length - (i + 1), by omega, rfl, hlt, ?_, upd_same, ?_⟩
      · rw [htk, List.map_append]; rfl
      · intro b o e
        have hb : b ≠ D := ne_of_none e hD
        rw [upd_ne hb]
        exact s6 _ _ (s5 _ _ (sm _ _ e))
  · have e : i = rs.length := by omega
    subst e
    rw [List.take_length] at hD2
    have hst := T.stop H2 sm
    rw [List.length_map] at hst
    exact .inl ⟨hst, hd H2 sm hD2⟩
end Co
namespace Co
open PySem L2 Mi
end Co
namespace RI
open PySem PySem.Spec PyProof.Rows
abbrev It (h : Heap) (it d : Addr) (x0 : Value) (f : Bool) (i n ep : Nat) (ok ov : Value) : Prop := h.get? it = some { cls := .type "dict_itemiterator", dict := none, data := .fields #[x0, .bool f, .ref d, .int i 0, .int n 0, .int ep 0, ok, ov], slots := #[] }
def St (h : Heap) (it d S : Addr) (i n ep : Nat) : Prop := ∃ x0 f ok ov, It h it d x0 f i n ep ok ov ∧ ((x0 = .none ∧ f = false) ∨ ∃ (a : Addr) (oa : Obj), x0 = rawInt a ∧ h.get? a = some oa ∧ a ≠ it ∧ a ≠ S)
theorem St.keep {h h' : Heap} {it d S : Addr} {i n ep : Nat} (x : St h it d S i n ep) (hk : ∀ b o, b ≠ S → h.get? b = some o → h'.get? b = some o) (hI : it ≠ S) : St h' it d S i n ep := by
  obtain ⟨x0, f, ok, ov, hit, hx⟩ := x
  refine ⟨x0, f, ok, ov, hk _ _ hI hit, ?_⟩
  rcases hx with hx | ⟨a, oa, e, ha, h1, h2⟩
  · exact .inl hx
  · exact .inr ⟨a, oa, e, hk _ _ h2 ha, h1, h2⟩
section
variable {prog : Program} {w : World} {A : Around} {E : Value → Shared → Prop} {s : Shared}
abbrev pr (e : DictEntry) : Obj := { cls := .type "tuple", data := .seq #[e.key, e.val] }
theorem item {it d S : Addr} {i ep : Nat} {od : Obj} {es : Array DictEntry} {Q : Option Value → Shared → Prop} (hst : St s.heap it d S i es.size ep) (hS : S < s.heap.objs.size) (hod : s.heap.get? d = some od) (hdd : od.data = .dict es ep) (hlt : i < es.size)
    (hQ : ∀ h', St h' it d S (i + 1) es.size ep → h'.get? s.heap.objs.size = some (pr es[i]) → h'.objs.size = s.heap.objs.size + 1 → (∀ b o, b ≠ it → s.heap.get? b = some o → h'.get? b = some o) → Q (some (.ref s.heap.objs.size)) { s with heap := h' }) :
    wpAny (model prog w) A (pyNext (.ref it)) Q E s := by
  obtain ⟨x0, f, ok, ov, hit, hx0⟩ := hst
  obtain ⟨hp, g, dr, tk, os⟩ := s
  have T0 : Shared.TypeIs ⟨hp, g, dr, tk, os⟩ (.ref it) "dict_itemiterator" := ⟨_, hit, rfl⟩
  unfold pyNext; refine wpAny_bind (wpAny_attempt (wpAny_callSpecial?_slot (name := Str.ofString "__next__") T0 F.slot_dict_itemiterator_next (wpAny_call_entry F.slot_dict_itemiterator_next T0 F.entry_dict_itemiterator_next ?_ (F.args_dict_itemiterator_next_1 _))))
  refine wpAny_bind (wpAny_pure (wpAny_bind (wpAny_bind ?_))); first | refine wpAny_bind (wpAny_typeNameOfWhole_itemiter T0 (wpAny_pure ?_)) | refine wpAny_bind (wpAny_typeNameOf_itemiter T0 (wpAny_pure ?_))
  refine wpAny_bind (wpAny_fieldsOf hit rfl ?_); have own1 : Builtin.Dict_items.ownsTuple "dict_itemiterator" = true := by decide
  simp only [own1, if_true]; show wpAny _ _ (if (Value.ref d == Value.none) = true then _ else _) _ _ _; rw [if_neg (show ¬ ((Value.ref d == Value.none) = true) from Bool.false_ne_true)]
  refine wpAny_bind (wpAny_pure (wpAny_bind (wpAny_dictEntries hod hdd ?_))); rw [if_neg (by simp)]
  refine wpAny_bind (wpAny_pure (wpAny_bind (wpAny_dictEpoch hod hdd ?_))); rw [if_neg (by simp)]; refine wpAny_pure ?_
  simp only [show ¬ ((i : Int) < 0) from by omega, if_false, Int.toNat_natCast, Array.getElem?_eq_getElem hlt]
  refine wpAny_bind ?_; first | refine wpAny_bind (wpAny_typeNameOfWhole_itemiter T0 (wpAny_pure ?_)) | refine wpAny_bind (wpAny_typeNameOf_itemiter T0 (wpAny_pure ?_))
  refine wpAny_bind (wpAny_isOneOf_itemiter T0 ?_); show wpAny _ _ (setField (.ref it) 3 (rawInt ((i : Int) + 1)) >>= _) _ _ ⟨hp, g, dr, tk, os⟩
  refine wpAny_bind (wpAny_setField_rec hit (by simp) fun h1 he1 hs1 => ?_); replace hs1 : Heap.SameBut it hp h1 := hs1
  replace he1 : It h1 it d x0 f (i + 1) es.size ep ok ov := by
    have e : ((i + 1 : Nat) : Int) = (i : Int) + 1 := by omega
    unfold It; rw [e]; simpa [rawInt] using he1
  have T1 : Shared.TypeIs ⟨h1, g, dr, tk, os⟩ (.ref it) "dict_itemiterator" := ⟨_, he1, rfl⟩
  refine wpAny_bind (wpAny_holding (wpAny_bind (wpAny_isOneOf_itemiter T1 (wpAny_bind (wpAny_isOneOf_itemiter T1 ?_)))))
  show wpAny _ _ (Builtin.Dict_items.pairFromOwner (.ref it) 6 es[i].key es[i].val) _ _ ⟨h1, g, dr, tk, os⟩; unfold Builtin.Dict_items.pairFromOwner
  refine wpAny_bind (wpAny_newTuple ?_); have he2 : It (h1.push (pr es[i])) it d x0 f (i + 1) es.size ep ok ov := Heap.get?_push_of_some _ he1
  generalize hh2 : h1.push { cls := .type "tuple", data := .seq #[es[i].key, es[i].val] } = h2 at he2
  have hz1 : h1.objs.size = hp.objs.size := hs1.1
  have hil : it < hp.objs.size := Heap.lt_size hit
  have ht2 : h2.get? hp.objs.size = some (pr es[i]) := by rw [← hh2, ← hz1]; exact Heap.get?_push_size _ rfl
  have hz2 : h2.objs.size = hp.objs.size + 1 := by rw [← hh2, Heap.size_push, hz1]
  have hk2 : ∀ b o, b ≠ it → hp.get? b = some o → h2.get? b = some o := fun b o hb e => by rw [← hh2]; exact Heap.get?_push_of_some _ (hs1.extBut b o hb e)
  show wpAny _ _ (Builtin.Dict_items.ownedTupleIsFree (.ref it) >>= _) _ _ ⟨h2, g, dr, tk, os⟩
  rw [hz1]; clear hh2 he1 hs1 T1 hz1 h1
  refine wpAny_bind ?_; unfold Builtin.Dict_items.ownedTupleIsFree
  rcases hx0 with ⟨rfl, rfl⟩ | ⟨a, oa, rfl, ha, hai, haS⟩
  · refine wpAny_bind (wpAny_field he2 rfl (x := .none) rfl (wpAny_pure ?_)); simp only [if_true]
    refine wpAny_bind (wpAny_field he2 rfl (x := ok) rfl (wpAny_bind (wpAny_field he2 rfl (x := ov) rfl ?_)))
    refine wpAny_bind (wpAny_setField_rec he2 (by simp) fun h3 he3 hs3 => ?_); replace hs3 : Heap.SameBut it h2 h3 := hs3
    replace he3 : It h3 it d .none false (i + 1) es.size ep es[i].key ov := he3
    refine wpAny_bind (wpAny_setField_rec he3 (by simp) fun h4 he4 hs4 => ?_); replace hs4 : Heap.SameBut it h3 h4 := hs4
    replace he4 : It h4 it d .none false (i + 1) es.size ep es[i].key es[i].val := he4
    refine wpAny_bind (wpAny_setField_rec he4 (by simp) fun h5 he5 hs5 => ?_); replace hs5 : Heap.SameBut it h4 h5 := hs5
    replace he5 : It h5 it d (rawInt hp.objs.size) false (i + 1) es.size ep es[i].key es[i].val := he5
    refine wpAny_bind (wpAny_setField_rec he5 (by simp) fun h6 he6 hs6 => ?_); replace hs6 : Heap.SameBut it h5 h6 := hs6
    replace he6 : It h6 it d (rawInt hp.objs.size) false (i + 1) es.size ep es[i].key es[i].val := he6
    have up : ∀ b o, b ≠ it → h2.get? b = some o → h6.get? b = some o := fun b o hb e => hs6.extBut b o hb (hs5.extBut b o hb (hs4.extBut b o hb (hs3.extBut b o hb e)))
    have ht6 := up _ _ (Nat.ne_of_gt hil) ht2
    exact wpAny_bind (wpAny_letGo (wpAny_pure (wpAny_pure ⟨_, rfl, wpAny_pure (hQ h6 ⟨_, _, _, _, he6, .inr ⟨_, _, rfl, ht6, Nat.ne_of_gt hil, Nat.ne_of_gt hS⟩⟩ ht6 (by show h6.objs.size = _; rw [hs6.1, hs5.1, hs4.1, hs3.1, hz2]) fun b o hb e => up b o hb (hk2 b o hb e))⟩)))
  · have ha2 : h2.get? a = some oa := hk2 a oa hai ha
    refine wpAny_bind (wpAny_field he2 rfl (x := rawInt a) rfl ?_); show wpAny _ _ (loadIfAlive ((a : Int).toNat) >>= _) _ _ _; rw [Int.toNat_natCast]
    refine wpAny_bind (PySem.W.kdx_alive ha2 ?_); simp only [Option.isNone_some, Bool.false_eq_true, if_false]; refine wpAny_bind (wpAny_field he2 rfl (x := .bool f) rfl ?_)
    have fin : ∀ h3 : Heap, It h3 it d (rawInt a) true (i + 1) es.size ep ok ov → Heap.SameBut it h2 h3 → Q (some (.ref hp.objs.size)) ⟨h3, g, dr, tk, os⟩ := fun h3 he3 hs3 =>
      hQ h3 ⟨_, _, _, _, he3, .inr ⟨a, oa, rfl, hs3.extBut _ _ hai ha2, hai, haS⟩⟩ (hs3.extBut _ _ (Nat.ne_of_gt hil) ht2) (by show h3.objs.size = hp.objs.size + 1; rw [hs3.1, hz2]) fun b o hb e => hs3.extBut b o hb (hk2 b o hb e)
    cases f with
    | true => rw [if_neg (show ¬ ((Value.bool true != Value.bool true) = true) from Bool.false_ne_true)]; refine wpAny_pure ?_; simp only [Bool.false_eq_true, if_false]; exact wpAny_pure (wpAny_pure ⟨_, rfl, wpAny_pure (fin h2 he2 (Heap.SameBut.refl _ _))⟩)
    | false =>
      rw [if_pos (show (Value.bool false != Value.bool true) = true from rfl)]; refine wpAny_bind (wpAny_setField_rec he2 (by simp) fun h3 he3 hs3 => ?_)
      replace hs3 : Heap.SameBut it h2 h3 := hs3
      replace he3 : It h3 it d (rawInt a) true (i + 1) es.size ep ok ov := he3
      refine wpAny_pure ?_; simp only [Bool.false_eq_true, if_false]; exact wpAny_pure (wpAny_pure ⟨_, rfl, wpAny_pure (fin h3 he3 hs3)⟩)
theorem done {it d S : Addr} {i ep : Nat} {od : Obj} {es : Array DictEntry} {Q : Option Value → Shared → Prop} (hh : A.handled = none) (hst : St s.heap it d S i es.size ep) (hod : s.heap.get? d = some od) (hdd : od.data = .dict es ep) (hge : es.size ≤ i)
    (hQ : ∀ h', Heap.ExtBut it s.heap h' → Q none { s with heap := h' }) : wpAny (model prog w) A (pyNext (.ref it)) Q E s := by
  obtain ⟨x0, f, ok, ov, hit, _⟩ := hst
  have T0 : s.TypeIs (.ref it) "dict_itemiterator" := ⟨_, hit, rfl⟩
  unfold pyNext; refine wpAny_bind (wpAny_attempt (wpAny_callSpecial?_slot (name := Str.ofString "__next__") T0 F.slot_dict_itemiterator_next (wpAny_call_entry F.slot_dict_itemiterator_next T0 F.entry_dict_itemiterator_next ?_ (F.args_dict_itemiterator_next_1 _))))
  refine wpAny_bind (wpAny_pure (wpAny_bind (wpAny_bind ?_))); first | refine wpAny_bind (wpAny_typeNameOfWhole_itemiter T0 (wpAny_pure ?_)) | refine wpAny_bind (wpAny_typeNameOf_itemiter T0 (wpAny_pure ?_))
  refine wpAny_bind (wpAny_fieldsOf hit rfl ?_); have own1 : Builtin.Dict_items.ownsTuple "dict_itemiterator" = true := by decide
  simp only [own1, if_true]; show wpAny _ _ (if (Value.ref d == Value.none) = true then _ else _) _ _ s; rw [if_neg (show ¬ ((Value.ref d == Value.none) = true) from Bool.false_ne_true)]
  refine wpAny_bind (wpAny_pure (wpAny_bind (wpAny_dictEntries hod hdd ?_))); rw [if_neg (by simp)]
  refine wpAny_bind (wpAny_pure (wpAny_bind (wpAny_dictEpoch hod hdd ?_))); rw [if_neg (by simp)]; refine wpAny_pure ?_
  simp only [show ¬ ((i : Int) < 0) from by omega, if_false, Int.toNat_natCast, Array.getElem?_eq_none hge]
  refine wpAny_bind ?_; first | refine wpAny_bind (wpAny_typeNameOfWhole_itemiter T0 (wpAny_pure ?_)) | refine wpAny_bind (wpAny_typeNameOf_itemiter T0 (wpAny_pure ?_))
  show wpAny _ _ (setField (.ref it) 2 .none >>= _) _ _ s; refine wpAny_bind (wpAny_setField hit rfl (by simp) ?_)
  show wpAny _ _ (newExc (.type "StopIteration") [] >>= _) _ _ _; refine wpAny_bind ?_; simp only [newExc, newTuple]; refine wpAny_bind (wpAny_newObj_type ?_ (by size_fits))
  refine wpAny_bind (m := firstArgMember _ _) (wpAny_of_eq (a := Value.none) (by first | rfl | (simp only [firstArgMember]; rfl)) (wpAny_newObj_type ?_ (by size_fits))); simp only [raiseNew]
  refine wpAny_bind (wpAny_handled ?_); rw [show A.in1.handled = none from hh]; refine wpAny_bind (wpAny_pure (wpAny_throw ?_))
  refine wpAny_bind (wpAny_isInstance (T := "StopIteration") (b := true) ⟨_, Heap.get?_push_size _ rfl, rfl⟩ isSubtype_stop ?_); exact wpAny_pure (hQ _ (((Heap.SameBut.update ..).extBut.push _).push _))
structure G (es : Array DictEntry) (lo : Addr) (h : Heap) (as : List Addr) : Prop where
  rise : as.Pairwise (· < ·)
  above : ∀ a ∈ as, lo < a
  pairs : ∀ (j : Nat) (a : Addr), as[j]? = some a → ∃ e, es[j]? = some e ∧ h.get? a = some (pr e)
theorem loop {R : Result → Shared → Prop} {S I d : Addr} {od : Obj} {es : Array DictEntry} {ep : Nat} (hh : A.handled = none) (hSI : S < I) (hSd : d ≠ S) (hId : d ≠ I) (hdd : od.data = .dict es ep) (hn : es.size ≤ sizeLine) (res : Value) {h1 : Heap}
    (hR : ∀ h' tk acc c as, (∀ b o, b ≠ S → b ≠ I → h1.get? b = some o → h'.get? b = some o) → h'.get? S = some { cls := .type "list", dict := none, data := .seq acc c, slots := #[] } → as.length = es.size → G es I h' as → acc.toList = as.map Value.ref → R (.ok (.ret res)) { s with heap := h', toks := tk }) :
    ∀ (k i : Nat) (h : Heap) (tk c : Nat) (acc : Array Value) (as : List Addr), es.size - i = k → i ≤ es.size → St h I d S i es.size ep → h.get? d = some od → (∀ b o, b ≠ S → b ≠ I → h1.get? b = some o → h.get? b = some o) →
      h.get? S = some { cls := .type "list", dict := none, data := .seq acc c, slots := #[] } → acc.toList = as.map Value.ref → as.length = i → G es I h as → I < h.objs.size → codeAny (model prog w) A (.builtin "list.extend.loop" ⟨[.ref S, .ref I, res], []⟩) R { s with heap := h, toks := tk } := by
  have hne : S ≠ I := Nat.ne_of_lt hSI
  intro k
  induction k with
  | zero =>
    intro i h tk c acc as hk hi hst hD hkeep hS hacc hal hG hIs
    refine codeAny_builtin F.entry_extend_loop ?_; rw [Around.under_plainId F.plain_extend_loop _]; show wpAny _ A.in1 (pyNext (.ref I) >>= _) _ _ _
    refine wpAny_bind (done (s := { s with heap := h, toks := tk }) (A := A.in1) hh hst hD hdd (by omega) fun h' he => wpAny_pure (hR h' tk acc c as (fun b o e1 e2 e => he b o e2 (hkeep b o e1 e2 e)) (he S _ hne hS) (by omega) ⟨hG.rise, hG.above, fun j a hj => ?_⟩ hacc))
    obtain ⟨e, e1, e3⟩ := hG.pairs j a hj
    exact ⟨e, e1, he a _ (Nat.ne_of_gt (hG.above a (List.mem_of_getElem? hj))) e3⟩
  | succ k ih =>
    intro i h tk c acc as hk hi hst hD hkeep hS hacc hal hG hIs
    have hlt : i < es.size := by omega
    have hsz : acc.size = i := by rw [← Array.length_toList, hacc, List.length_map, hal]
    have hSl : S < h.objs.size := Heap.lt_size hS
    refine codeAny_builtin F.entry_extend_loop ?_; rw [Around.under_plainId F.plain_extend_loop _]; show wpAny _ A.in1 (pyNext (.ref I) >>= _) _ _ _
    refine wpAny_bind (item (s := { s with heap := h, toks := tk }) (S := S) hst hSl hD hdd hlt fun h' hst' ht hz hkp => ?_); dsimp only at ht hz hkp ⊢
    have hS' := hkp S _ hne hS
    have up : ∀ b o, b ≠ S → h'.get? b = some o → (h'.update S (Obj.mapSeq (·.push (Value.ref h.objs.size)))).get? b = some o := fun b o hb e => (Heap.get?_update_other _ _ (Ne.symm hb)).trans e
    show wpAny _ A.in1 (updateSeq S (·.push (Value.ref h.objs.size)) >>= _) _ _ _; refine wpAny_bind ?_
    refine wpAny_updateSeq hS' rfl (wpAny_pure ⟨plainId_quiet F.plain_extend_loop _, ih (i + 1) _ tk _ (acc.push (Value.ref h.objs.size)) (as ++ [h.objs.size]) (by omega) hlt (hst'.keep up (Ne.symm hne)) (up d _ hSd (hkp d _ hId hD))
      (fun b o e1 e2 e => up b o e1 (hkp b o e2 (hkeep b o e1 e2 e))) (Heap.get?_update_self _ hS' rfl) (by rw [Array.toList_push, hacc, List.map_append]; rfl) (by rw [List.length_append, hal]; rfl) ⟨?_, ?_, ?_⟩ ?_⟩) (by rw [hsz]; omega) (by show (acc.push (Value.ref h.objs.size)).size ≤ sizeLine + 1; rw [Array.size_push, hsz]; omega)
    · refine List.pairwise_append.mpr ⟨hG.rise, List.pairwise_singleton _ _, fun a ha b hb => ?_⟩; rw [List.mem_singleton.mp hb]
      obtain ⟨j, hj⟩ := List.mem_iff_getElem?.mp ha
      obtain ⟨_, _, e⟩ := hG.pairs j a hj
      exact Heap.lt_size e
    · exact fun a ha => (List.mem_append.mp ha).elim (hG.above a) fun ha => by rw [List.mem_singleton.mp ha]; exact hIs
    · intro j b hj
      rcases Nat.lt_trichotomy j as.length with z | z | z
      · rw [List.getElem?_append_left z] at hj
        obtain ⟨e, e1, e3⟩ := hG.pairs j b hj
        have hb := hG.above b (List.mem_of_getElem? hj)
        exact ⟨e, e1, up b _ (Nat.ne_of_gt (Nat.lt_trans hSI hb)) (hkp b _ (Nat.ne_of_gt hb) e3)⟩
      · subst z
        obtain rfl : h.objs.size = b := by simpa using hj
        exact ⟨es[i], by rw [hal]; exact Array.getElem?_eq_getElem hlt, up _ _ (Nat.ne_of_gt hSl) ht⟩
      · rw [List.getElem?_eq_none (by rw [List.length_append, List.length_singleton]; omega)] at hj; cases hj
    · have e : (h'.update S (Obj.mapSeq (·.push (Value.ref h.objs.size)))).get? h.objs.size = _ := up _ _ (Nat.ne_of_gt hSl) ht
      exact Nat.lt_trans hIs (Heap.lt_size e)
theorem iter {v d : Addr} {od : Obj} {es : Array DictEntry} {ep : Nat} {Q : Value → Shared → Prop} (hv : s.heap.IsItemsView v d) (hod : s.heap.get? d = some od) (hdd : od.data = .dict es ep)
    (hQ : Q (.ref s.heap.objs.size) { s with heap := s.heap.push { cls := .type "dict_itemiterator", data := .fields #[.none, .bool false, .ref d, .int 0 0, .int es.size 0, .int ep 0, .none, .none] } }) : wpAny (model prog w) A (pyIter (.ref v)) Q E s := by
  obtain ⟨ov, hov, _, hdv⟩ := id hv
  refine wpAny_pyIter_slot hv.typeIs F.slot_dict_items_iter (wpAny_call_entry F.slot_dict_items_iter hv.typeIs F.entry_dict_items_iter ?_ (F.args_dict_items_iter_1 _)); unfold Builtin.«dict_items.__iter__»
  refine wpAny_bind (wpAny_pure (wpAny_bind ?_)); unfold Builtin.Dict_items.dictOf; refine wpAny_bind (wpAny_field hov hdv (x := .ref d) rfl (wpAny_pure (wpAny_bind ?_)))
  unfold Builtin.Dict_items.newIterator; refine wpAny_bind (wpAny_dictEntries hod hdd (wpAny_bind (wpAny_dictEpoch hod hdd ?_)))
  have own1 : Builtin.Dict_items.ownsTuple "dict_itemiterator" = true := by decide
  simp only [own1, if_true]
  refine wpAny_newObj_type (wpAny_pure ⟨_, rfl, "dict_itemiterator", _, ⟨_, Heap.get?_push_size _ rfl, rfl⟩, F.slot_dict_itemiterator_next.lookup, ?_⟩) (by simp only [sizeOk, Builtin.Dict_items.ownedTupleFields, List.size_toArray, List.length_append, List.length_cons, List.length_nil, sizeLine_eq]; omega)
  simpa [rawInt, Builtin.Dict_items.ownedTupleFields] using hQ
end
end RI
namespace L2
open PySem PySem.Spec PyProof.Rows
section
variable {X : Cx}
variable {o : Expr} {to : TE} {p pos apos cpos : Pos}
end
end L2
namespace HS
open PySem PySem.W PySem.Spec PySem.F PySem.Calls PyProof.Rows
section
variable {prog : Program} {w : World} {A : Around} {E : Value → Shared → Prop} {s : Shared}
def TupI (h : Heap) (v : Value) (x : Int × Addr × Addr) : Prop := ∃ a o t n, v = Value.ref a ∧ h.get? a = some o ∧ o.cls = .type "tuple" ∧ o.data = .seq #[.int x.1 t, .ref x.2.1, .ref x.2.2] n
theorem TupI.keep {h h' : Heap} (k : ∀ b o, h.get? b = some o → h'.get? b = some o) {v : Value} {x : Int × Addr × Addr} (z : TupI h v x) : TupI h' v x := let ⟨a, o, t, n, e, ho, r⟩ := z; ⟨a, o, t, n, e, k a o ho, r⟩
inductive TupsI (h : Heap) : List Value → List (Int × Addr × Addr) → Prop where
  | nil : TupsI h [] []
  | cons {v : Value} {x : Int × Addr × Addr} {vs : List Value} {xs : List (Int × Addr × Addr)} : TupI h v x → TupsI h vs xs → TupsI h (v :: vs) (x :: xs)
theorem TupsI.keep {h h' : Heap} (k : ∀ b o, h.get? b = some o → h'.get? b = some o) {vs : List Value} {xs : List (Int × Addr × Addr)} (x : TupsI h vs xs) : TupsI h' vs xs := by
  induction x with
  | nil => exact .nil
  | cons t _ ih => exact .cons (t.keep k) ih
theorem TupsI.at {h : Heap} {vs : List Value} {xs : List (Int × Addr × Addr)} (x : TupsI h vs xs) : vs.length = xs.length ∧ ∀ i, i < vs.length → TupI h (vs.getD i Value.none) (xs.getD i (0, 0, 0)) := by
  induction x with
  | nil => exact ⟨rfl, fun i hi => by simp at hi⟩
  | cons t _ ih =>
    refine ⟨by rw [List.length_cons, List.length_cons, ih.1], fun i hi => ?_⟩
    cases i with
    | zero => exact t
    | succ i => exact ih.2 i (by simpa using hi)
end
end HS
namespace L2
open PySem PySem.Spec PyProof.Rows
section
variable {X : Cx}
end
end L2
namespace HD
open PySem
section
variable {prog : Program} {w : World} {A : Around} {E : Value → Shared → Prop} {s : Shared} {K : Type} [DecidableEq K] {knd : KeyKind prog w K}
end
end HD
namespace L2
open PySem PySem.Spec PyProof.Rows
section
variable {X : Cx}
end
end L2
namespace Co
open PySem L2 Mi
theorem putK_val {kvs : List (List Key × V)} {k : List Key} {v : V} {z : List Key × V} (h : z ∈ putK kvs k v) : z.2 = v ∨ ∃ y ∈ kvs, y.2 = z.2 := by
  unfold putK at h
  split at h
  · obtain ⟨y, hy, rfl⟩ := List.mem_map.mp h
    split
    · exact .inl rfl
    · exact .inr ⟨y, hy, rfl⟩
  · rcases List.mem_append.mp h with h | h
    · exact .inr ⟨z, h, rfl⟩
    · rw [List.mem_singleton.mp h]; exact .inl rfl
structure DRls (n m : Nat) (H : Hp) (kvs : List (List Key × V)) (us : List (List Str)) : Prop where
  keys : kvs.map (·.1) = us.map fun t => t.map Sum.inr
  nd : us.Nodup
  len : us.length ≤ n
  short : ∀ u ∈ us, u.length ≤ m
  vals : ∀ z ∈ kvs, ∃ q v, z.2 = .ref q ∧ TupA H q v ∧ v.length ≤ m
theorem DRls.ts {n m : Nat} {H H' : Hp} {kvs : List (List Key × V)} {us : List (List Str)} (h : DRls n m H kvs us) (t : TS' H H') : DRls n m H' kvs us := ⟨h.keys, h.nd, h.len, h.short, fun z hz => let ⟨q, v, e, hq, hl⟩ := h.vals z hz; ⟨q, v, e, t _ _ hq, hl⟩⟩
theorem DRls.put {n m : Nat} {H : Hp} {kvs : List (List Key × V)} {us : List (List Str)} (h : DRls n m H kvs us) {u v : List Str} {q : Addr} (hu : u.length ≤ m) (hq : TupA H q v) (hv : v.length ≤ m) : ∃ us', DRls (n + 1) m H (putK kvs (u.map Sum.inr) (.ref q)) us' := by
  refine ⟨_, putKT_keys h.keys, ?_, ?_, fun x hx => ?_, fun z hz => ?_⟩
  · split
    · exact h.nd
    · rename_i hn
      rw [List.nodup_append]
      exact ⟨h.nd, by simp, fun y hy z hz e => hn (by rw [List.mem_singleton.mp hz] at e; exact e ▸ hy)⟩
  · have := h.len
    split
    · omega
    · rw [List.length_append, List.length_singleton]; omega
  · split at hx
    · exact h.short x hx
    · rcases List.mem_append.mp hx with hx | hx
      · exact h.short x hx
      · rw [List.mem_singleton.mp hx]; exact hu
  · rcases putK_val hz with e | ⟨y, hy, e⟩
    · exact ⟨q, v, e, hq, hv⟩
    · obtain ⟨q', v', e', r⟩ := h.vals y hy
      exact ⟨q', v', e.symm.trans e', r⟩
end Co
namespace Mi
open PySem L2
end Mi
namespace Co
open PySem L2 Mi
end Co
namespace Co
open PySem L2 Mi
end Co
namespace L2
open PySem PySem.Spec PyProof.Rows
end L2
namespace L2
open PySem PySem.Spec PyProof.Rows
end L2
namespace ST
open PySem PySem.SetTable
def Rise (xs : Array Nat) : Prop := ∀ (i j x y : Nat), i < j → xs[i]? = some x → xs[j]? = some y → x < y
theorem go_spec {xs : Array Nat} {j : Nat} (hr : Rise xs) : ∀ (fuel lo hi : Nat), hi - lo ≤ fuel → lo ≤ hi → hi ≤ xs.size → (∀ (i x : Nat), xs[i]? = some x → i < lo → x < j) → (∀ (i x : Nat), xs[i]? = some x → hi ≤ i → j ≤ x) →
    below.go xs j fuel lo hi ≤ xs.size ∧ (∀ (i x : Nat), xs[i]? = some x → i < below.go xs j fuel lo hi → x < j) ∧ (∀ (i x : Nat), xs[i]? = some x → below.go xs j fuel lo hi ≤ i → j ≤ x)
  | 0, lo, hi, h1, h2, h3, h4, h5 => by
    unfold below.go
    exact ⟨by omega, h4, fun i x e h => h5 i x e (by omega)⟩
  | fuel + 1, lo, hi, h1, h2, h3, h4, h5 => by
    unfold below.go
    by_cases h : lo < hi
    · rw [if_pos h]
      have hm : (lo + hi) / 2 < xs.size := by omega
      have e : xs[(lo + hi) / 2]? = some xs[(lo + hi) / 2] := Array.getElem?_eq_getElem hm
      have e2 : xs.getD ((lo + hi) / 2) j = xs[(lo + hi) / 2] := by rw [Array.getD_eq_getD_getElem?, e]; rfl
      dsimp only
      rw [e2]
      by_cases c : xs[(lo + hi) / 2] < j
      · rw [if_pos c]
        refine go_spec hr fuel _ _ (by omega) (by omega) h3 (fun i x ei hi' => ?_) h5
        rcases Nat.lt_or_ge i ((lo + hi) / 2) with z | z
        · exact Nat.lt_trans (hr _ _ _ _ z ei e) c
        · obtain rfl : i = (lo + hi) / 2 := by omega
          rw [e] at ei
          cases ei
          exact c
      · rw [if_neg c]
        refine go_spec hr fuel _ _ (by omega) (by omega) (by omega) h4 (fun i x ei hi' => ?_)
        rcases Nat.lt_or_ge ((lo + hi) / 2) i with z | z
        · have := hr _ _ _ _ z e ei
          omega
        · obtain rfl : i = (lo + hi) / 2 := by omega
          rw [e] at ei
          cases ei
          omega
    · rw [if_neg h]
      exact ⟨by omega, h4, fun i x e z => h5 i x e (by omega)⟩
theorem below_spec {xs : Array Nat} (hr : Rise xs) (j : Nat) : below xs j ≤ xs.size ∧ (∀ (i x : Nat), xs[i]? = some x → i < below xs j → x < j) ∧ (∀ (i x : Nat), xs[i]? = some x → below xs j ≤ i → j ≤ x) := by
  unfold below
  refine go_spec hr xs.size 0 xs.size (by omega) (Nat.zero_le _) (Nat.le_refl _) (fun i x _ h => absurd h (Nat.not_lt_zero _)) fun i x e h => ?_
  rw [Array.getElem?_eq_none h] at e
  cases e
section
variable {t : SetTable}
theorem has_nil (j : Nat) : has #[] j = false := by unfold has; simp
theorem slot_live (hr : Rise t.place) {i j : Nat} (h : t.place[i]? = some j) : t.slot j = .live i := by
  obtain ⟨_, b1, b2⟩ := below_spec hr j
  have e : below t.place j = i := by
    rcases Nat.lt_trichotomy (below t.place j) i with z | z | z
    · have hs : i < t.place.size := (Array.getElem?_eq_some_iff.mp h).1
      have hb : t.place[below t.place j]? = some t.place[below t.place j] := Array.getElem?_eq_getElem (by omega)
      have h1 := hr _ _ _ _ z hb h
      have h2 := b2 _ _ hb (Nat.le_refl _)
      omega
    · exact z
    · exact absurd (b1 i j h z) (Nat.lt_irrefl _)
  unfold slot
  dsimp only
  rw [e, h, if_pos (by simp)]
theorem slot_empty (hd : t.dummies = #[]) {j : Nat} (h : ∀ i : Nat, t.place[i]? ≠ some j) : t.slot j = .empty := by
  unfold slot
  dsimp only
  rw [if_neg (by simpa using h _), hd, has_nil]
  rfl
theorem slot_cases (hd : t.dummies = #[]) (hr : Rise t.place) (j : Nat) : (t.slot j = .empty ∧ ∀ i : Nat, t.place[i]? ≠ some j) ∨ ∃ i : Nat, t.slot j = .live i ∧ t.place[i]? = some j := by
  by_cases h : ∃ i : Nat, t.place[i]? = some j
  · obtain ⟨i, h⟩ := h
    exact .inr ⟨i, slot_live hr h, h⟩
  · have h' : ∀ i : Nat, t.place[i]? ≠ some j := fun i e => h ⟨i, e⟩
    exact .inl ⟨slot_empty hd h', h'⟩
end
def adv (mask : Nat) (p : Probe) : Probe := if p.more > 0 then { p with j := p.j + 1, more := p.more - 1 } else { p with j := (leap mask p.i p.perturb).1, more := runEnd mask (leap mask p.i p.perturb).1 - (leap mask p.i p.perturb).1, i := (leap mask p.i p.perturb).1, perturb := (leap mask p.i p.perturb).2 }
def rst (mask i b : Nat) : Probe := { j := i, more := runEnd mask i - i, i := i, perturb := b, dummy := none }
def pth (mask : Nat) (h : Int) : Nat → Probe
  | 0 => rst mask (bits h % (mask + 1)) (bits h)
  | n + 1 => adv mask (pth mask h n)
theorem pth_dummy (mask : Nat) (h : Int) : ∀ n, (pth mask h n).dummy = none
  | 0 => rfl
  | n + 1 => by
    have ih := pth_dummy mask h n
    unfold pth adv
    split <;> exact ih
theorem go_at {t : SetTable} {hashAt : Nat → Int} {h : Int} {m : Nat} : ∀ (fuel n : Nat), n ≤ m → m - n < fuel → (∀ k, n ≤ k → k < m → ∃ i, t.slot (pth t.mask h k).j = .live i ∧ hashAt i ≠ h) →
    (t.slot (pth t.mask h m).j = .empty → probe.go t hashAt h fuel (pth t.mask h n) = some (.empty (pth t.mask h m).j none)) ∧
    ∀ i, t.slot (pth t.mask h m).j = .live i → hashAt i = h → probe.go t hashAt h fuel (pth t.mask h n) = some (.candidate (pth t.mask h m).j i (pth t.mask h (m + 1)))
  | 0, n, h1, h2, _ => absurd h2 (Nat.not_lt_zero _)
  | fuel + 1, n, h1, h2, h3 => by
    by_cases e : n = m
    · subst e
      refine ⟨fun z => ?_, fun i z hz => ?_⟩
      · unfold probe.go
        rw [z, pth_dummy]
      · unfold probe.go
        rw [z]
        dsimp only
        rw [if_pos (by rw [hz]; simp)]
        rfl
    · obtain ⟨i, hi, hne⟩ := h3 n (Nat.le_refl _) (by omega)
      obtain ⟨r1, r2⟩ := go_at (t := t) (hashAt := hashAt) (h := h) (m := m) fuel (n + 1) (by omega) (by omega) fun k hk => h3 k (by omega)
      have step : probe.go t hashAt h (fuel + 1) (pth t.mask h n) = probe.go t hashAt h fuel (pth t.mask h (n + 1)) := by
        rw [probe.go, hi]
        dsimp only
        rw [if_neg (by simpa using hne)]
        rfl
      rw [step]
      exact ⟨r1, r2⟩
def ii (mask b : Nat) : Nat → Nat
  | 0 => b % (mask + 1)
  | k + 1 => (ii mask b k * 5 + 1 + b / 32 ^ (k + 1)) % (mask + 1)
theorem run_le (mask i : Nat) : runEnd mask i - i ≤ 9 := by unfold runEnd; split <;> omega
theorem pth_run {mask : Nat} {h : Int} {n i b : Nat} (hn : pth mask h n = rst mask i b) : ∀ c, c ≤ runEnd mask i - i → pth mask h (n + c) = { j := i + c, more := runEnd mask i - i - c, i := i, perturb := b, dummy := none }
  | 0, _ => hn
  | c + 1, hc => by
    have ih := pth_run hn c (by omega)
    rw [← Nat.add_assoc]
    show adv mask (pth mask h (n + c)) = _
    rw [ih]
    unfold adv
    rw [if_pos (by show runEnd mask i - i - c > 0; omega)]
    congr 1
theorem pth_round {mask : Nat} {h : Int} : ∀ k, ∃ n, n ≤ 10 * k ∧ pth mask h n = rst mask (ii mask (bits h) k) (bits h / 32 ^ k)
  | 0 => ⟨0, Nat.zero_le _, by rw [Nat.pow_zero, Nat.div_one]; rfl⟩
  | k + 1 => by
    obtain ⟨n, hn, e⟩ := pth_round (mask := mask) (h := h) k
    have hr := run_le mask (ii mask (bits h) k)
    refine ⟨n + (runEnd mask (ii mask (bits h) k) - ii mask (bits h) k) + 1, by omega, ?_⟩
    show adv mask (pth mask h (n + _)) = _
    rw [pth_run e _ (Nat.le_refl _)]
    unfold adv
    have ed : bits h / 32 ^ k / 32 = bits h / 32 ^ (k + 1) := by rw [Nat.div_div_eq_div_mul, ← Nat.pow_succ]
    rw [if_neg (by show ¬ (runEnd mask (ii mask (bits h) k) - ii mask (bits h) k - (runEnd mask (ii mask (bits h) k) - ii mask (bits h) k) > 0); omega)]
    show Probe.mk _ _ _ _ _ = _
    unfold rst leap
    dsimp only
    rw [ed]
    rfl
def lc (mask : Nat) : Nat → Nat → Nat
  | 0, i => i
  | d + 1, i => lc mask d ((i * 5 + 1) % (mask + 1))
theorem lc_all7 : ∀ i, i ≤ 7 → ∀ j, j ≤ 7 → ∃ d, d ≤ 7 ∧ lc 7 d i = j := by decide +kernel
theorem lc_all31 : ∀ i, i ≤ 31 → ∀ j, j ≤ 31 → ∃ d, d ≤ 31 ∧ lc 31 d i = j := by decide +kernel
theorem bits_lt (h : Int) : bits h < 2 ^ 64 := by unfold bits; omega
theorem ii_lc {mask b : Nat} (hb : b < 2 ^ 64) : ∀ d k, 12 ≤ k → ii mask b (k + d) = lc mask d (ii mask b k)
  | 0, k, _ => rfl
  | d + 1, k, hk => by
    have e0 : b / 32 ^ (k + 1) = 0 := by
      refine Nat.div_eq_of_lt (Nat.lt_of_lt_of_le hb ?_)
      have : (32 : Nat) ^ 13 ≤ 32 ^ (k + 1) := Nat.pow_le_pow_right (by decide) (by omega)
      exact Nat.le_trans (by decide) this
    have e1 : ii mask b (k + 1) = (ii mask b k * 5 + 1) % (mask + 1) := by
      show (ii mask b k * 5 + 1 + b / 32 ^ (k + 1)) % (mask + 1) = _
      rw [e0, Nat.add_zero]
    have := ii_lc (mask := mask) hb d (k + 1) (by omega)
    rw [show k + (d + 1) = k + 1 + d by omega, this, e1]
    rfl
theorem ii_le (mask b : Nat) : ∀ k, ii mask b k ≤ mask
  | 0 => Nat.le_of_lt_succ (Nat.mod_lt _ (Nat.succ_pos _))
  | k + 1 => Nat.le_of_lt_succ (Nat.mod_lt _ (Nat.succ_pos _))
theorem pth_all {mask : Nat} (hm : mask = 7 ∨ mask = 31) (h : Int) {j : Nat} (hj : j ≤ mask) : ∃ n, n < 10 * turns mask ∧ (pth mask h n).j = j := by
  obtain ⟨d, hd, e⟩ : ∃ d, d ≤ mask ∧ lc mask d (ii mask (bits h) 12) = j := by
    have hi := ii_le mask (bits h) 12
    rcases hm with rfl | rfl
    · exact lc_all7 _ hi j hj
    · exact lc_all31 _ hi j hj
  obtain ⟨n, hn, ep⟩ := pth_round (mask := mask) (h := h) (12 + d)
  refine ⟨n, by unfold turns; omega, ?_⟩
  rw [ep, ii_lc (bits_lt h) d 12 (Nat.le_refl _), e]
  rfl
theorem nodup_lenN {α : Type} [BEq α] [LawfulBEq α] : ∀ {A B : List α}, A.Nodup → A ⊆ B → A.length ≤ B.length
  | [], _, _, _ => Nat.zero_le _
  | a :: A, B, hn, hs => by
    rw [List.nodup_cons] at hn
    have ha : a ∈ B := hs (List.mem_cons_self ..)
    have h2 : A ⊆ B.erase a := fun x hx => (List.mem_erase_of_ne (fun e : x = a => hn.1 (e ▸ hx))).mpr (hs (List.mem_cons_of_mem _ hx))
    have := nodup_lenN hn.2 h2
    rw [List.length_erase_of_mem ha] at this
    have hp : 0 < B.length := List.length_pos_of_mem ha
    rw [List.length_cons]
    omega
theorem first_free {t : SetTable} (hm : t.mask = 7 ∨ t.mask = 31) (hd : t.dummies = #[]) (hr : Rise t.place) (hz : t.place.size ≤ t.mask) (h : Int) :
    ∃ m, m < 10 * turns t.mask ∧ t.slot (pth t.mask h m).j = .empty ∧ ∀ k, k < m → ∃ i, t.slot (pth t.mask h k).j = .live i := by
  have ex : ∃ j, j ≤ t.mask ∧ ∀ i : Nat, t.place[i]? ≠ some j := by
    apply Classical.byContradiction
    intro hc
    have hsub : List.range (t.mask + 1) ⊆ t.place.toList := fun j hj => by
      have hj' : j ≤ t.mask := Nat.le_of_lt_succ (List.mem_range.mp hj)
      have : ∃ i : Nat, t.place[i]? = some j := Classical.byContradiction fun hn => hc ⟨j, hj', fun i e => hn ⟨i, e⟩⟩
      obtain ⟨i, e⟩ := this
      rw [← Array.getElem?_toList] at e
      exact List.mem_of_getElem? e
    have := nodup_lenN List.nodup_range hsub
    rw [List.length_range, Array.length_toList] at this
    omega
  obtain ⟨j, hj, hne⟩ := ex
  obtain ⟨n, hn, e⟩ := pth_all hm h hj
  have hE : t.slot (pth t.mask h n).j = .empty := by rw [e]; exact slot_empty hd hne
  clear e
  induction n using Nat.strongRecOn with
  | ind n ih =>
    by_cases hx : ∃ k, k < n ∧ t.slot (pth t.mask h k).j = .empty
    · obtain ⟨k, hk, hke⟩ := hx
      exact ih k hk (by omega) hke
    · refine ⟨n, hn, hE, fun k hk => ?_⟩
      rcases slot_cases hd hr (pth t.mask h k).j with ⟨z, _⟩ | ⟨i, z, _⟩
      · exact absurd ⟨k, hk, z⟩ hx
      · exact ⟨i, z⟩
end ST
namespace ST
open PySem PySem.SetTable
def Occ (t : SetTable) (j : Nat) : Prop := ∃ i : Nat, t.place[i]? = some j
theorem ins_list {α : Type} (xs : Array α) (p : Nat) (x : α) (hp : p ≤ xs.size) : (insertAt xs p x).toList = xs.toList.take p ++ x :: xs.toList.drop p := by
  unfold insertAt
  rw [Array.toList_append, Array.toList_push, Array.toList_extract, Array.toList_extract]
  have e : (List.drop p xs.toList).take (xs.size - p) = xs.toList.drop p := List.take_of_length_le (by rw [List.length_drop, Array.length_toList]; omega)
  simp [List.extract, e]
theorem ins_get {α : Type} (xs : Array α) (p : Nat) (x : α) (hp : p ≤ xs.size) (i : Nat) : (insertAt xs p x)[i]? = if i < p then xs[i]? else if i = p then some x else xs[i - 1]? := by
  rw [← Array.getElem?_toList, ins_list xs p x hp, List.getElem?_append]
  have hl : (xs.toList.take p).length = p := by rw [List.length_take, Array.length_toList]; omega
  rw [hl]
  by_cases h1 : i < p
  · rw [if_pos h1, if_pos h1, List.getElem?_take, if_pos h1, Array.getElem?_toList]
  · rw [if_neg h1, if_neg h1]
    by_cases h2 : i = p
    · rw [if_pos h2, h2, Nat.sub_self]
      rfl
    · rw [if_neg h2]
      obtain ⟨c, hc⟩ : ∃ c, i - p = c + 1 := ⟨i - p - 1, by omega⟩
      rw [hc, List.getElem?_cons_succ, List.getElem?_drop, Array.getElem?_toList]
      congr 1
      omega
theorem ins_size {α : Type} (xs : Array α) (p : Nat) (x : α) (hp : p ≤ xs.size) : (insertAt xs p x).size = xs.size + 1 := by
  rw [← Array.length_toList, ins_list xs p x hp, List.length_append, List.length_cons, List.length_take, List.length_drop, Array.length_toList]
  omega
theorem ins_perm {α : Type} (xs : Array α) (p : Nat) (x : α) (hp : p ≤ xs.size) : (insertAt xs p x).toList.Perm (x :: xs.toList) := by
  rw [ins_list xs p x hp]
  have h := List.perm_middle (a := x) (l₁ := xs.toList.take p) (l₂ := xs.toList.drop p)
  rw [List.take_append_drop] at h
  exact h
structure Tab (t : SetTable) (es : Array (Int × Value)) : Prop where
  mask : t.mask = 7 ∨ t.mask = 31
  dum : t.dummies = #[]
  rise : Rise t.place
  size : t.place.size = es.size
  le : ∀ i j : Nat, t.place[i]? = some j → j ≤ t.mask
  room : es.size ≤ t.mask
  path : ∀ (i j : Nat) (h : Int) (v : Value), t.place[i]? = some j → es[i]? = some (h, v) → ∃ n, (pth t.mask h n).j = j ∧ ∀ m, m < n → Occ t (pth t.mask h m).j
theorem occ_live {t : SetTable} (hr : Rise t.place) {j : Nat} (h : Occ t j) : ∃ i, t.slot j = .live i ∧ t.place[i]? = some j := let ⟨i, e⟩ := h; ⟨i, slot_live hr e, e⟩
theorem live_occ {t : SetTable} (hd : t.dummies = #[]) (hr : Rise t.place) {i j : Nat} (h : t.slot j = .live i) : t.place[i]? = some j := by
  rcases slot_cases hd hr j with ⟨e, _⟩ | ⟨i', e, hi⟩
  · rw [e] at h; cases h
  · rw [e] at h; cases h; exact hi
theorem pth_le {mask : Nat} (h : Int) : ∀ n, (pth mask h n).j + (pth mask h n).more ≤ mask
  | 0 => by
    show bits h % (mask + 1) + (runEnd mask (bits h % (mask + 1)) - bits h % (mask + 1)) ≤ mask
    have : bits h % (mask + 1) < mask + 1 := Nat.mod_lt _ (Nat.succ_pos mask)
    unfold runEnd
    split <;> omega
  | n + 1 => by
    have ih := pth_le (mask := mask) h n
    show (adv mask (pth mask h n)).j + (adv mask (pth mask h n)).more ≤ mask
    unfold adv
    by_cases c : (pth mask h n).more > 0
    · rw [if_pos c]
      dsimp only
      omega
    · rw [if_neg c]
      dsimp only
      have : ((pth mask h n).i * 5 + 1 + (pth mask h n).perturb / 32) % (mask + 1) < mask + 1 := Nat.mod_lt _ (Nat.succ_pos mask)
      unfold leap runEnd
      dsimp only
      split <;> omega
theorem Tab.add {t : SetTable} {es : Array (Int × Value)} (T : Tab t es) (hz : es.size + 1 ≤ t.mask) {h : Int} {m : Nat} (hE : t.slot (pth t.mask h m).j = .empty) (hL : ∀ k, k < m → ∃ i, t.slot (pth t.mask h k).j = .live i) (x : Value) (b : Bool) :
    Tab { (t.put (pth t.mask h m).j).1 with plain := b } (insertAt es (t.put (pth t.mask h m).j).2 (h, x)) ∧ (t.put (pth t.mask h m).j).2 ≤ es.size := by
  have hne : ∀ i : Nat, t.place[i]? ≠ some (pth t.mask h m).j := by
    rcases slot_cases T.dum T.rise (pth t.mask h m).j with ⟨_, z⟩ | ⟨i, z, _⟩
    · exact z
    · rw [z] at hE; cases hE
  have hjm : (pth t.mask h m).j ≤ t.mask := by have := pth_le (mask := t.mask) h m; omega
  obtain ⟨b0, b1, b2⟩ := below_spec T.rise (pth t.mask h m).j
  generalize hj : (pth t.mask h m).j = j at *
  generalize hp : below t.place j = p at *
  have hput : t.put j = ({ t with place := insertAt t.place p j, dummies := #[] }, p) := by
    unfold put
    dsimp only
    rw [hp, T.dum, has_nil]
    rfl
  rw [hput]
  dsimp only
  have hpe : p ≤ es.size := by rw [← T.size]; exact b0
  have occ' : ∀ c, Occ t c → Occ { t with place := insertAt t.place p j, dummies := #[], plain := b } c := fun c ⟨i, e⟩ => by
    by_cases z : i < p
    · exact ⟨i, by show (insertAt t.place p j)[i]? = some c; rw [ins_get _ _ _ b0, if_pos z]; exact e⟩
    · exact ⟨i + 1, by show (insertAt t.place p j)[i + 1]? = some c; rw [ins_get _ _ _ b0, if_neg (by omega), if_neg (by omega)]; exact e⟩
  refine ⟨⟨T.mask, rfl, ?_, ?_, ?_, ?_, ?_⟩, hpe⟩
  · show Rise (insertAt t.place p j)
    intro i i' y y' hlt e1 e2
    rw [ins_get _ _ _ b0] at e1 e2
    by_cases z1 : i < p
    · rw [if_pos z1] at e1
      by_cases z2 : i' < p
      · rw [if_pos z2] at e2
        exact T.rise _ _ _ _ hlt e1 e2
      · rw [if_neg z2] at e2
        by_cases z3 : i' = p
        · rw [if_pos z3] at e2
          cases e2
          exact b1 i y e1 z1
        · rw [if_neg z3] at e2
          exact T.rise _ _ _ _ (by omega) e1 e2
    · rw [if_neg z1] at e1
      rw [if_neg (by omega), if_neg (by omega)] at e2
      by_cases z3 : i = p
      · rw [if_pos z3] at e1
        cases e1
        have := b2 _ _ e2 (by omega)
        have hn := hne (i' - 1)
        rcases Nat.lt_or_ge j y' with z | z
        · exact z
        · exact absurd (by rw [e2]; congr 1; omega) hn
      · rw [if_neg z3] at e1
        exact T.rise _ _ _ _ (by omega) e1 e2
  · show (insertAt t.place p j).size = _
    rw [ins_size _ _ _ b0, ins_size _ _ _ hpe, T.size]
  · intro i c e
    have e : (insertAt t.place p j)[i]? = some c := e
    rw [ins_get _ _ _ b0] at e
    show c ≤ t.mask
    split at e
    · exact T.le _ _ e
    · split at e
      · cases e; exact hjm
      · exact T.le _ _ e
  · show (insertAt es p (h, x)).size ≤ t.mask
    rw [ins_size _ _ _ hpe]
    exact hz
  · intro i c h' v e1 e2
    have e1 : (insertAt t.place p j)[i]? = some c := e1
    rw [ins_get _ _ _ b0] at e1
    rw [ins_get _ _ _ hpe] at e2
    have old : ∀ i', t.place[i']? = some c → es[i']? = some (h', v) → ∃ n, (pth t.mask h' n).j = c ∧ ∀ m, m < n → Occ { t with place := insertAt t.place p j, dummies := #[], plain := b } (pth t.mask h' m).j := fun i' e1 e2 => by
      obtain ⟨n, hn, ho⟩ := T.path i' c h' v e1 e2
      exact ⟨n, hn, fun m hm => occ' _ (ho m hm)⟩
    by_cases z1 : i < p
    · rw [if_pos z1] at e1 e2
      exact old i e1 e2
    · rw [if_neg z1] at e1 e2
      by_cases z2 : i = p
      · rw [if_pos z2] at e1 e2
        cases e1
        cases e2
        refine ⟨m, hj, fun k hk => occ' _ ?_⟩
        obtain ⟨i', hi'⟩ := hL k hk
        exact ⟨i', live_occ T.dum T.rise hi'⟩
      · rw [if_neg z2] at e1 e2
        exact old _ e1 e2
end ST
namespace ST
open PySem PySem.SetTable
section
variable {prog : Program} {w : World} {A : Around} {E : Value → Shared → Prop} {s : Shared} {K : Type} [DecidableEq K] {knd : KeyKind prog w K}
theorem notClass_byValue (n : Nat) {v : Value} (h : carriedByValue v = true) : ofAClassStatement n v = pure false := by
  cases v <;> first | rfl | (cases n <;> rfl) | (simp [carriedByValue] at h)
theorem notClass {ks : List K} {a : Addr} {Q : Bool → Shared → Prop} (hk : IsTupleKey knd s.heap ks a) (h : Q false s) : wpAny (model prog w) A (ofAClassStatement 8 (.ref a)) Q E s := by
  have hT := hk.typeIs
  obtain ⟨o, items, n, ho, _, hd, hi⟩ := hk
  unfold ofAClassStatement
  refine wpAny_bind (wpAny_typeOf hT ?_)
  dsimp only
  rw [if_pos (by decide)]
  refine wpAny_bind (wpAny_pure ?_)
  simp only [Bool.not_true, Bool.false_eq_true, if_false]
  refine wpAny_bind (wpAny_seqItems ho hd ?_)
  refine wpAny_bind ?_
  show wpAny _ _ (forIn items _ _) _ _ s
  rw [← Array.forIn_toList]
  refine wpAny_forIn_list _ (fun rest r s' => r.1 = none ∧ s' = s ∧ ∀ v ∈ rest, carriedByValue v = true) _ ?_ ?_ _ _ ⟨rfl, rfl, hi.byValue⟩
  · rintro v rest r s' ⟨hr, rfl, hall⟩
    rw [notClass_byValue _ (hall v List.mem_cons_self)]
    refine wpAny_bind (wpAny_pure ?_)
    simp only [Bool.false_eq_true, if_false]
    exact wpAny_pure ⟨rfl, rfl, fun u hu' => hall u (List.mem_cons_of_mem _ hu')⟩
  · rintro ⟨r1, r2⟩ s' ⟨hr, rfl, _⟩
    simp only at hr
    subst hr
    exact wpAny_pure h
theorem notSeen {k : List K} {b : Addr} {vs : List Value} {Q : Bool → Shared → Prop} (hb : IsTupleKey knd s.heap k b) (hv : ∀ v ∈ vs, ∃ k' b', v = .ref b' ∧ IsTupleKey knd s.heap k' b') (h : Q false s) : wpAny (model prog w) A (searchCouldBeSeen (.ref b) vs) Q E s := by
  unfold searchCouldBeSeen
  refine wpAny_bind ?_
  refine wpAny_forIn_list _ (fun rest r s' => r.1 = none ∧ s' = s ∧ ∀ v ∈ rest, ∃ k' b', v = .ref b' ∧ IsTupleKey knd s.heap k' b') _ ?_ ?_ _ _ ⟨rfl, rfl, hv⟩
  · rintro v rest r s' ⟨hr, rfl, hall⟩
    obtain ⟨k', b', rfl, hb'⟩ := hall v List.mem_cons_self
    have nx : ∀ v ∈ rest, ∃ k' b', v = .ref b' ∧ IsTupleKey knd s'.heap k' b' := fun u hu' => hall u (List.mem_cons_of_mem _ hu')
    dsimp only
    by_cases c : ((b == b') || (carriedByValue (.ref b) && carriedByValue (.ref b'))) = true
    · rw [if_pos c]
      exact wpAny_pure ⟨rfl, rfl, nx⟩
    · rw [if_neg c]
      refine wpAny_bind (wpAny_eqIsQuiet_tuple hb ?_)
      simp only [Bool.not_true, Bool.false_eq_true, if_false]
      refine wpAny_bind (wpAny_eqIsQuiet_tuple hb' ?_)
      simp only [Bool.not_true, Bool.false_eq_true, if_false]
      refine wpAny_bind (notClass hb ?_)
      simp only [Bool.false_eq_true, if_false]
      refine wpAny_bind (notClass hb' ?_)
      simp only [Bool.false_eq_true, if_false]
      exact wpAny_pure ⟨rfl, rfl, nx⟩
  · rintro ⟨r1, r2⟩ s' ⟨hr, rfl, _⟩
    simp only at hr
    subst hr
    exact wpAny_pure h
structure El (knd : KeyKind prog w K) (h : Heap) (es : Array (Int × Value)) (xs : List (List K × Addr)) : Prop where
  perm : es.toList.Perm (xs.map fun x => (tupleKeyHash knd x.1, Value.ref x.2))
  nd : (xs.map (·.1)).Nodup
  keys : ∀ x ∈ xs, IsTupleKey knd h x.1 x.2
theorem El.get {h : Heap} {es : Array (Int × Value)} {xs : List (List K × Addr)} (e : El knd h es xs) {i : Nat} {p : Int × Value} (hi : es[i]? = some p) : ∃ x ∈ xs, p = (tupleKeyHash knd x.1, Value.ref x.2) := by
  rw [← Array.getElem?_toList] at hi
  have := e.perm.mem_iff.mp (List.mem_of_getElem? hi)
  obtain ⟨x, hx, rfl⟩ := List.mem_map.mp this
  exact ⟨x, hx, rfl⟩
theorem Tab.fits {t : SetTable} {es : Array (Int × Value)} (T : Tab t es) : t.fits es.size = true := by
  unfold SetTable.fits fill
  rw [T.dum, T.size]
  have := T.room
  simp
  exact this
theorem next_stop {t : SetTable} {hashAt : Nat → Int} {h : Int} {m : Nat} (hL : ∀ k, k < m → ∃ i, t.slot (pth t.mask h k).j = .live i) : ∀ (d n : Nat), m - n = d → n ≤ m → ∃ e, n ≤ e ∧ e ≤ m ∧ (∀ k, n ≤ k → k < e → ∃ i, t.slot (pth t.mask h k).j = .live i ∧ hashAt i ≠ h) ∧ (e = m ∨ (e < m ∧ ∃ i, t.slot (pth t.mask h e).j = .live i ∧ hashAt i = h))
  | 0, n, hd, hn => ⟨n, Nat.le_refl _, hn, fun k h1 h2 => by omega, .inl (by omega)⟩
  | d + 1, n, hd, hn => by
    obtain ⟨i, hi⟩ := hL n (by omega)
    by_cases c : hashAt i = h
    · exact ⟨n, Nat.le_refl _, hn, fun k h1 h2 => by omega, .inr ⟨by omega, i, hi, c⟩⟩
    · obtain ⟨e, h1, h2, h3, h4⟩ := next_stop (hashAt := hashAt) hL d (n + 1) (by omega) (by omega)
      refine ⟨e, by omega, h2, fun k hk1 hk2 => ?_, h4⟩
      by_cases z : k = n
      · subst z; exact ⟨i, hi, c⟩
      · exact h3 k (by omega) hk2
theorem search_add {a b : Addr} {o : Obj} {es : Array (Int × Value)} {ep : Nat} {t : SetTable} {xs : List (List K × Addr)} {k : List K} {m : Nat} {Q : SetFound → Shared → Prop} (hu : A.units < cLine) (ho : s.heap.get? a = some o) (hd : o.data = .set es ep t) (T : Tab t es) (L : El knd s.heap es xs) (hb : IsTupleKey knd s.heap k b)
    (hm : m < 10 * turns t.mask) (hE : t.slot (pth t.mask (tupleKeyHash knd k) m).j = .empty) (hL : ∀ c, c < m → ∃ i, t.slot (pth t.mask (tupleKeyHash knd k) c).j = .live i)
    (q1 : k ∈ xs.map (·.1) → Q (.there none) s) (q2 : k ∉ xs.map (·.1) → Q (.free (pth t.mask (tupleKeyHash knd k) m).j false) s) :
    ∀ (fuel n : Nat) (stand : Option Probe), m - n < fuel → n ≤ m → stand.getD (t.probeStart (tupleKeyHash knd k)) = pth t.mask (tupleKeyHash knd k) n →
      (∀ x ∈ xs, x.1 = k → ∃ n' i : Nat, n ≤ n' ∧ n' < m ∧ t.place[i]? = some (pth t.mask (tupleKeyHash knd k) n').j ∧ es[i]? = some (tupleKeyHash knd k, Value.ref x.2)) →
      wpAny (model prog w) A (setSearchFrom a (.ref b) (tupleKeyHash knd k) true fuel stand) Q E s
  | 0, n, stand, h1, _, _, _ => absurd h1 (Nat.not_lt_zero _)
  | fuel + 1, n, stand, h1, h2, h3, h4 => by
    generalize hh : tupleKeyHash knd k = h at *
    obtain ⟨e, he1, he2, he3, he4⟩ := next_stop (t := t) (hashAt := fun i => (es[i]?.map (·.1)).getD 0) hL (m - n) n rfl h2
    obtain ⟨g1, g2⟩ := go_at (t := t) (hashAt := fun i => (es[i]?.map (·.1)).getD 0) (h := h) (m := e) (10 * turns t.mask) n he1 (by omega) he3
    unfold setSearchFrom
    refine wpAny_bind (wpAny_setState_of ho hd T.fits ?_)
    dsimp only
    have hgw : t.gaveWay = false := by unfold SetTable.gaveWay; rcases T.mask with z | z <;> rw [z] <;> rfl
    rw [hgw]
    simp only [Bool.false_eq_true, if_false]
    rw [h3]
    show wpAny _ _ (match probe.go t (fun i => (es[i]?.map (·.1)).getD 0) h (10 * turns t.mask) (pth t.mask h n) with | some met => _ | x => _) _ _ _
    rcases he4 with rfl | ⟨hlt, i, hi, hhi⟩
    · rw [g1 hE]
      dsimp only
      refine wpAny_pure (q2 fun hk => ?_)
      obtain ⟨x, hx, e⟩ := List.mem_map.mp hk
      obtain ⟨n', i, hn1, hn2, hp, hes⟩ := h4 x hx e
      obtain ⟨i', hi', hne⟩ := he3 n' hn1 hn2
      rw [slot_live T.rise hp] at hi'
      cases hi'
      exact hne (by rw [hes]; rfl)
    · rw [g2 i hi hhi]
      dsimp only
      have hpl := live_occ T.dum T.rise hi
      have his : i < es.size := by rw [← T.size]; exact (Array.getElem?_eq_some_iff.mp hpl).1
      obtain ⟨x, hx, ep'⟩ := L.get (Array.getElem?_eq_getElem his)
      have hesi : es[i]? = some (tupleKeyHash knd x.1, Value.ref x.2) := by rw [Array.getElem?_eq_getElem his, ep']
      have hxk := L.keys x hx
      have seen : ∀ v ∈ ((es.filter (·.1 == h)).toList.map (·.2)), ∃ k' b', v = Value.ref b' ∧ IsTupleKey knd s.heap k' b' := fun v hv => by
        obtain ⟨p, hp, rfl⟩ := List.mem_map.mp hv
        have hp' := (Array.mem_toList_iff.mp hp)
        have hp2 := (Array.mem_filter.mp hp').1
        obtain ⟨i', hi'⟩ := Array.mem_iff_getElem?.mp hp2
        obtain ⟨y, hy, rfl⟩ := L.get hi'
        exact ⟨_, _, rfl, L.keys y hy⟩
      by_cases cl : t.led = true
      case' pos =>
        rw [cl]
        simp only [Bool.not_true, Bool.false_eq_true, if_false]
      case' neg =>
        have cl : t.led = false := by simpa using cl
        rw [cl]
        simp only [Bool.not_false, if_true]
        refine wpAny_bind (notSeen hb seen ?_)
        simp only [Bool.false_eq_true, if_false]
      all_goals
        rw [hesi]
        dsimp only
        refine wpAny_bind (wpAny_holding (wpAny_eqBool_tuple hu hxk hb ?_))
        refine wpAny_bind (wpAny_setState_of ho hd T.fits ?_)
        dsimp only
        by_cases c : x.1 = k
        · rw [decide_eq_true c]
          simp only [Bool.and_self, if_true]
          exact wpAny_pure (q1 (List.mem_map.mpr ⟨x, hx, c⟩))
        · rw [decide_eq_false c]
          simp only [Bool.and_false, Bool.false_eq_true, if_false]
          have hsm : t.sameMemory t.moves t.mask = some true := by unfold sameMemory; rw [if_pos (by simp)]
          rw [hsm]
          dsimp only
          rw [if_pos rfl, hi]
          dsimp only
          rw [hesi]
          dsimp only
          refine wpAny_bind (wpAny_isSame_ref_self ?_)
          simp only [if_true]
          refine wpAny_bind (wpAny_pure ?_)
          dsimp only
          subst hh
          refine search_add hu ho hd T L hb hm hE hL q1 q2 fuel (e + 1) _ (by omega) (by omega) rfl fun x' hx' ek => ?_
          obtain ⟨n', i2, hn1, hn2, hp2, hes2⟩ := h4 x' hx' ek
          refine ⟨n', i2, ?_, hn2, hp2, hes2⟩
          rcases Nat.lt_trichotomy n' e with z | z | z
          · obtain ⟨i', hi', hne⟩ := he3 n' hn1 z
            rw [slot_live T.rise hp2] at hi'
            cases hi'
            exact absurd (by show (es[i2]?.map (·.1)).getD 0 = _; rw [hes2]; rfl) hne
          · subst z
            rw [slot_live T.rise hp2] at hi
            cases hi
            rw [hes2] at hesi
            injection hesi with hesi
            injection hesi with _ hesi
            injection hesi with hesi
            have hx2 := L.keys x' hx'
            rw [hesi] at hx2
            exact absurd ((hxk.inj hx2).trans ek) c
          · omega
end
end ST
namespace ST
open PySem PySem.SetTable
abbrev isFree (owner : Array (Option Nat)) (j : Nat) : Prop := owner.getD j (some 0) = none
theorem free_spec {mask : Nat} {h : Int} {owner : Array (Option Nat)} : ∀ (f k n : Nat), pth mask h n = rst mask (ii mask (bits h) k) (bits h / 32 ^ k) → (∀ m, m < n → ¬ isFree owner (pth mask h m).j) → (∃ r, k ≤ r ∧ r < k + f ∧ isFree owner (ii mask (bits h) r)) →
    ∃ j n', layClean.free mask owner f (ii mask (bits h) k) (bits h / 32 ^ k) = some j ∧ (pth mask h n').j = j ∧ isFree owner j ∧ ∀ m, m < n' → ¬ isFree owner (pth mask h m).j
  | 0, k, n, _, _, ⟨r, h1, h2, _⟩ => by omega
  | f + 1, k, n, hn, ho, ⟨r, h1, h2, h3⟩ => by
    have hrun := pth_run hn
    have hre : ii mask (bits h) k ≤ runEnd mask (ii mask (bits h) k) := by unfold runEnd; split <;> omega
    unfold layClean.free
    cases hf : (List.range (runEnd mask (ii mask (bits h) k) + 1 - ii mask (bits h) k)).find? fun c => (owner.getD (ii mask (bits h) k + c) (some 0)).isNone with
    | some c =>
      obtain ⟨hp, ix, hix, e, hb⟩ := List.find?_eq_some_iff_getElem.mp hf
      rw [List.getElem_range] at e
      subst e
      rw [List.length_range] at hix
      have hc := hrun ix (by omega)
      refine ⟨_, n + ix, rfl, by rw [hc], Option.isNone_iff_eq_none.mp hp, fun m hm => ?_⟩
      by_cases z : m < n
      · exact ho m z
      · have hc' := hrun (m - n) (by omega)
        rw [show n + (m - n) = m by omega] at hc'
        rw [hc']
        have := hb (m - n) (by omega)
        rw [List.getElem_range] at this
        intro hfree
        have hfree : owner.getD (ii mask (bits h) k + (m - n)) (some 0) = none := hfree
        rw [hfree] at this
        simp at this
    | none =>
      dsimp only
      have hall := List.find?_eq_none.mp hf
      have hrunocc : ∀ c, c ≤ runEnd mask (ii mask (bits h) k) - ii mask (bits h) k → ¬ isFree owner (ii mask (bits h) k + c) := fun c hc hfree => by
        have := hall c (List.mem_range.mpr (by omega))
        have hfree : owner.getD (ii mask (bits h) k + c) (some 0) = none := hfree
        rw [hfree] at this
        simp at this
      have hrk : r ≠ k := fun e => hrunocc 0 (Nat.zero_le _) (by rw [Nat.add_zero, ← e]; exact h3)
      have ed : bits h / 32 ^ k / 32 = bits h / 32 ^ (k + 1) := by rw [Nat.div_div_eq_div_mul, ← Nat.pow_succ]
      have hnext : pth mask h (n + (runEnd mask (ii mask (bits h) k) - ii mask (bits h) k) + 1) = rst mask (ii mask (bits h) (k + 1)) (bits h / 32 ^ (k + 1)) := by
        show adv mask (pth mask h (n + _)) = _
        rw [hrun _ (Nat.le_refl _)]
        unfold adv
        rw [if_neg (by show ¬ (runEnd mask (ii mask (bits h) k) - ii mask (bits h) k - (runEnd mask (ii mask (bits h) k) - ii mask (bits h) k) > 0); omega)]
        show Probe.mk _ _ _ _ _ = _
        unfold rst leap
        dsimp only
        rw [ed]
        rfl
      have ih := free_spec (mask := mask) (h := h) (owner := owner) f (k + 1) _ hnext (fun m hm => ?_) ⟨r, by omega, by omega, h3⟩
      · have el : leap mask (ii mask (bits h) k) (bits h / 32 ^ k) = (ii mask (bits h) (k + 1), bits h / 32 ^ (k + 1)) := by
          unfold leap
          rw [ed]
          rfl
        rw [el]
        exact ih
      · by_cases z : m < n
        · exact ho m z
        · have hc' := hrun (m - n) (by omega)
          rw [show n + (m - n) = m by omega] at hc'
          rw [hc']
          exact hrunocc _ (by omega)
structure Lay (mask : Nat) (hs : List Int) (owner : Array (Option Nat)) : Prop where
  size : owner.size = mask + 1
  lt : ∀ j c : Nat, owner[j]? = some (some c) → c < hs.length
  inj : ∀ j j' c : Nat, owner[j]? = some (some c) → owner[j']? = some (some c) → j = j'
  all : ∀ (c : Nat) (h : Int), hs[c]? = some h → ∃ j n, owner[j]? = some (some c) ∧ (pth mask h n).j = j ∧ ∀ m, m < n → ∃ c', owner[(pth mask h m).j]? = some (some c')
theorem occ_of {mask : Nat} {owner : Array (Option Nat)} (hsz : owner.size = mask + 1) {j : Nat} (hj : j ≤ mask) (h : ¬ isFree owner j) : ∃ c, owner[j]? = some (some c) := by
  have hlt : j < owner.size := by omega
  have e : owner[j]? = some owner[j] := Array.getElem?_eq_getElem hlt
  cases ho : owner[j] with
  | none => exact absurd (by show owner.getD j (some 0) = none; rw [Array.getD_eq_getD_getElem?, e, ho]; rfl) h
  | some c => exact ⟨c, by rw [e, ho]⟩
theorem Lay.step {mask : Nat} (hm : mask = 7 ∨ mask = 31) {hs : List Int} {owner : Array (Option Nat)} (L : Lay mask hs owner) (hz : hs.length ≤ mask) (h : Int) :
    ∃ j, layClean.free mask owner (turns mask) (bits h % (mask + 1)) (bits h) = some j ∧ Lay mask (hs ++ [h]) (owner.setIfInBounds j (some hs.length)) := by
  -- a free slot there is
  have ex : ∃ j, j ≤ mask ∧ isFree owner j := by
    apply Classical.byContradiction
    intro hc
    have occ : ∀ j, j ≤ mask → ∃ c, owner[j]? = some (some c) := fun j hj => occ_of L.size hj fun hf => hc ⟨j, hj, hf⟩
    have hsub : (List.range (mask + 1)).map (fun j => (owner.getD j none).getD 0) ⊆ List.range hs.length := fun c hcm => by
      obtain ⟨j, hj, rfl⟩ := List.mem_map.mp hcm
      obtain ⟨c, e⟩ := occ j (Nat.le_of_lt_succ (List.mem_range.mp hj))
      rw [Array.getD_eq_getD_getElem?, e]
      exact List.mem_range.mpr (L.lt _ _ e)
    have hnd : ((List.range (mask + 1)).map fun j => (owner.getD j none).getD 0).Nodup := by
      refine List.pairwise_map.mpr ((List.nodup_range (n := mask + 1)).imp_of_mem fun {a b} ha hb hne e => hne ?_)
      obtain ⟨c, ec⟩ := occ a (Nat.le_of_lt_succ (List.mem_range.mp ha))
      obtain ⟨c', ec'⟩ := occ b (Nat.le_of_lt_succ (List.mem_range.mp hb))
      rw [Array.getD_eq_getD_getElem?, Array.getD_eq_getD_getElem?, ec, ec'] at e
      have e : c = c' := e
      subst e
      exact L.inj _ _ _ ec ec'
    have := nodup_lenN hnd hsub
    rw [List.length_map, List.length_range, List.length_range] at this
    omega
  obtain ⟨j0, hj0, hfree0⟩ := ex
  obtain ⟨d, hd, e0⟩ : ∃ d, d ≤ mask ∧ lc mask d (ii mask (bits h) 12) = j0 := by
    have hi := ii_le mask (bits h) 12
    rcases hm with rfl | rfl
    · exact lc_all7 _ hi j0 hj0
    · exact lc_all31 _ hi j0 hj0
  have er : ii mask (bits h) (12 + d) = j0 := by rw [ii_lc (bits_lt h) d 12 (Nat.le_refl _), e0]
  obtain ⟨j, n', hfr, hpj, hfj, hocc⟩ := free_spec (mask := mask) (h := h) (owner := owner) (turns mask) 0 0 (by rw [Nat.pow_zero, Nat.div_one]; rfl) (fun m hm => absurd hm (Nat.not_lt_zero _)) ⟨12 + d, Nat.zero_le _, by unfold turns; omega, by rw [er]; exact hfree0⟩
  rw [Nat.pow_zero, Nat.div_one] at hfr
  have hjm : j ≤ mask := by have := pth_le (mask := mask) h n'; omega
  have hjs : j < owner.size := by rw [L.size]; omega
  have hjn : owner[j]? = some none := by
    have e : owner[j]? = some owner[j] := Array.getElem?_eq_getElem hjs
    have hf : owner.getD j (some 0) = none := hfj
    rw [Array.getD_eq_getD_getElem?, e] at hf
    rw [e]
    congr 1
  have get : ∀ i : Nat, (owner.setIfInBounds j (some hs.length))[i]? = if i = j then some (some hs.length) else owner[i]? := fun i => by
    rw [Array.getElem?_setIfInBounds]
    by_cases c : j = i
    · rw [if_pos c, if_pos hjs, if_pos c.symm]
    · rw [if_neg c, if_neg (Ne.symm c)]
  have keep : ∀ i c : Nat, owner[i]? = some (some c) → (owner.setIfInBounds j (some hs.length))[i]? = some (some c) := fun i c e => by
    rw [get, if_neg (fun z => by rw [z, hjn] at e; cases e)]
    exact e
  refine ⟨j, hfr, ⟨by rw [Array.size_setIfInBounds]; exact L.size, fun i c e => ?_, fun i i' c e e' => ?_, fun c hc e => ?_⟩⟩
  · rw [get] at e
    rw [List.length_append, List.length_singleton]
    split at e
    · cases e; omega
    · have := L.lt i c e; omega
  · rw [get] at e e'
    split at e
    · rename_i z
      cases e
      split at e'
      · rename_i z'; rw [z, z']
      · exact absurd (L.lt _ _ e') (Nat.lt_irrefl _)
    · split at e'
      · cases e'; exact absurd (L.lt _ _ e) (Nat.lt_irrefl _)
      · exact L.inj _ _ _ e e'
  · by_cases z : c < hs.length
    · rw [List.getElem?_append_left z] at e
      obtain ⟨jj, n, e1, e2, e3⟩ := L.all c hc e
      exact ⟨jj, n, keep _ _ e1, e2, fun m hm => let ⟨c', e'⟩ := e3 m hm; ⟨c', keep _ _ e'⟩⟩
    · have hcl : c = hs.length := by
        have := (List.getElem?_eq_some_iff.mp e).1
        rw [List.length_append, List.length_singleton] at this
        omega
      subst hcl
      rw [List.getElem?_append_right (Nat.le_refl _), Nat.sub_self] at e
      obtain rfl : h = hc := by simpa using e
      refine ⟨j, n', by rw [get, if_pos rfl], hpj, fun m hm => ?_⟩
      have hle := pth_le (mask := mask) h m
      obtain ⟨c', e'⟩ := occ_of L.size (by omega) (hocc m hm)
      exact ⟨c', keep _ _ e'⟩
theorem lay_all {mask : Nat} (hm : mask = 7 ∨ mask = 31) : ∀ (rest hs : List Int) (owner : Array (Option Nat)), Lay mask hs owner → hs.length + rest.length ≤ mask + 1 →
    ∃ owner', (rest.foldl (init := some (owner, hs.length)) fun acc h => do
      let (ow, k) ← acc
      let j ← layClean.free mask ow (turns mask) (bits h % (mask + 1)) (bits h)
      pure (ow.setIfInBounds j (some k), k + 1)) = some (owner', hs.length + rest.length) ∧ Lay mask (hs ++ rest) owner'
  | [], hs, owner, L, _ => ⟨owner, rfl, by rw [List.append_nil]; exact L⟩
  | h :: rest, hs, owner, L, hz => by
    rw [List.length_cons] at hz
    obtain ⟨j, ej, L'⟩ := L.step hm (by omega) h
    have hl : (hs ++ [h]).length = hs.length + 1 := by rw [List.length_append]; rfl
    obtain ⟨ow', e, L2⟩ := lay_all hm rest (hs ++ [h]) _ L' (by rw [hl]; omega)
    refine ⟨ow', ?_, by rw [List.append_assoc] at L2; exact L2⟩
    rw [List.foldl_cons]
    rw [hl] at e
    rw [List.length_cons, show hs.length + (rest.length + 1) = hs.length + 1 + rest.length by omega, ← e]
    congr 1
    show (do
      let j ← layClean.free mask owner (turns mask) (bits h % (mask + 1)) (bits h)
      pure (owner.setIfInBounds j (some hs.length), hs.length + 1)) = _
    rw [ej]
    rfl
end ST
namespace ST
open PySem PySem.SetTable
theorem layClean_spec {mask : Nat} (hm : mask = 7 ∨ mask = 31) (hashes : Array Int) (hz : hashes.size ≤ mask) : ∃ owner, layClean mask hashes = some owner ∧ Lay mask hashes.toList owner := by
  have L0 : Lay mask [] (Array.replicate (mask + 1) none) := by
    have no : ∀ j c : Nat, (Array.replicate (mask + 1) (none : Option Nat))[j]? ≠ some (some c) := fun j c e => by
      rw [Array.getElem?_replicate] at e
      split at e <;> cases e
    exact ⟨by rw [Array.size_replicate], fun j c e => absurd e (no j c), fun j j' c e => absurd e (no j c), fun c h e => by simp at e⟩
  obtain ⟨ow, e, L⟩ := lay_all hm hashes.toList [] _ L0 (by rw [Array.length_toList]; simp; omega)
  refine ⟨ow, ?_, L⟩
  unfold layClean
  rw [← Array.foldl_toList]
  have e' := congrArg (Option.map (·.1)) e
  exact e'
def liveOf (mask : Nat) (owner : Array (Option Nat)) : List (Nat × Nat) := (List.range (mask + 1)).filterMap fun j => (owner.getD j none).map (j, ·)
theorem live_mem {mask : Nat} {owner : Array (Option Nat)} (hs : owner.size = mask + 1) {j c : Nat} : (j, c) ∈ liveOf mask owner ↔ owner[j]? = some (some c) := by
  unfold liveOf
  rw [List.mem_filterMap]
  constructor
  · rintro ⟨j', hj', e⟩
    have hlt : j' < owner.size := by rw [hs]; exact List.mem_range.mp hj'
    rw [Array.getD_eq_getD_getElem?, Array.getElem?_eq_getElem hlt] at e
    cases ho : owner[j'] with
    | none => rw [Option.getD_some, ho] at e; cases e
    | some c' =>
      rw [Option.getD_some, ho] at e
      cases e
      rw [Array.getElem?_eq_getElem hlt, ho]
  · intro e
    have hlt := (Array.getElem?_eq_some_iff.mp e).1
    refine ⟨j, List.mem_range.mpr (by omega), ?_⟩
    rw [Array.getD_eq_getD_getElem?, e]
    rfl
theorem live_rise (mask : Nat) (owner : Array (Option Nat)) : (liveOf mask owner).Pairwise fun x y => x.1 < y.1 := by
  unfold liveOf
  refine List.Pairwise.filterMap _ (fun a a' hlt b hb b' hb' => ?_) List.pairwise_lt_range
  have h1 : b.1 = a := by
    cases ho : owner.getD a none with
    | none => rw [ho] at hb; cases hb
    | some c => rw [ho] at hb; cases hb; rfl
  have h2 : b'.1 = a' := by
    cases ho : owner.getD a' none with
    | none => rw [ho] at hb'; cases hb'
    | some c => rw [ho] at hb'; cases hb'; rfl
  rw [h1, h2]
  exact hlt
theorem live_perm {mask : Nat} {owner : Array (Option Nat)} {hs : List Int} (L : Lay mask hs owner) : ((liveOf mask owner).map (·.2)).Perm (List.range hs.length) := by
  refine (List.perm_ext_iff_of_nodup ?_ List.nodup_range).mpr fun c => ?_
  · refine List.pairwise_map.mpr ((live_rise mask owner).imp_of_mem fun {x y} hx hy hlt e => ?_)
    have h1 := (live_mem L.size (j := x.1) (c := x.2)).mp hx
    have h2 := (live_mem L.size (j := y.1) (c := y.2)).mp hy
    rw [← e] at h2
    have := L.inj _ _ _ h1 h2
    omega
  · rw [List.mem_range]
    constructor
    · intro h
      obtain ⟨x, hx, rfl⟩ := List.mem_map.mp h
      exact L.lt _ _ ((live_mem L.size (j := x.1) (c := x.2)).mp hx)
    · intro h
      obtain ⟨j, _, e, _⟩ := L.all c hs[c] (List.getElem?_eq_getElem h)
      exact List.mem_map.mpr ⟨(j, c), (live_mem L.size).mpr e, rfl⟩
theorem filterMap_all {α β : Type} (g : α → Option β) (d : α → β) : ∀ (l : List α), (∀ x ∈ l, g x = some (d x)) → l.filterMap g = l.map d
  | [], _ => rfl
  | x :: l, h => by
    rw [List.filterMap_cons, h x (List.mem_cons_self ..), List.map_cons, filterMap_all g d l fun y hy => h y (List.mem_cons_of_mem _ hy)]
theorem laid_tab {mask : Nat} (hm : mask = 7 ∨ mask = 31) {es : Array (Int × Value)} (hz : es.size ≤ mask) (finger moves : Nat) (led plain : Bool) :
    ∃ t' order, laid mask finger moves led plain (es.map (·.1)) = some (t', order) ∧ Tab t' (order.filterMap (es[·]?)) ∧ t'.mask = mask ∧ (order.filterMap (es[·]?)).toList.Perm es.toList := by
  obtain ⟨owner, e, L⟩ := layClean_spec hm (es.map (·.1)) (by rw [Array.size_map]; exact hz)
  have hlen : (es.map (·.1)).toList.length = es.size := by rw [Array.length_toList, Array.size_map]
  have hperm := live_perm L
  rw [hlen] at hperm
  refine ⟨{ mask, place := ((liveOf mask owner).map (·.1)).toArray, dummies := #[], finger, led, moves, plain }, ((liveOf mask owner).map (·.2)).toArray, by unfold laid; rw [e]; rfl, ?_⟩
  have hlt : ∀ x ∈ liveOf mask owner, x.2 < es.size := fun x hx => List.mem_range.mp (hperm.mem_iff.mp (List.mem_map.mpr ⟨x, hx, rfl⟩))
  let dv : Int × Value := (0, .none)
  have efm : ((((liveOf mask owner).map (·.2)).toArray).filterMap (es[·]?)).toList = (liveOf mask owner).map fun x => es.toList.getD x.2 dv := by
    rw [Array.toList_filterMap]
    show ((liveOf mask owner).map (·.2)).filterMap (es[·]?) = _
    rw [filterMap_all (es[·]?) (fun c => es.toList.getD c dv) _ fun c hc => ?_, List.map_map]
    · rfl
    · obtain ⟨x, hx, rfl⟩ := List.mem_map.mp hc
      rw [Array.getElem?_eq_getElem (hlt x hx), List.getD_eq_getElem?_getD, Array.getElem?_toList, Array.getElem?_eq_getElem (hlt x hx)]
      rfl
  generalize hes' : (((liveOf mask owner).map (·.2)).toArray).filterMap (es[·]?) = es' at *
  have hsz : es'.size = (liveOf mask owner).length := by rw [← Array.length_toList, efm, List.length_map]
  have hll : (liveOf mask owner).length = es.size := by have := hperm.length_eq; rw [List.length_map, List.length_range] at this; exact this
  have hpl : ∀ i j : Nat, (((liveOf mask owner).map (·.1)).toArray)[i]? = some j ↔ ∃ c, (liveOf mask owner)[i]? = some (j, c) := fun i j => by
    rw [List.getElem?_toArray, List.getElem?_map]
    constructor
    · intro h
      cases hx : (liveOf mask owner)[i]? with
      | none => rw [hx] at h; cases h
      | some x => rw [hx] at h; cases h; exact ⟨x.2, rfl⟩
    · rintro ⟨c, h⟩
      rw [h]; rfl
  have hocc : ∀ j c : Nat, owner[j]? = some (some c) → ∃ i : Nat, (((liveOf mask owner).map (·.1)).toArray)[i]? = some j := fun j c ho => by
    obtain ⟨i, hi⟩ := List.mem_iff_getElem?.mp ((live_mem L.size).mpr ho)
    exact ⟨i, (hpl i j).mpr ⟨c, hi⟩⟩
  refine ⟨⟨hm, rfl, fun i i' x y hii e1 e2 => ?_, ?_, fun i j e1 => ?_, ?_, fun i j h v e1 e2 => ?_⟩, rfl, ?_⟩
  · obtain ⟨c, h1⟩ := (hpl i x).mp e1
    obtain ⟨c', h2⟩ := (hpl i' y).mp e2
    obtain ⟨l1, g1⟩ := List.getElem?_eq_some_iff.mp h1
    obtain ⟨l2, g2⟩ := List.getElem?_eq_some_iff.mp h2
    have := List.pairwise_iff_getElem.mp (live_rise mask owner) i i' l1 l2 hii
    rw [g1, g2] at this
    exact this
  · show (((liveOf mask owner).map (·.1)).toArray).size = _
    rw [List.size_toArray, List.length_map, hsz]
  · obtain ⟨c, h1⟩ := (hpl i j).mp e1
    have := (live_mem L.size).mp (List.mem_of_getElem? h1)
    have := (Array.getElem?_eq_some_iff.mp this).1
    rw [L.size] at this
    show j ≤ mask
    omega
  · show es'.size ≤ mask
    omega
  · obtain ⟨c, h1⟩ := (hpl i j).mp e1
    have hm1 := List.mem_of_getElem? h1
    have how := (live_mem L.size).mp hm1
    have hc := hlt _ hm1
    have e2' : (h, v) = es.toList.getD c dv := by
      rw [← Array.getElem?_toList, efm, List.getElem?_map, h1] at e2
      exact (Option.some.inj e2).symm
    have hch : (es.map (·.1)).toList[c]? = some h := by
      rw [Array.getElem?_toList, Array.getElem?_map, Array.getElem?_eq_getElem hc]
      rw [List.getD_eq_getElem?_getD, Array.getElem?_toList, Array.getElem?_eq_getElem hc] at e2'
      have e2' : (h, v) = es[c] := e2'
      rw [← e2']
      rfl
    obtain ⟨j', n, o1, o2, o3⟩ := L.all c h hch
    have := L.inj _ _ _ o1 how
    subst this
    exact ⟨n, o2, fun m hm => let ⟨c', ho⟩ := o3 m hm; hocc _ c' ho⟩
  · rw [efm]
    have h1 : ((liveOf mask owner).map fun x => es.toList.getD x.2 dv) = ((liveOf mask owner).map (·.2)).map fun c => es.toList.getD c dv := by rw [List.map_map]; rfl
    rw [h1]
    refine (hperm.map _).trans ?_
    have h2 : (List.range es.size).map (fun c => es.toList.getD c dv) = es.toList := by
      apply List.ext_getElem?
      intro i
      rw [List.getElem?_map]
      by_cases hi : i < es.size
      · rw [List.getElem?_range hi, Array.getElem?_toList, Array.getElem?_eq_getElem hi]
        show some (es.toList.getD i dv) = _
        rw [List.getD_eq_getElem?_getD, Array.getElem?_toList, Array.getElem?_eq_getElem hi]
        rfl
      · rw [List.getElem?_eq_none (by rw [List.length_range]; omega), List.getElem?_eq_none (by rw [Array.length_toList]; omega)]
        rfl
    rw [h2]
end ST
namespace ST
open PySem PySem.SetTable
section
variable {prog : Program} {w : World} {A : Around} {E : Value → Shared → Prop} {s : Shared} {K : Type} [DecidableEq K] {knd : KeyKind prog w K}
theorem byV_hash (n : Nat) {v : Value} (h : carriedByValue v = true) : ∃ r, hashByValue n v = pure r := by
  cases v <;> first | exact ⟨_, rfl⟩ | (cases n <;> exact ⟨_, rfl⟩) | (simp [carriedByValue] at h)
theorem hashBy {ks : List K} {a : Addr} {Q : Bool → Shared → Prop} (hk : IsTupleKey knd s.heap ks a) (h : ∀ r, Q r s) : wpAny (model prog w) A (hashByValue 8 (.ref a)) Q E s := by
  have hT := hk.typeIs
  obtain ⟨o, items, n, ho, _, hd, hi⟩ := hk
  unfold hashByValue
  refine wpAny_bind (wpAny_specialOf hT F.slot_tuple_hash.lookup ?_)
  dsimp only
  refine wpAny_bind (wpAny_seqItems ho hd ?_)
  refine wpAny_bind ?_
  show wpAny _ _ (forIn items _ _) _ _ s
  rw [← Array.forIn_toList]
  refine wpAny_forIn_list _ (fun rest r s' => (r.1 = none) ∧ s' = s ∧ ∀ v ∈ rest, carriedByValue v = true) _ ?_ ?_ _ _ ⟨rfl, rfl, hi.byValue⟩
  · rintro v rest r s' ⟨hr, rfl, hall⟩
    obtain ⟨b, e⟩ := byV_hash 7 (hall v List.mem_cons_self)
    rw [e]
    refine wpAny_bind (wpAny_pure ?_)
    cases b with
    | true =>
      simp only [Bool.not_true, Bool.false_eq_true, if_false]
      exact wpAny_pure ⟨rfl, rfl, fun u hu' => hall u (List.mem_cons_of_mem _ hu')⟩
    | false =>
      simp only [Bool.not_false, if_true]
      exact wpAny_pure (wpAny_pure (h _))
  · rintro ⟨r1, r2⟩ s' ⟨hr, rfl, _⟩
    simp only at hr
    subst hr
    exact wpAny_pure (h _)
theorem wp_ite_bind {α β : Type} {c : Prop} [Decidable c] {M : Model} {x y : Sem α} {k : α → Sem β} {Q : β → Shared → Prop} (h : wpAny M A ((if c then x else y) >>= k) Q E s) : wpAny M A (if c then x >>= k else y >>= k) Q E s := by
  by_cases hc : c
  · rw [if_pos hc] at h ⊢; exact h
  · rw [if_neg hc] at h ⊢; exact h
theorem byAny {ks : List K} {a : Addr} {Q : Bool → Shared → Prop} (c : Bool) (hk : IsTupleKey knd s.heap ks a) (h : ∀ r, Q r s) : wpAny (model prog w) A (if c = true then hashByValue 8 (.ref a) else pure true) Q E s := by
  cases c with
  | true => rw [if_pos rfl]; exact hashBy hk h
  | false => rw [if_neg Bool.false_ne_true]; exact wpAny_pure (h _)
def SetH (knd : KeyKind prog w K) (h : Heap) (a : Addr) (xs : List (List K × Addr)) : Prop := ∃ o es ep t, h.get? a = some o ∧ o.ExactSet ∧ o.data = .set es ep t ∧ Tab t es ∧ El knd h es xs ∧ (t.mask = 7 → es.size ≤ 4)
theorem El.len {h : Heap} {es : Array (Int × Value)} {xs : List (List K × Addr)} (e : El knd h es xs) : es.size = xs.length := by
  have := e.perm.length_eq
  rw [Array.length_toList, List.length_map] at this
  exact this
theorem key_keep {h h' : Heap} {a b : Addr} {o : Obj} {es : Array (Int × Value)} {ep : Nat} {t : SetTable} {k : List K} (ho : h.get? a = some o) (hd : o.data = .set es ep t) (sb : Heap.SameBut a h h') (hk : IsTupleKey knd h k b) : IsTupleKey knd h' k b := by
  obtain ⟨o', items, n, ho', hc, hd', hi⟩ := hk
  have hne : b ≠ a := fun z => by
    rw [z, ho] at ho'
    obtain rfl := Option.some.inj ho'
    rw [hd] at hd'
    cases hd'
  exact ⟨o', items, n, (sb.2 b hne).trans ho', hc, hd', hi⟩
def reord (es : Array (Int × Value)) (l : Option (SetTable × Array Nat)) : Sem (Array (Int × Value) × SetTable) := do
  let some (t, order) := l | unsupported "internal:set-table-without-room"
  let e2 := order.filterMap (es[·]?)
  if e2.size != es.size then
    unsupported "internal:set-table-lost-an-element"
  pure (e2, t)
theorem relay {a : Addr} {o : Obj} {es : Array (Int × Value)} {ep : Nat} {t : SetTable} {Q : Unit → Shared → Prop} (ho : s.heap.get? a = some o) (hd : o.data = .set es ep t) (hf : t.fits es.size = true) (hz : es.size = 5)
    (h : ∀ es' t', Tab t' es' → t'.mask = 31 → es'.toList.Perm es.toList → Q () { s with heap := s.heap.update a (Obj.putSet es' t') }) : wpAny (model prog w) A (setRelay a (grown 5)) Q E s := by
  obtain ⟨t', order, e1, T', em, hp⟩ := laid_tab (mask := 31) (.inr rfl) (es := es) (by omega) t.finger (t.movedTo 31) t.led t.plain
  have eg : sizeAbove (grown 5) = 32 := by decide +kernel
  have er : t.relaid (es.map (·.1)) (grown 5) = some (t', order) := by unfold relaid; rw [eg]; exact e1
  unfold setRelay
  refine wpAny_bind (wpAny_setState_of ho hd hf ?_)
  dsimp only
  rw [eg, if_neg (by rw [sizeLine_eq]; decide)]
  show wpAny _ _ (reord es (t.relaid (es.map (·.1)) (grown 5)) >>= _) _ _ _
  rw [er]
  have hsz : (order.filterMap (es[·]?)).size = es.size := by have := hp.length_eq; rw [Array.length_toList, Array.length_toList] at this; exact this
  refine wpAny_bind ?_
  unfold reord
  dsimp only
  rw [if_neg (by rw [hsz]; simp)]
  refine wpAny_pure ?_
  dsimp only
  exact wpAny_storeSet_of ho hd (h _ _ T' em hp) (by rw [hsz, hz, sizeLine_eq]; decide)
theorem wp_setAdd {a b : Addr} {k : List K} {xs : List (List K × Addr)} {Q : Bool → Shared → Prop} (hu : A.units < cLine) (S : SetH knd s.heap a xs) (hb : IsTupleKey knd s.heap k b) (hz : xs.length ≤ 17)
    (h : ∀ r h' tk, Heap.SameBut a s.heap h' → SetH knd h' a (if k ∈ xs.map (·.1) then xs else xs ++ [(k, b)]) → Q r { s with heap := h', toks := tk }) : wpAny (model prog w) A (setAdd a (.ref b)) Q E s := by
  obtain ⟨o, es, ep, t, ho, hx, hd, T, L, h4⟩ := S
  have hlen := L.len
  unfold setAdd
  refine wpAny_holding (wpAny_bind (wpAny_pyHash_tuple hu hb ?_))
  generalize s.toks + (k.length + 1) = tk1
  unfold setAddHashed setAddHashedIn
  refine wpAny_holding (wpAny_bind (wpAny_setState_of (s := { s with toks := tk1 }) ho hd T.fits ?_))
  dsimp only
  have hbs : byScan (.ref b) es = false := rfl
  rw [hbs]
  simp only [Bool.false_eq_true, if_false]
  obtain ⟨m, hm, hE, hL⟩ := first_free T.mask T.dum T.rise (by rw [T.size]; exact T.room) (tupleKeyHash knd k)
  refine wpAny_bind ?_
  unfold setSearch
  refine search_add (s := { s with toks := tk1 }) hu ho hd T L hb hm hE hL (fun hk => ?_) (fun hk => ?_) 100000 0 none (by rcases T.mask with z | z <;> rw [z] at hm <;> simp only [turns] at hm <;> omega) (Nat.zero_le _) rfl fun x hxm ek => ?_
  · dsimp only
    refine wpAny_pure (h _ s.heap _ (Heap.SameBut.refl _ _) ?_)
    rw [if_pos hk]
    exact ⟨o, es, ep, t, ho, hx, hd, T, L, h4⟩
  · dsimp only
    refine wpAny_bind (wpAny_setState_of (s := { s with toks := tk1 }) ho hd T.fits ?_)
    dsimp only
    have hroom : es.size + 1 ≤ t.mask := by rcases T.mask with z | z <;> rw [z] <;> (first | (have := h4 z; omega) | omega)
    obtain ⟨T0, hpe⟩ := T.add hroom hE hL (.ref b) true
    have T1 := fun c : Bool => (T.add hroom hE hL (.ref b) c).1
    obtain ⟨t1, p, hput⟩ : ∃ t1 p, t.put (pth t.mask (tupleKeyHash knd k) m).j = (t1, p) := ⟨_, _, rfl⟩
    have hmask : t1.mask = t.mask := by have : (t.put (pth t.mask (tupleKeyHash knd k) m).j).1.mask = t.mask := rfl; rw [hput] at this; exact this
    rw [hput] at T1 hpe ⊢
    dsimp only at T1 hpe ⊢
    refine wp_ite_bind (wpAny_bind (byAny t1.plain (s := { s with toks := tk1 }) hb fun r => ?_))
    have hpl : (if r = true then t1 else { t1 with plain := false }) = { t1 with plain := if r = true then t1.plain else false } := by cases r <;> rfl
    rw [hpl]
    have T2 := T1 (if r = true then t1.plain else false)
    have hmask2 : ({ t1 with plain := if r = true then t1.plain else false } : SetTable).mask = t.mask := hmask
    generalize ({ t1 with plain := if r = true then t1.plain else false } : SetTable) = t2 at *
    have hz2 : (insertAt es p (tupleKeyHash knd k, Value.ref b)).size = es.size + 1 := ins_size _ _ _ hpe
    have hpm := ins_perm es p (tupleKeyHash knd k, Value.ref b) hpe
    generalize insertAt es p (tupleKeyHash knd k, Value.ref b) = es2 at *
    have ho2 : (s.heap.update a (Obj.putSet es2 t2)).get? a = some { o with data := .set es2 (ep + 1) t2 } := by
      have := Heap.get?_update_self (Obj.putSet es2 t2) ho (by rw [putSet_of es2 t2 hd]; rfl)
      rw [putSet_of es2 t2 hd] at this
      exact this
    have sb2 := Heap.SameBut.update s.heap a (Obj.putSet es2 t2)
    have elOf : ∀ (es3 : Array (Int × Value)) (h' : Heap), Heap.SameBut a s.heap h' → es3.toList.Perm es2.toList → El knd h' es3 (xs ++ [(k, b)]) := fun es3 h' sb hp3 => by
      refine ⟨(hp3.trans hpm).trans ?_, ?_, fun x hx' => ?_⟩
      · rw [List.map_append]
        exact ((L.perm.cons _).trans (List.perm_append_singleton _ _).symm)
      · rw [List.map_append, List.nodup_append]
        exact ⟨L.nd, by simp, fun y hy z hz' e => by
          rw [List.map_cons, List.map_nil, List.mem_singleton] at hz'
          rw [hz'] at e
          have e : y = k := e
          exact hk (e ▸ hy)⟩
      · rcases List.mem_append.mp hx' with hx' | hx'
        · exact key_keep ho hd sb (L.keys x hx')
        · rw [List.mem_singleton.mp hx']
          exact key_keep ho hd sb hb
    refine wpAny_bind (wpAny_storeSet_of (s := { s with toks := tk1 }) ho hd ?_ (by rw [hz2, sizeLine_eq]; omega))
    have hfill : t2.fill = es.size + 1 := by unfold fill; rw [T2.dum, T2.size, hz2]; rfl
    by_cases full : t2.tooFull = true
    · have hm7 : t.mask = 7 := by
        unfold tooFull at full
        rw [hfill, hmask2] at full
        have full := of_decide_eq_true full
        rcases T.mask with z | z
        · exact z
        · rw [z] at full; omega
      have h5 : es.size + 1 = 5 := by
        unfold tooFull at full
        rw [hfill, hmask2, hm7] at full
        have full := of_decide_eq_true full
        have := h4 hm7
        omega
      rw [full]
      simp only [Bool.not_false, Bool.and_self, if_true]
      rw [h5]
      refine wpAny_bind (relay (s := { s with heap := s.heap.update a (Obj.putSet es2 t2), toks := tk1 }) ho2 rfl T2.fits (by rw [hz2]; exact h5) fun es3 t3 T3 hm3 hp3 => ?_)
      have ho3 : ((s.heap.update a (Obj.putSet es2 t2)).update a (Obj.putSet es3 t3)).get? a = some { o with data := .set es3 (ep + 1 + 1) t3 } := by
        have := Heap.get?_update_self (Obj.putSet es3 t3) ho2 (by rw [putSet_of es3 t3 (o := { o with data := .set es2 (ep + 1) t2 }) rfl]; rfl)
        rw [putSet_of es3 t3 (o := { o with data := .set es2 (ep + 1) t2 }) rfl] at this
        exact this
      have sb3 := sb2.trans (Heap.SameBut.update _ a (Obj.putSet es3 t3))
      refine wpAny_pure (h _ _ _ sb3 ?_)
      rw [if_neg hk]
      exact ⟨_, es3, _, t3, ho3, hx, rfl, T3, elOf es3 _ sb3 hp3, fun z => by rw [hm3] at z; omega⟩
    · have full : t2.tooFull = false := by simpa using full
      rw [full]
      simp only [Bool.and_false, Bool.false_eq_true, if_false]
      refine wpAny_pure (h _ _ _ sb2 ?_)
      rw [if_neg hk]
      refine ⟨_, es2, _, t2, ho2, hx, rfl, T2, elOf es2 _ sb2 (List.Perm.refl _), fun z => ?_⟩
      unfold tooFull at full
      rw [hfill, z] at full
      have full := of_decide_eq_false full
      omega
  · -- one that is there is found in time
    have hmem : (tupleKeyHash knd x.1, Value.ref x.2) ∈ es.toList := L.perm.mem_iff.mpr (List.mem_map.mpr ⟨x, hxm, rfl⟩)
    obtain ⟨i, hi⟩ := List.mem_iff_getElem?.mp hmem
    rw [Array.getElem?_toList] at hi
    have his : i < t.place.size := by rw [T.size]; exact (Array.getElem?_eq_some_iff.mp hi).1
    obtain ⟨n, hn, hoc⟩ := T.path i _ _ _ (Array.getElem?_eq_getElem his) hi
    rw [ek] at hn hoc hi
    refine ⟨n, i, Nat.zero_le _, ?_, by rw [hn]; exact Array.getElem?_eq_getElem his, hi⟩
    rcases Nat.lt_trichotomy n m with z | z | z
    · exact z
    · subst z
      rw [hn, slot_live T.rise (Array.getElem?_eq_getElem his)] at hE
      cases hE
    · obtain ⟨i', hi', _⟩ := occ_live T.rise (hoc m z)
      rw [hi'] at hE
      cases hE
end
end ST
namespace ST
open PySem PySem.SetTable PySem.Spec PyProof.Rows
def onceK {α β : Type} [DecidableEq α] (acc : List (α × β)) : List (α × β) → List (α × β)
  | [] => acc
  | x :: l => onceK (if x.1 ∈ acc.map (·.1) then acc else acc ++ [x]) l
theorem onceK_take {α β : Type} [DecidableEq α] : ∀ (l acc : List (α × β)) (i : Nat) (x : α × β), l[i]? = some x → onceK acc (l.take (i + 1)) = if x.1 ∈ (onceK acc (l.take i)).map (·.1) then onceK acc (l.take i) else onceK acc (l.take i) ++ [x]
  | [], _, i, x, h => by simp at h
  | y :: l, acc, 0, x, h => by
    obtain rfl : y = x := by simpa using h
    rfl
  | y :: l, acc, i + 1, x, h => by
    rw [List.take_succ_cons, List.take_succ_cons]
    exact onceK_take l _ i x (by simpa using h)
theorem onceK_mem {α β : Type} [DecidableEq α] : ∀ {l acc : List (α × β)} {z : α × β}, z ∈ onceK acc l → z ∈ acc ∨ z ∈ l
  | [], _, _, h => .inl h
  | x :: l, acc, z, h => by
    rcases onceK_mem (l := l) h with h | h
    · split at h
      · exact .inl h
      · rcases List.mem_append.mp h with h | h
        · exact .inl h
        · rw [List.mem_singleton.mp h]; exact .inr (List.mem_cons_self ..)
    · exact .inr (List.mem_cons_of_mem _ h)
theorem onceK_len {α β : Type} [DecidableEq α] : ∀ (l acc : List (α × β)), (onceK acc l).length ≤ acc.length + l.length
  | [], acc => Nat.le_refl _
  | x :: l, acc => by
    have h1 := onceK_len l (if x.1 ∈ acc.map (·.1) then acc else acc ++ [x])
    have h2 : (if x.1 ∈ acc.map (·.1) then acc else acc ++ [x]).length ≤ acc.length + 1 := by
      split
      · omega
      · rw [List.length_append, List.length_singleton]; omega
    rw [List.length_cons]
    show (onceK _ l).length ≤ _
    omega
theorem onceK_nd {α β : Type} [DecidableEq α] : ∀ (l acc : List (α × β)), (acc.map (·.1)).Nodup → ((onceK acc l).length = acc.length + l.length ↔ ((acc ++ l).map (·.1)).Nodup)
  | [], acc, h => by rw [List.append_nil]; exact ⟨fun _ => h, fun _ => rfl⟩
  | x :: l, acc, h => by
    show (onceK (if x.1 ∈ acc.map (·.1) then acc else acc ++ [x]) l).length = _ ↔ _
    by_cases hx : x.1 ∈ acc.map (·.1)
    · rw [if_pos hx]
      have h1 := onceK_len l acc
      constructor
      · intro e
        rw [List.length_cons] at e
        omega
      · intro hn
        rw [List.map_append, List.nodup_append] at hn
        exact absurd rfl (hn.2.2 _ hx _ (List.mem_map.mpr ⟨x, List.mem_cons_self .., rfl⟩))
    · rw [if_neg hx]
      have hn' : ((acc ++ [x]).map (·.1)).Nodup := by
        rw [List.map_append, List.nodup_append]
        exact ⟨h, by simp, fun y hy z hz e => hx (by
          rw [List.map_cons, List.map_nil, List.mem_singleton] at hz
          rw [hz] at e
          have e : y = x.1 := e
          exact e ▸ hy)⟩
      have ih := onceK_nd l (acc ++ [x]) hn'
      rw [List.append_assoc] at ih
      rw [List.length_append, List.length_singleton] at ih
      rw [List.length_cons, show acc.length + (l.length + 1) = acc.length + 1 + l.length by omega]
      exact ih
section
variable {prog : Program} {w : World} {A : Around} {E : Value → Shared → Prop} {s : Shared} {K : Type} [DecidableEq K] {knd : KeyKind prog w K}
theorem SetH.move {h h' : Heap} {a : Addr} {xs : List (List K × Addr)} (S : SetH knd h a xs) (ha : ∀ o, h.get? a = some o → h'.get? a = some o) (hk : ∀ x ∈ xs, IsTupleKey knd h' x.1 x.2) : SetH knd h' a xs := by
  obtain ⟨o, es, ep, t, ho, hx, hd, T, L, h4⟩ := S
  exact ⟨o, es, ep, t, ha o ho, hx, hd, T, ⟨L.perm, L.nd, hk⟩, h4⟩
theorem key_kept {h0 h : Heap} {d it b : Addr} {k : List K} (hi : IsTupleKey knd h0 k b) (hd0 : h0.get? d = none) (hi0 : h0.get? it = none) (kp : ∀ b o, b ≠ d → b ≠ it → h0.get? b = some o → h.get? b = some o) : IsTupleKey knd h k b := by
  obtain ⟨o, its, n, ho, r⟩ := hi
  exact ⟨o, its, n, kp b o (fun z => by rw [z, hd0] at ho; cases ho) (fun z => by rw [z, hi0] at ho; cases ho) ho, r⟩
theorem upd_loop {R : Result → Shared → Prop} {S l I : Addr} {items : Array Value} {ks : List (List K × Addr)} {h0 : Heap} (hh : A.handled = none) (hu : A.units + 1 < cLine) (hP : items.toList = ks.map fun x => Value.ref x.2) (hk0 : ∀ x ∈ ks, IsTupleKey knd h0 x.1 x.2) (hlS : l ≠ S) (hlI : l ≠ I) (hSI : S ≠ I) (hz : ks.length ≤ 18)
    (hS0 : h0.get? S = none) (hI0 : h0.get? I = none) (hR : ∀ h' tk, SetH knd h' S (onceK [] ks) → (∀ b o, b ≠ S → b ≠ I → h0.get? b = some o → h'.get? b = some o) → R (.ok (.ret .none)) { s with heap := h', toks := tk }) :
    ∀ (m i : Nat) (h : Heap) (tk : Nat), items.size - i = m → i ≤ items.size → h.IsListIter I l i → h.IsList l items → SetH knd h S (onceK [] (ks.take i)) → (∀ b o, b ≠ S → b ≠ I → h0.get? b = some o → h.get? b = some o) →
      codeAny (model prog w) A (.builtin "set.update.loop" ⟨[.ref S, .ref I], []⟩) R { s with heap := h, toks := tk } := by
  have hsz : items.size = ks.length := by rw [← Array.length_toList, hP, List.length_map]
  have sub : ∀ i, ∀ x ∈ onceK [] (ks.take i), x ∈ ks := fun i x hx => (onceK_mem hx).elim (fun z => nomatch z) fun z => List.mem_of_mem_take z
  intro m
  induction m with
  | zero =>
    intro i h tk hm hi it li st kp
    refine codeAny_builtin PyProof.Rows.F.entry_set_update_loop ?_; rw [Around.under_plainId PyProof.Rows.F.plain_set_update_loop _]; show wpAny _ A.in1 (pyNext (.ref I) >>= _) _ _ _
    refine wpAny_bind (wpAny_pyNext_list_end hh it li (by simp; omega) fun h' hk' => ?_)
    have e : ks.take i = ks := List.take_of_length_le (by omega)
    rw [e] at st
    exact wpAny_pure (hR h' _ (st.move (fun o ho => hk' S o hSI ho) fun x hx => key_kept (hk0 x ((onceK_mem hx).elim (fun z => nomatch z) id)) hS0 hI0 fun b o n1 n2 e => hk' b o n2 (kp b o n1 n2 e)) fun b o n1 n2 e => hk' b o n2 (kp b o n1 n2 e))
  | succ m ih =>
    intro i h tk hm hi it li st kp
    have hlt : i < items.size := by omega
    have hgk : ks[i]? = some ks[i] := List.getElem?_eq_getElem (by omega)
    have hgi : items[i]? = some (Value.ref ks[i].2) := by rw [← Array.getElem?_toList, hP, List.getElem?_map, hgk]; rfl
    refine codeAny_builtin PyProof.Rows.F.entry_set_update_loop ?_; rw [Around.under_plainId PyProof.Rows.F.plain_set_update_loop _]; show wpAny _ A.in1 (pyNext (.ref I) >>= _) _ _ _
    refine wpAny_bind (wpAny_pyNext_list_item (x := Value.ref ks[i].2) it li hgi fun h1 hI1 hs1 => ?_)
    have kp1 : ∀ b o, b ≠ S → b ≠ I → h0.get? b = some o → h1.get? b = some o := fun b o n1 n2 e => (hs1.2 b n2).trans (kp b o n1 n2 e)
    have st1 : SetH knd h1 S (onceK [] (ks.take i)) := st.move (fun o ho => (hs1.2 S hSI).trans ho) fun x hx => key_kept (hk0 x (sub i x hx)) hS0 hI0 kp1
    have hl17 : (onceK [] (ks.take i)).length ≤ 17 := by
      have e1 := onceK_len (ks.take i) []
      have e2 : (ks.take i).length ≤ i := by rw [List.length_take]; omega
      simp only [List.length_nil] at e1
      omega
    show wpAny _ A.in1 (holding [Value.ref ks[i].2] (setAdd S (.ref ks[i].2)) >>= _) _ _ _
    refine wpAny_bind (wpAny_holding (wp_setAdd (s := { s with heap := h1, toks := tk }) (A := A.in1) (show A.in1.units < cLine from hu) st1 (key_kept (hk0 _ (List.getElem_mem _)) hS0 hI0 kp1) hl17 fun r h2 tk2 sb2 st2 => ?_))
    obtain ⟨ol, hol, rl⟩ := li
    obtain ⟨oi, hoi, ri⟩ := hI1
    refine wpAny_pure ⟨plainId_quiet PyProof.Rows.F.plain_set_update_loop _, ih (i + 1) h2 tk2 (by omega) hlt ⟨oi, (sb2.2 I (Ne.symm hSI)).trans hoi, ri⟩ ⟨ol, (sb2.2 l hlS).trans ((hs1.2 l hlI).trans hol), rl⟩ ?_ fun b o n1 n2 e => (sb2.2 b n1).trans (kp1 b o n1 n2 e)⟩
    rw [onceK_take ks [] i ks[i] hgk]
    by_cases hc : ks[i].1 ∈ (onceK [] (ks.take i)).map (·.1)
    · rw [if_pos hc] at st2 ⊢; exact st2
    · rw [if_neg hc] at st2 ⊢; exact st2
end
end ST
namespace ST
open PySem PySem.SetTable PySem.Spec PyProof.Rows
section
variable {prog : Program} {w : World} {A : Around} {E : Value → Shared → Prop} {s : Shared} {K : Type} [DecidableEq K] {knd : KeyKind prog w K}
abbrev freshSet (led : Bool) : Obj := { cls := .type "set", dict := none, data := .set #[] 0 (.fresh 0 0 led) }
theorem fresh_setH (h : Heap) (a : Addr) (led : Bool) (ho : h.get? a = some (freshSet led)) : SetH knd h a [] := by
  refine ⟨_, #[], 0, _, ho, ⟨rfl, rfl, rfl⟩, rfl, ⟨.inl rfl, rfl, ?_, rfl, ?_, Nat.zero_le _, ?_⟩, ⟨by simp, List.nodup_nil, fun x hx => nomatch hx⟩, fun _ => Nat.zero_le _⟩
  · intro i j x y _ e; simp [SetTable.fresh] at e
  · intro i j e; simp [SetTable.fresh] at e
  · intro i j h v e; simp [SetTable.fresh] at e
set_option maxRecDepth 100000 in
set_option maxHeartbeats 3200000 in
theorem call_set {l : Addr} {items : Array Value} {ks : List (List K × Addr)} {Q : Value → Shared → Prop} (hh : A.handled = none) (hu : A.units + 8 < cLine) (hl : s.heap.IsList l items) (hP : items.toList = ks.map fun x => Value.ref x.2) (hk0 : ∀ x ∈ ks, IsTupleKey knd s.heap x.1 x.2) (hz : ks.length ≤ 18)
    (h : ∀ (h' : Heap) (tk : Nat), SetH knd h' s.heap.objs.size (onceK [] ks) → (∀ b o, s.heap.get? b = some o → h'.get? b = some o) → Q (.ref s.heap.objs.size) { s with heap := h', toks := tk }) : wpAny (model prog w) A (call (.type "set") [.ref l]) Q E s := by
  obtain ⟨c, tl, hmro⟩ := PySem.F.called_set.mro; have hmade := PySem.F.called_set.made; have hsub := PySem.F.called_set.sub
  refine wpAny_call (codeAny_of_tree ?_); show wpAny _ _ (callAny (.type "set") _) _ _ _
  refine wpAny_pure ⟨Code.quiet_builtin _ (by decide +kernel), codeAny_builtin PySem.F.entry_type_call ?_⟩; rw [Around.under_plain (weight_type_call_type "set" [.ref l] []) rfl]
  have h1 := PySem.F.called_set.notType; have h2 := PySem.F.called_set.canCreate; have hct := PySem.F.typeCall_set_1 (.ref l)
  repeat (any_goals (first | assumption | wp_step))
  refine codeAny_mono (code_set_new_1 (.ref l) (E := E) (Q₁ := fun obj s₁ => ∃ led : Bool, obj = .ref s.heap.objs.size ∧ s₁ = { s with heap := s.heap.push (freshSet led) }) fun led => ⟨led, rfl, rfl⟩) fun r s₁ hr => ?_
  cases r with
  | error e => exact hr
  | ok fl =>
    cases fl with
    | ret obj =>
      obtain ⟨led, rfl, rfl⟩ := hr
      have hS : (s.heap.push (freshSet led)).get? s.heap.objs.size = some (freshSet led) := Heap.get?_push_size _ rfl
      have hT : Shared.TypeIs { s with heap := s.heap.push (freshSet led) } (.ref s.heap.objs.size) "set" := ⟨_, hS, rfl⟩
      have hli := PySem.F.called_set.init.lookup; have hbi := PySem.F.called_set.init.bind (.ref s.heap.objs.size)
      repeat (any_goals (first | assumption | wp_step))
      refine codeAny_mono (codeAny_call_builtin (R := wants (fun r s₂ => r = .none ∧ ∃ h' tk, s₂ = { s with heap := h', toks := tk } ∧ SetH knd h' s.heap.objs.size (onceK [] ks) ∧ (∀ b o, s.heap.get? b = some o → h'.get? b = some o)) E) PySem.F.called_set.init.plain PySem.F.entry_set_init (check_set_init_1 hT ?_)) fun r₂ s₂ hr₂ => ?_
      · obtain ⟨ol, hol, hcl, nl, hdl⟩ := hl
        obtain ⟨ocls, odict, odata, oslots⟩ := ol
        simp only at hcl hdl
        subst hcl; subst hdl
        have hol' : (s.heap.push (freshSet led)).get? l = some { cls := .type "list", dict := odict, data := .seq items nl, slots := oslots } := Heap.get?_push_of_some _ hol
        have hsls := PySem.F.sub_list_set; have hslf := PySem.F.sub_list_frozenset; have hne : (Value.type "list" == Value.type "dict") = false := by decide
        have hl1 : (s.heap.push (freshSet led)).IsList l items := ⟨_, hol', rfl, nl, rfl⟩
        unfold Builtin.«set.__init__» noKeywords Builtin.Frozenset.updateFrom
        generalize hPI : pyIter = PI
        wp_walk
        subst hPI
        refine wpAny_pyIter_list hl1 ?_; refine wpAny_bind (wpAny_runValue ?_)
        have hlS : l < s.heap.objs.size := Heap.lt_size hol
        have hh3 : A.in1.in1.in1.handled = none := by simp [hh]
        have e1 : (s.heap.push (freshSet led)).objs.size = s.heap.objs.size + 1 := Heap.size_push ..
        refine upd_loop (A := A.in1.in1) (s := s) (knd := knd) (h0 := s.heap) (ks := ks) (items := items) (l := l) hh3 ?_ hP hk0 (Nat.ne_of_lt hlS) (by rw [e1]; exact Nat.ne_of_lt (Nat.lt_succ_of_lt hlS)) (by rw [e1]; exact Nat.ne_of_lt (Nat.lt_succ_self _)) hz (Heap.get?_none_of_le (Nat.le_refl _)) (Heap.get?_none_of_le (by rw [e1]; exact Nat.le_succ _)) (fun h' tk hD hk => ?_) items.size 0 _ _ (by simp) (Nat.zero_le _) ⟨_, Heap.get?_push_size _ rfl, rfl, rfl⟩ (hl1.push _) ?_ (fun b o _ _ e => Heap.get?_push_of_some _ (Heap.get?_push_of_some _ e))
        · show A.units + 1 + 1 + 1 < cLine
          omega
        · show wpAny _ _ _ _ _ _
          refine wpAny_pure ?_
          show wpAny _ _ (ret Value.none) _ _ _
          exact wpAny_pure ⟨rfl, h', tk, rfl, hD, fun b o e => hk b o (Nat.ne_of_lt (Heap.lt_size e)) (by rw [e1]; exact Nat.ne_of_lt (Nat.lt_succ_of_lt (Heap.lt_size e))) e⟩
        · exact fresh_setH _ _ led (Heap.get?_push_of_some _ hS)
      · cases r₂ with
        | error e => exact hr₂
        | ok fl₂ =>
          cases fl₂ with
          | ret r =>
            obtain ⟨rfl, h', tk, rfl, hS', hk'⟩ := hr₂
            repeat (any_goals (first | assumption | wp_step))
            exact h _ _ hS' hk'
          | _ => exact hr₂.elim
    | _ => exact hr.elim
end
end ST
namespace L2
open PySem PySem.Spec PyProof.Rows
section
variable {X : Cx}
theorem key_ofT {pins : List (Addr × Obj)} {σ : St} {H : Hp} {s : Shared} {a : Addr} {u : List Str} (I : Inv X pins σ H s) (h : SqT X.K H a (u.map V.str)) : (tupleKind (mixKind X.prog X.w)).is s.heap (u.map Sum.inr) a := by
  obtain ⟨its, r, ⟨o, h1, h2, n, h3⟩, _⟩ := I.tuple h
  have e : u.map V.str = ((u.map Sum.inr : List Key)).map kV := by rw [List.map_map]; rfl
  rw [e] at r
  exact ⟨o, its.toArray, n, h1, h2, h3, by simpa using items_are r⟩
def unlike (rs : List (Addr × List Str)) : Nat := (ST.onceK [] (rs.map fun r => ((r.2.map Sum.inr : List Key), r.1))).length
theorem unlike_iff (rs : List (Addr × List Str)) : unlike rs = rs.length ↔ (rs.map (·.2)).Nodup := by
  have h := ST.onceK_nd (rs.map fun r => ((r.2.map Sum.inr : List Key), r.1)) [] List.nodup_nil
  rw [List.length_map, List.length_nil, Nat.zero_add, List.nil_append, List.map_map] at h
  unfold unlike
  rw [h]
  have e : rs.map ((fun x => x.1) ∘ fun r : Addr × List Str => ((r.2.map Sum.inr : List Key), r.1)) = (rs.map (·.2)).map fun u => (u.map Sum.inr : List Key) := by rw [List.map_map]; rfl
  rw [e]
  constructor
  · intro hn
    exact (List.pairwise_map.mp hn).imp fun hne e => hne (by rw [e])
  · intro hn
    exact List.pairwise_map.mpr (hn.imp fun hne e => hne (Co.inrT_inj e))
def tLenSet (K : PySem.W.Frag) (te : TE) : TE := fun σ H Q => tCons te tNil σ H fun vs H1 => ∃ l, ∃ rs : List (Addr × List Str), vs = [.ref l] ∧ SqL K H1 l (rs.map fun r => V.ref r.1) ∧ rs.length ≤ 18 ∧ (∀ r ∈ rs, SqT K H1 r.1 (r.2.map V.str)) ∧ Q (.int (unlike rs)) H1
variable {e : Expr} {te : TE} {p p2 pos pos2 : Pos}
theorem pe_lenSet (hc : X.calm = true) (hu : X.A.units + 8 < cLine) (hg : Gl X "len") (hm : X.mg "len" = none) (hg2 : Gl X "set") (hm2 : X.mg "set" = none) (hE : PE X e te)
    (he2 : starEach [e] X.env = (false, eval e X.env) :: starEach [] X.env := by rfl) (he : starEach [Expr.Call (.Name "set" p2) [e] [] pos2] X.env = [(false, eval (Expr.Call (.Name "set" p2) [e] [] pos2) X.env)] := by rfl) :
    PE X (.Call (.Name "len" p) [.Call (.Name "set" p2) [e] [] pos2] [] pos) (tLenSet X.K te) := by
  intro pins s σ H Q I h
  refine wpAny_Call_Name_kw (ld_blt I hg hm (u := .builtin "len") rfl ?_ (by decide) (by decide))
  refine PyProof.Rows.callWith_builtin1 (e := Expr.Call (.Name "set" p2) [e] [] pos2) (rest := []) ?_ he rfl
  rw [he]
  refine Calls.spliced_cons ?_
  refine wpAny_Call_Name_kw (ld_blt I hg2 hm2 (u := .type "set") rfl ?_ (by decide) (by decide))
  refine PyProof.Rows.callWith_type1 (thn ((pa_cons hE pa_nil he2) pos2 pins s σ H (fun vs H1 => ∃ l, ∃ rs : List (Addr × List Str), vs = [.ref l] ∧ SqL X.K H1 l (rs.map fun r => V.ref r.1) ∧ rs.length ≤ 18 ∧ (∀ r ∈ rs, SqT X.K H1 r.1 (r.2.map V.str)) ∧ Q (.int (unlike rs)) H1) I ?_) fun us s1 ⟨vs, H1, I1, r1, l, rs, ev, hq, hz, hall, q1⟩ => ?_) he2 rfl
  · exact h
  subst ev
  obtain ⟨u, rfl, ru⟩ := vals1 r1
  cases ru
  obtain ⟨its, ri, pl, hzz⟩ := I1.list hq
  have eits : its = rs.map fun r => Value.ref r.1 := by
    clear q1 hall hz hq h pl hzz
    induction rs generalizing its with
    | nil => cases ri; rfl
    | cons r rs ih =>
      cases ri with
      | cons a b => cases a; rw [ih _ b, List.map_cons]
  refine ST.call_set (knd := mixKind X.prog X.w) (ks := rs.map fun r => ((r.2.map Sum.inr : List Key), r.1)) (I.ok.hd hc) hu pl.isList (by rw [eits, List.map_map]; rfl) (fun x hx => ?_) (by rw [List.length_map]; exact hz) fun h' tk hS kp => ?_
  · obtain ⟨r, hr, rfl⟩ := List.mem_map.mp hx
    exact key_ofT I1 (hall r hr)
  refine Calls.spliced_nil ?_
  obtain ⟨o, es, ep, t, ho, hex, hd, T, L, _⟩ := hS
  have hlen := L.len
  have hle := ST.onceK_len (rs.map fun r => ((r.2.map Sum.inr : List Key), r.1)) []
  rw [List.length_nil, List.length_map] at hle
  refine PySem.call_len_set (s := { s1 with heap := h', toks := tk }) ho hex hd T.fits (by rw [hlen]; omega) ?_
  have ev : EP X pins σ Q (Value.int (es.size : Int) (tk + 1)) { s1 with heap := h', toks := tk + 1 + 1 } := ⟨.int (unlike rs), H1, I1.kept (t' := tk + 1 + 1) kp, ⟨tk + 1, by rw [hlen]; rfl⟩, q1⟩
  exact ev
end
end L2
namespace HX
open PySem
theorem note_frame {env env' : Env} {x : Value} (h : env.frame = env'.frame) : noteFrame x env = noteFrame x env' := by
  unfold noteFrame frameOf
  rw [h]
section
variable {α : Type} {M : Model} {A : Around} {E : Value → Shared → Prop} {s : Shared} {base : Heap} {env : Env} {outer : List Env} {L e T : Addr} {cls fl : Value}
theorem Tb.sameBut {h h' : Heap} {C : Addr} (t : Tb h e T cls fl) (sb : Heap.SameBut C h h') (h1 : e ≠ C) (h2 : T ≠ C) : Tb h' e T cls fl := by
  obtain ⟨oe, vs, oT, ts, hTe, he, hc, hd, h1', hT, hdT, h3⟩ := t
  exact ⟨oe, vs, oT, ts, hTe, sb.extBut _ _ h1 he, hc, hd, h1', sb.extBut _ _ h2 hT, hdT, h3⟩
theorem setAny {fr : Option Addr} {Q : Unit → Shared → Prop} (t : Tb s.heap e T cls fl) (h : ∀ h', Mvd [] [T] s.heap h' → Tb h' e T cls (fr.elim Value.none fun f => rawInt f) → Q () { s with heap := h' }) : wpAny M A (setFlight (.ref e) fr) Q E s := by
  obtain ⟨oe, vs, oT, ts, hTe, he, hc, hd, h1, hT, hdT, h3⟩ := t
  have z3 : 3 < ts.size := (Array.getElem?_eq_some_iff.mp h3).1
  unfold setFlight
  refine wpAny_bind (wpAny_field he hd h1 ?_)
  rw [if_pos (show (Value.ref T != Value.none) = true by simp)]
  refine wpAny_setField hT hdT z3 (h _ ⟨?_, fun b o _ b2 eb => ?_, fun b o b2 eb => ?_⟩ ?_)
  · rw [Heap.size_after_update]; exact Nat.le_refl _
  · rw [Heap.get?_update_other _ _ fun z => b2 (by simp [z])]; exact eb
  · exact ⟨o.slots, by rw [Heap.get?_update_other _ _ fun z => b2 (by simp [z])]; exact eb⟩
  · have d3 := Obj.data_mapFields hdT (·.setIfInBounds 3 (fr.elim Value.none fun f => rawInt f))
    exact ⟨oe, vs, _, _, hTe, by rw [Heap.get?_update_other _ _ hTe]; exact he, hc, hd, h1, Heap.get?_update_self _ hT (Obj.isFreed_of_fields d3), d3, by simp [z3]⟩
theorem pass_on {what : String} {cenv : Env} {Q : α → Shared → Prop} (t : Tb s.heap e T cls fl) (h : ∀ h', Mvd [] [T] s.heap h' → Tb h' e T cls (cenv.frame.elim Value.none fun f => rawInt f) → E (.ref e) { s with heap := h' }) :
    wpAny M A (passOn what (.ref e) cenv : Sem α) Q E s := by
  obtain ⟨oe, vs, oT, ts, hTe, he, hc, hd, h1, hT, hdT, h3⟩ := id t
  unfold passOn
  refine wpAny_bind (wpAny_field he hd h1 ?_)
  rw [if_neg (show ¬ ((Value.ref T == Value.none) = true) by simp)]
  have go : wpAny M A (setFlight (.ref e) cenv.frame >>= fun _ => (throw (Value.ref e) : Sem α)) Q E s := wpAny_bind (setAny t fun h' m t' => wpAny_throw (h h' m t'))
  first
    | exact wpAny_bind (wpAny_pure go)
    | exact go
theorem leave_any {Q : Unit → Shared → Prop} (hfr : A.frames = some (env :: outer)) (hl : s.heap.FunFrames base (env :: outer)) (hf : env.frame = some L) (t : Tb s.heap e T cls fl)
    (h : ∀ h' T', (T' = T ∨ T' = s.heap.objs.size) → Mvd ((env :: outer).filterMap (·.frame)) [e, T] s.heap h' → Tb h' e T' cls .none → Q () { s with heap := h' }) : wpAny M A (leaving env (.ref e)) Q E s := by
  by_cases c : fl = rawInt L
  · subst c
    obtain ⟨oe, vs, oT, ts, hTe, he, hc, hd, h1, hT, hdT, h3⟩ := id t
    unfold leaving
    refine wpAny_bind (wpAny_noteFrame_inFlight hf he hd h1 hT hdT h3 ?_)
    exact setNone t fun h' m t' => h h' T (.inl rfl) ⟨m.size, fun b o _ b2 => m.keep b o (by simp) (fun z => b2 (by rw [List.mem_singleton.mp z]; simp)), fun b o b2 => m.slot b o (fun z => b2 (by rw [List.mem_singleton.mp z]; simp))⟩ t'
  · obtain ⟨oe, vs, oT, ts, hTe, he, hc, hd, h1, hT, hdT, h3⟩ := id t
    subst hc
    unfold leaving
    refine wpAny_bind ?_
    unfold noteFrame
    simp only [hf]
    refine wpAny_bind (wpAny_field he hd h1 ?_)
    rw [if_pos (show (Value.ref T != Value.none) = true by simp)]
    refine wpAny_bind (wpAny_field hT hdT h3 ?_)
    rw [if_neg (show ¬ ((fl == rawInt L) = true) by simpa using c)]
    refine wpAny_bind (wpAny_setField hT hdT (Array.getElem?_eq_some_iff.mp h3).1 ?_)
    have oth : ∀ b, b ≠ T → (s.heap.update T (Obj.mapFields (·.setIfInBounds 3 Value.none))).get? b = s.heap.get? b := fun b hb => Heap.get?_update_other _ _ (Ne.symm hb)
    have hz : (s.heap.update T (Obj.mapFields (·.setIfInBounds 3 Value.none))).objs.size = s.heap.objs.size := Heap.size_after_update ..
    have nT : ∀ b o, s.heap.get? b = some o → (∀ vs, o.data ≠ .fields vs) → b ≠ T := fun b o hb hnf q => by
      rw [q, hT] at hb
      cases hb
      exact hnf ts hdT
    refine entry (s := { s with heap := s.heap.update T (Obj.mapFields (·.setIfInBounds 3 Value.none)) }) hfr (hl.of_keeps fun b o hb hnf => ⟨o, (oth b (nT b o hb hnf)).trans hb, rfl⟩) hf ((oth e (Ne.symm hTe)).trans he) hd (Array.getElem?_eq_some_iff.mp h1).1 fun h' m t' => ?_
    have m' : Mvd ((env :: outer).filterMap (·.frame)) [e, T] s.heap h' :=
      ⟨by have := m.size; rw [hz] at this; exact this, fun b o b1 b2 eb => m.keep b o b1 (fun z => b2 (by rw [List.mem_singleton.mp z]; simp)) ((oth b fun z => b2 (by simp [z])).trans eb),
        fun b o b2 eb => m.slot b o (fun z => b2 (by rw [List.mem_singleton.mp z]; simp)) ((oth b fun z => b2 (by simp [z])).trans eb)⟩
    have t1 : Tb h' e s.heap.objs.size oe.cls (rawInt L) := by
      have : Tb h' e (s.heap.update T (Obj.mapFields (·.setIfInBounds 3 Value.none))).objs.size oe.cls (rawInt L) := t'
      rw [hz] at this
      exact this
    refine setNone t1 fun h2 m2 t2 => h h2 _ (.inr rfl) (m'.trans ⟨m2.size, fun b o _ b2 => m2.keep b o (by simp) b2, m2.slot⟩ fun b hb => .inr (by rw [List.mem_singleton.mp hb]; exact Heap.get?_none_of_le (Nat.le_refl _))) t2
end
end HX
namespace L2
open PySem PySem.Spec PyProof.Rows
def Leaves (X : Cx) (E : XK) : Prop := ∀ (pins : List (Addr × Obj)) (σ : St) (H : Hp) (s : Shared) (e T : Addr) (cls fl : Value), Inv X pins σ H s → HX.Tb s.heap e T cls fl → X.s₀.heap.get? e = none → X.s₀.heap.get? T = none → H e = none → H T = none → E cls none H → X.xe (.ref e) s
section
variable {P : Program} {w : World} {K : PySem.W.Frag} {mg : Str → Option Value} {base : Heap} {N : List Str} {qual : Str} {scope : Scope} {f : Addr} {cd : Value} {A : Around} {outer : List Env} {s0 : Shared} {H0 : Hp} {E : XK}
theorem leaves_cx : Leaves (cxOf (CXE P w) P w K mg base N qual scope f cd A outer s0 H0 E) E := by
  intro pins σ H1 s' e T cls fl J tb le lT ne nT hE
  have sz2 : s0.heap.objs.size ≤ s'.heap.objs.size := J.sz
  refine HX.leave_any (base := base) (outer := outer) J.ok.frames J.stack rfl tb fun h' T' hT' m t' => ?_
  have two : ∀ {R : Addr → Prop}, R T → R s'.heap.objs.size → R T' := fun r1 r2 => by
    rcases hT' with rfl | rfl
    · exact r1
    · exact r2
  refine ⟨e, T', cls, H1, rfl, t', le, two (R := fun b => s0.heap.get? b = none) lT (Heap.get?_none_of_le sz2), ne, two (R := fun b => H1 b = none) nT (J.hok.fresh (Nat.le_refl _)), J.os, J.bare, un_moved J.base m (fun b hb z => ?_) (fun b hb => ?_), hok_moved J.hok m (fun b hb => J.stkFree b hb) (fun b hb => ?_), hE⟩
  · rcases List.mem_cons.mp (J.stkSub b z) with q | q
    · have := J.ok.above
      have hb' : b < (cxOf (CXE P w) P w K mg base N qual scope f cd A outer s0 H0 E).s₀.heap.objs.size := hb
      rw [q] at hb'
      exact absurd hb' (Nat.not_lt.mpr this)
    · exact q
  · rcases List.mem_cons.mp hb with rfl | hb
    · exact le
    · rw [List.mem_singleton.mp hb]; exact lT
  · rcases List.mem_cons.mp hb with rfl | hb
    · exact ne
    · rw [List.mem_singleton.mp hb]; exact nT
end
def cxCX (X : Cx) (scope : Scope) (cl : List (Str × Addr)) (Ns : List Str) (C : Addr) (s : Shared) (H : Hp) (fp : List Addr) (xe : Value → Shared → Prop) : Cx :=
  { X with
    N := Ns
    s₀ := s
    H₀ := H
    env := compEnvC scope cl C X.env
    outer := X.stack
    stack := X.stack
    ex := fp
    fn := fun _ => false
    pn := []
    xe := xe }
section
variable {prog : Program} {w : World} {A : Around} {R : Result → Shared → Prop} {s : Shared}
theorem comp_turnsX {elt target iter : Expr} {ifs : List Expr} {scope : Scope} {pos : Pos} {it acc : Value} {env : Env} (I : Nat → Shared → Prop)
    (turn : ∀ n s, I n s → wpAny (model prog w) A (pyNext it) (fun r s1 => match r with
      | none => R (.ok .next) s1
      | some v => wpAny (model prog w) A (letOwnedTupleGo target it v) (fun _ s1' => wpAny (model prog w) A (assign target env v) (fun _ s2 =>
          wpAny (model prog w) A (forIn ifs true fun c r => if r = true then do let ok ← isTrue c env (eval c env); pure (ForInStep.yield ok) else pure (ForInStep.yield r)) (fun ok s3 =>
            if ok = true then wpAny (model prog w) A (eval elt env) (fun x s4 => wpAny (model prog w) A (call (.builtin "list.append") [acc, x]) (fun _ s5 => ∃ m, m < n ∧ I m s5) (fun _ _ => False) s4) (notedBy (model prog w) A env fun e s' => R (.error e) s') s3
            else ∃ m, m < n ∧ I m s3) (fun _ _ => False) s2) (fun _ _ => False) s1') (fun _ _ => False) s1) (fun _ _ => False) s)
    (n : Nat) (h : I n s) : codeAny (model prog w) A (.compLoop (.ListComp elt [⟨target, iter, ifs, 0⟩] scope pos) 0 it acc env) R s := by
  refine codeAny_loop rfl I (fun n s hI => ?_) n h
  show wpAny _ A ((compTurn (.ListComp elt [⟨target, iter, ifs, 0⟩] scope pos) 0 it acc env).onRaise (fun x => do noteFrame x env; theTreesLotGoes x)) _ _ s
  refine wpAny_noted ?_
  rw [compTurn_list]
  refine wpAny_bind (wpAny_standAt (wpAny_bind (wpAny_mono (turn n s hI) (fun r s1 h1 => ?_) fun _ _ z => z.elim)))
  cases r with
  | none => exact wpAny_pure h1
  | some v =>
    refine wpAny_bind (wpAny_mono h1 (fun _ s1' h1' => wpAny_bind (wpAny_mono h1' (fun _ s2 h2 => wpAny_bind (wpAny_mono h2 (fun ok s3 h3 => ?_) fun _ _ z => z.elim)) fun _ _ z => z.elim)) fun _ _ z => z.elim)
    cases ok with
    | false => exact wpAny_pure ⟨rfl, h3⟩
    | true => exact wpAny_bind (wpAny_bind (wpAny_mono h3 (fun x s4 h4 => wpAny_bind (wpAny_mono h4 (fun _ s5 h5 => wpAny_pure (wpAny_pure ⟨rfl, h5⟩)) fun _ _ z => z.elim)) fun _ _ z => z))
end
section
variable {X : Cx}
theorem pe_compX {E : XK} {elt iter target : Expr} {ifs : List Expr} {xs ys : List Str} {js : List Nat} {pos : Pos} {scope : Scope} {wi : TI} {g : TG} {tt : TT} {te : TE} (hc : X.calm = true) (hst : X.stack = X.env :: X.outer) (hex : X.ex = []) (LV : Leaves X E)
    (hfree : ∀ nk ∈ scope.names, nk.2 = .free → nk.1 ∈ ys) (hcell : ∀ nk ∈ scope.names, nk.2 ≠ .cell) (hkind : scope.kind = .function)
    (hnames : ∀ nk ∈ scope.names, nk.2 = .local → scope.names.lookup nk.1 = some .local) (hfo : FreeOk X scope ys js)
    (hi : PI X target iter wi) (hg : ∀ cl C s H fp, PG (cxCF X scope cl (xs ++ ys) C s H fp) target g) (ht : ∀ cl C s H fp, PTs (cxCF X scope cl (xs ++ ys) C s H fp) ifs tt)
    (he : ∀ cl C s H fp xe, Passes (CXE X.prog X.w) (cxCX X scope cl (xs ++ ys) C s H fp xe) E → PE (cxCX X scope cl (xs ++ ys) C s H fp xe) elt te)
    (hs : ∀ v, foldedSetIterable iter X.env v = pure v := by intro _; rfl) : PE X (.ListComp elt [⟨target, iter, ifs, 0⟩] scope pos) (tCompF wi g xs.length js tt te) := by
  intro pins s σ H Q I h
  obtain ⟨ylen, yat⟩ := hfo.at
  have hkd : ∀ nk ∈ scope.names, nk.2 = .free → X.env.kindOf nk.1 = some .cell ∨ X.env.kindOf nk.1 = some .free := fun nk hnk hf => by
    obtain ⟨k, hk, e⟩ := List.mem_iff_getElem.mp (hfree nk hnk hf)
    obtain ⟨_, _, _, hk2, _⟩ := yat k nk.1 (by rw [List.getElem?_eq_getElem hk, e])
    exact hk2
  obtain ⟨cl, hclos, hsub, hhas⟩ := closure_of (scope := scope) (env := X.env) fun nk hnk hf => I.ok.has _ (hkd nk hnk hf)
  rw [eval_ListComp]
  refine wpAny_comprehension_free (use := none) rfl hs hclos hkind hnames (thn (hi pins s σ H _ I h) fun v s1 h1 => thn h1 fun itv s2 h2 => ?_)
  obtain ⟨it, fp, tn, J, H2, e, I2, T, st2, f2, hR⟩ := h2
  subst e
  have hD0 : H2 s2.heap.objs.size = none := I2.fresh
  obtain ⟨W, ⟨m0, w0⟩, turnW⟩ := hR _ hD0
  have I3 : Inv X pins σ (upd H2 s2.heap.objs.size (.lst [])) { s2 with heap := s2.heap.push { cls := .type "list", data := .seq ([] : List Value).toArray } } := I2.lnew (t' := s2.toks) .nil (Nat.zero_le _)
  refine wpAny_newObj_type (wpAny_newFunctionEnv hcell (fun nk hnk => by simp at hnk) (fun h₁ hns₁ hsb₁ => ?_) hkind)
  dsimp only at hns₁ hsb₁ ⊢
  generalize hs3 : ({ s2 with heap := s2.heap.push { cls := .type "list", data := .seq ([] : List Value).toArray } } : Shared) = s3 at I3
  have eh3 : s3.heap = s2.heap.push { cls := .type "list", data := .seq ([] : List Value).toArray } := by rw [← hs3]
  have hC : s3.heap.objs.size = s2.heap.objs.size + 1 := by rw [eh3, Heap.size_push]
  have old : ∀ b o, s3.heap.get? b = some o → h₁.get? b = some o := fun b o e => by
    have hb : b ≠ s3.heap.objs.size := Nat.ne_of_lt (Heap.lt_size e)
    rw [eh3] at e hb
    exact hsb₁.extBut b o hb (Heap.get?_push_of_some _ e)
  have fpl : ∀ b ∈ fp, b < s2.heap.objs.size := fun b hb => let ⟨o, e, _⟩ := T.obj _ _ st2 b hb; Heap.lt_size e
  have fps : ∀ b ∈ fp, b ∉ frs X.stack := fun b hb z => (List.mem_cons.mp (I2.stkSub b z)).elim (f2 b hb).2.1 (f2 b hb).2.2.1
  have fpc : ∀ b ∈ fp, ∀ y c, cl.lookup y = some c → c ≠ b := fun b hb y c e => (f2 b hb).2.2.2.2.1 y c (hsub y c e)
  have cne : ∀ y c, cl.lookup y = some c → c ≠ s3.heap.objs.size := fun y c e z => by
    obtain ⟨v, q⟩ := I3.cell y c (hsub y c e)
    exact absurd q.lt (by rw [z]; exact Nat.lt_irrefl _)
  let X' : Cx := cxCF X scope cl (xs ++ ys) s3.heap.objs.size s3 (upd H2 s2.heap.objs.size (.lst [])) fp
  have okX : X'.Ok := by
    refine ⟨I2.ok.mod, hkind, I2.ok.glob, I2.ok.blt, Nat.le_refl _, fun y z c e1 e2 => I2.ok.inj y z c (hsub _ _ e1) (hsub _ _ e2), fun y hy => hhas y (relab_inv hcell hy), fun y c z _ => absurd z (by simp [X', cxCF]), I2.ok.hd, I2.ok.frames, .inl rfl, fun b hb => ⟨?_, fun y c e => fpc b hb y c e⟩,
      I3.bs, Nat.le_trans I3.ok.bsz I3.sz, fun b o e hb => ?_, fps, I3.stack, I3.stkFree⟩
    · exact Nat.ne_of_lt (Nat.lt_of_lt_of_le (fpl b hb) (by show s2.heap.objs.size ≤ s3.heap.objs.size; rw [hC]; exact Nat.le_succ _))
    · rcases (f2 b hb).2.2.2.1 with z | z
      · exact I2.ok.noex b o e z
      · exact absurd (Nat.lt_of_lt_of_le (Heap.lt_size (I2.ok.bs b o e).1) z) (Nat.lt_irrefl _)
  have stat : ∀ {H' : Hp}, (∀ b ∈ fp, H' b = none) → ∀ b ∈ fp, FpOk X' [] H' b := fun hn b hb => by
    refine ⟨hn b hb, ?_, fps b hb, .inl hb, fun y c e => fpc b hb y c e, fun p hp => absurd (show p ∈ ([] : List (Addr × Obj)) from hp) (by simp)⟩
    exact Nat.ne_of_lt (Nat.lt_of_lt_of_le (fpl b hb) (by show s2.heap.objs.size ≤ s3.heap.objs.size; rw [hC]; exact Nat.le_succ _))
  have I4 : ∀ tk : Nat, Inv X' [] (List.replicate xs.length none ++ frOf σ js) (upd H2 s2.heap.objs.size (.lst [])) { s3 with heap := h₁, toks := tk } := fun tk => by
    refine ⟨okX, rfl, I3.bare, Un.kept old, ⟨_, by rw [← eh3] at hns₁; exact hns₁, fun i y v e1 e2 _ => ?_⟩, fun y c e => let ⟨v, q⟩ := I3.cell y c (hsub y c e); let ⟨o, q1, q2⟩ := q; ⟨v, o, old c o q1, q2⟩, I3.hok.fresh (Nat.le_refl _), fun y c e => I3.freeC y c (hsub y c e), fun p hp => absurd (show p ∈ ([] : List (Addr × Obj)) from hp) (by simp), I3.hok.kept old, by simp [X', cxCF, frOf, ylen]⟩
    by_cases hlt : i < xs.length
    · rw [List.getElem?_append_left (by simpa using hlt), List.getElem?_replicate, if_pos hlt] at e2
      cases e2
    · have hge : xs.length ≤ i := Nat.le_of_not_lt hlt
      have e1' : (xs ++ ys)[i]? = some y := e1
      rw [List.getElem?_append_right hge] at e1'
      rw [List.getElem?_append_right (by simpa using hge), List.length_replicate] at e2
      obtain ⟨j, hj, hN, hk, hfr⟩ := yat _ y e1'
      have e3 : (σ[j]?).join = some v := by
        unfold frOf at e2
        rw [List.getElem?_map, hj] at e2
        exact Option.some.inj e2
      have e4 : σ[j]? = some (some v) := by
        cases q : σ[j]? with
        | none => rw [q] at e3; cases e3
        | some w => rw [q] at e3; have : w = some v := e3; rw [this]
      obtain ⟨m3, _, hl3⟩ := I3.loc
      obtain ⟨u, ru, lk⟩ := hl3 j y v hN e4 (by rcases hk with z | z; exact .inr (.inl z); exact .inr (.inr z))
      refine ⟨u, ru, .inr ⟨relab_free hfr, ?_⟩⟩
      rcases lk with ⟨z, _⟩ | ⟨_, c, hc1, hc2⟩
      · rcases hk with z2 | z2 <;> rw [z] at z2 <;> cases z2
      · obtain ⟨c', hc'⟩ := hhas y hfr
        have : c' = c := by have := hsub y c' hc'; rw [hc1] at this; exact (Option.some.inj this).symm
        subst this
        obtain ⟨o, q1, q2⟩ := hc2
        exact ⟨c', hc', o, old c' o q1, q2⟩
  have fr0 : ∀ b ∈ fp, (upd H2 s2.heap.objs.size (.lst []) : Hp) b = none := fun b hb => by rw [upd_ne (Nat.ne_of_lt (fpl b hb))]; exact (f2 b hb).1
  have st4 : tn 0 h₁ := T.keep 0 _ _ st2 fun b hb o e => old b o (by rw [eh3]; exact Heap.get?_push_of_some _ e)
  have fin : ∀ {σ5 : St} {H' : Hp} {s5 : Shared} {h' : Heap}, Inv X' [] σ5 H' s5 → Heap.SameBut s3.heap.objs.size s5.heap h' → Q (.ref s2.heap.objs.size) H' → EP X pins σ Q (.ref s2.heap.objs.size) { s5 with heap := h' } := by
    intro σ5 H' s5 h' I5 sb q
    obtain ⟨hh, gg, d, t, os'⟩ := s5
    have eo : os' = s3.os := I5.os
    subst eo
    have keepC : ∀ b o, b ≠ s3.heap.objs.size → hh.get? b = some o → h'.get? b = some o := fun b o hb e => sb.extBut b o hb e
    have ne3 : ∀ b o, s3.heap.get? b = some o → b ≠ s3.heap.objs.size := fun b o e => Nat.ne_of_lt (Heap.lt_size e)
    have u : Un (frs X.stack) fp (upd H2 s2.heap.objs.size (.lst [])) H' s3.heap hh := I5.base
    have un : Un (frs X.stack) fp (upd H2 s2.heap.objs.size (.lst [])) H' s3.heap h' :=
      ⟨fun b o e n hb hx => keepC b o (ne3 b o e) (u.keep b o e n hb hx), fun b o e n hb hx => let ⟨sl, q⟩ := u.slot b o e n hb hx; ⟨sl, keepC b _ (ne3 b o e) q⟩, u.free, fun b o e hx => let ⟨o', q⟩ := u.there b o e hx; ⟨o', keepC b o' (ne3 b o e) q⟩, u.tups, u.frzs, u.tbls⟩
    have hfree' : H' s3.heap.objs.size = none := I5.free
    have hok' : HOk X.prog X.w H' h' := fun b u e => by
      refine (I5.hok b u e).stay (fun c v hc q => keepC c v ?_ q) (fun _ q => q) fun _ _ q => q
      rcases hc with z | z
      · rw [z]; intro z2; rw [z2, hfree'] at e; cases e
      · intro z2; rw [z2, hfree'] at z; cases z
    have J := I3.call (h' := h') (g' := gg) (d' := d) (t' := t) (ch := fp) un hok' I5.bare (fun b hb => let ⟨_, h1, _, h2, h3, h4⟩ := f2 b hb; ⟨h2, h1, h3, h4⟩)
    exact ⟨.ref s2.heap.objs.size, H', J, rfl, q⟩
  have hfr : X.env.frame = some X.env.locals := by
    rcases I.ok.stk with z | z
    · rw [hst] at z
      have := congrArg List.length z
      simp at this
    · exact z.2
  have finX : ∀ {pins5 : List (Addr × Obj)} {σ5 : St} {H1 : Hp} {s1 s' : Shared} {ev : Value}, Inv X' pins5 σ5 H1 s1 → CXE X.prog X.w X.stack H1 s1 E ev s' →
      notedBy (model X.prog X.w) X.A X'.env (fun e s' => compPost (model X.prog X.w) X.A X.xe none (EP X pins σ Q) (.ref s2.heap.objs.size) s3.heap.objs.size (.error e) s') ev s' := by
    intro pins5 σ5 H1 s1 s' ev I5 cx
    obtain ⟨e, T1, cls, H', rfl, tb, le, lT, ne, nT, os, bare, un5, hok5, hE⟩ := cx
    have J5 := I5.call' os un5 hok5 bare (fun b z => absurd z (by simp))
    have jst : s'.heap.FunFrames X.base (X.env :: X.outer) := hst ▸ J5.stack
    have jfr : X.A.frames = some (X.env :: X.outer) := hst ▸ J5.ok.frames
    unfold notedBy
    rw [HX.note_frame (env := X'.env) (env' := X.env) rfl]
    refine HX.note_next (base := X.base) (outer := X.outer) jfr jst hfr tb fun h2 m2 t2 => ?_
    obtain ⟨mm, ⟨oL, _, _, hoL, hdL, rL⟩, _⟩ := id J5.loc
    obtain ⟨_, ⟨oC, _, _, hoC, _⟩, _⟩ := id I5.loc
    have hoC : s1.heap.get? s3.heap.objs.size = some oC := hoC
    have hoL : s'.heap.get? s3.heap.objs.size = some oL := hoL
    have Ce : s3.heap.objs.size ≠ e := fun z => by rw [z, le] at hoC; cases hoC
    have CT : s3.heap.objs.size ≠ T1 := fun z => by rw [z, lT] at hoC; cases hoC
    obtain ⟨slC, eC⟩ := m2.slot s3.heap.objs.size oL (by simp [Ce, CT]) hoL
    refine ⟨mm, ⟨_, _, _, eC, hdL, rL⟩, fun h' sb cenv _ => ?_⟩
    have C2 : s3.heap.objs.size ≠ s'.heap.objs.size := Nat.ne_of_lt (Heap.lt_size hoL)
    have ex1 : ∀ b o, s3.heap.get? b = some o → b ∉ fp → (∃ o', s1.heap.get? b = some o') ∧ ∃ o', s'.heap.get? b = some o' := fun b o q hb => ⟨I5.base.there b o q hb, J5.base.there b o q hb⟩
    have t2' : HX.Tb h' e s'.heap.objs.size cls (rawInt X.env.locals) := t2.sameBut sb (Ne.symm Ce) (Ne.symm C2)
    refine HX.pass_on t2' fun h3 m3 t3 => ?_
    have ne3 : ∀ b o, s3.heap.get? b = some o → b ≠ s3.heap.objs.size := fun b o q => Nat.ne_of_lt (Heap.lt_size q)
    have far : ∀ b o, s3.heap.get? b = some o → b ∉ fp → b ∉ [e, T1] ∧ b ∉ [s'.heap.objs.size] := fun b o q hb => by
      obtain ⟨⟨o1, q1⟩, o2, q2⟩ := ex1 b o q hb
      refine ⟨fun z => ?_, fun z => ?_⟩
      · rcases List.mem_cons.mp z with z | z
        · rw [z, le] at q1; cases q1
        · rw [List.mem_singleton.mp z, lT] at q1; cases q1
      · rw [List.mem_singleton.mp z] at q2
        exact absurd (Heap.lt_size q2) (Nat.lt_irrefl _)
    have u : Un (frs X.stack) fp (upd H2 s2.heap.objs.size (.lst [])) H' s3.heap s'.heap := J5.base
    have go : ∀ b o (q : s3.heap.get? b = some o), b ∉ fp → ∀ o2, s'.heap.get? b = some o2 → ∃ sl, h3.get? b = some { o2 with slots := sl } := fun b o q hb o2 q2 => by
      obtain ⟨f1, f2⟩ := far b o q hb
      obtain ⟨sl, z⟩ := m2.slot b o2 f1 q2
      obtain ⟨sl3, z3⟩ := m3.slot b _ f2 (sb.extBut b _ (ne3 b o q) z)
      exact ⟨sl3, z3⟩
    have unh : Un (frs X.stack) fp (upd H2 s2.heap.objs.size (.lst [])) H' s3.heap h3 :=
      ⟨fun b o q n hb hx => m3.keep b o (by simp) (far b o q hx).2 (sb.extBut b o (ne3 b o q) (m2.keep b o (by rw [← hst]; exact hb) (far b o q hx).1 (u.keep b o q n hb hx))),
        fun b o q n hb hx => by
          obtain ⟨sl, q2⟩ := u.slot b o q n hb hx
          obtain ⟨sl2, z⟩ := go b o q hx _ q2
          exact ⟨sl2, z⟩,
        u.free, fun b o q hx => by
          obtain ⟨o', q2⟩ := u.there b o q hx
          obtain ⟨sl, z⟩ := go b o q hx _ q2
          exact ⟨_, z⟩, u.tups, u.frzs, u.tbls⟩
    have nT2 : H' s'.heap.objs.size = none := hok5.fresh (Nat.le_refl _)
    have hokA : HOk X.prog X.w H' h2 := hok_moved hok5 m2 (fun b hb => J5.stkFree b (by rw [← hst] at hb; exact hb)) (fun b hb => by
      rcases List.mem_cons.mp hb with rfl | hb
      · exact ne
      · rw [List.mem_singleton.mp hb]; exact nT)
    have hfree' : H' s3.heap.objs.size = none := J5.free
    have hokB : HOk X.prog X.w H' h' := fun b u qb => by
      refine (hokA b u qb).stay (fun c v hc q => sb.extBut c v ?_ q) (fun _ q => q) fun _ _ q => q
      rcases hc with z | z
      · rw [z]; intro z2; rw [z2, hfree'] at qb; cases qb
      · intro z2; rw [z2, hfree'] at z; cases z
    have hokC : HOk X.prog X.w H' h3 := hok_moved hokB m3 (fun b hb => absurd hb (by simp)) (fun b hb => by rw [List.mem_singleton.mp hb]; exact nT2)
    obtain ⟨hh, gg, d, t, os'⟩ := s'
    have eo : os' = s3.os := J5.os
    subst eo
    have J := I3.call (h' := h3) (g' := gg) (d' := d) (t' := t) (ch := fp) unh hokC J5.bare (fun b hb => let ⟨_, h1, _, h2, h3, h4⟩ := f2 b hb; ⟨h2, h1, h3, h4⟩)
    have old0 : ∀ b, s1.heap.get? b = none → X.s₀.heap.get? b = none := fun b q => by
      cases z : X.s₀.heap.get? b with
      | none => rfl
      | some o =>
        obtain ⟨o3, q3⟩ := I3.base.there b o z (by rw [hex]; simp)
        by_cases hb : b ∈ fp
        · rcases (f2 b hb).2.2.2.1 with z2 | z2
          · rw [hex] at z2; simp at z2
          · exact absurd (Nat.lt_of_lt_of_le (Heap.lt_size z) z2) (Nat.lt_irrefl _)
        · obtain ⟨⟨o1, q1⟩, _⟩ := ex1 b o3 q3 hb
          rw [q] at q1; cases q1
    have newT : X.s₀.heap.get? hh.objs.size = none := Heap.get?_none_of_le (by
      have h1 : X.s₀.heap.objs.size ≤ s3.heap.objs.size := I3.sz
      have h2 : s3.heap.objs.size ≤ hh.objs.size := J5.sz
      exact Nat.le_trans h1 h2)
    exact LV pins σ H' _ e _ cls _ J t3 (old0 e le) newT ne nT2 hE
  have loop : ∀ s4 : Shared, (∃ tk, s4 = { s3 with heap := h₁, toks := tk }) →
      codeAny (model X.prog X.w) X.A (.compLoop (.ListComp elt [⟨target, iter, ifs, 0⟩] scope pos) 0 (.ref it) (.ref s2.heap.objs.size) X'.env)
        (compPost (model X.prog X.w) X.A X.xe none (EP X pins σ Q) (.ref s2.heap.objs.size) s3.heap.objs.size) s4 := by
    rintro s4 ⟨tk, rfl⟩
    refine comp_turnsX (fun n s' => ∃ i ys' pre H', Inv X' [] (pre ++ frOf σ js) H' s' ∧ pre.length = xs.length ∧ tn i s'.heap ∧ (∀ b ∈ fp, H' b = none) ∧ W i n ys' H') ?_ m0 ⟨0, [], List.replicate xs.length none, _, I4 tk, by simp, st4, fr0, w0⟩
    rintro n s5 ⟨i, ys', pre, H5, I5, hpre, st5, fr5, w5⟩
    obtain ⟨hD5, ⟨js5, q⟩ | ⟨jg, step⟩⟩ := turnW i n ys' H5 w5
    · refine wpAny_mono (T.done X' rfl rfl rfl hc i [] s5 _ H5 (fun _ _ => False) I5 (stat fr5) st5 js5) (fun r s6 hr => ?_) fun _ _ z => z.elim
      obtain ⟨rfl, I6⟩ := hr
      obtain ⟨m, hn, _⟩ := I6.loc
      exact ⟨m, hn, fun h' sb => fin I6 sb q⟩
    · refine wpAny_mono (T.item X' rfl rfl rfl hc i [] s5 _ H5 (fun _ _ => False) I5 (stat fr5) st5 jg) (fun r s6 hr => ?_) fun _ _ z => z.elim
      obtain ⟨u, rfl, h6⟩ := hr
      refine wpAny_mono h6 (fun _ s7 h7 => ?_) fun _ _ z => z.elim
      obtain ⟨xv, H7, I7, r7, y7, st7, fr7⟩ := h7
      have I7' := I7.pinned (stat fr7) (T.obj _ _ st7)
      refine wpAny_mono (hg cl s3.heap.objs.size s3 (upd H2 s2.heap.objs.size (.lst [])) fp _ s7 _ H7 xv u _ I7' r7 (step xv H7 y7 pre hpre)) (fun _ s8 h8 => ?_) fun _ _ z => z.elim
      obtain ⟨σ8, H8, I8, ⟨pre', hpre', e8⟩, q8⟩ := h8
      subst e8
      refine wpAny_mono (ht cl s3.heap.objs.size s3 (upd H2 s2.heap.objs.size (.lst [])) fp _ s8 _ H8 _ I8 q8) (fun ok s9 h9 => ?_) fun _ _ z => z.elim
      obtain ⟨H9, I9, q9⟩ := h9
      have stay : ∀ {H' : Hp} {s' : Shared}, Inv X' ([] ++ pinsAt fp s7.heap) (pre' ++ frOf σ js) H' s' → tn (i + 1) s'.heap ∧ ∀ b ∈ fp, H' b = none := fun {H' s'} I' => by
        refine ⟨T.keep _ _ _ st7 fun b hb o e => (I'.pin (b, o) (List.mem_append_right _ (List.mem_append_right _ (mem_pinsAt hb e)))).1, fun b hb => ?_⟩
        obtain ⟨o, e, d⟩ := T.obj _ _ st7 b hb
        exact (I'.pin (b, o) (List.mem_append_right _ (List.mem_append_right _ (mem_pinsAt hb e)))).2.1
      cases ok with
      | false =>
        obtain ⟨m', lt, w9⟩ := (show ∃ m', m' < n ∧ W (i + 1) m' ys' H9 by simpa using q9)
        obtain ⟨k1, k2⟩ := stay I9
        exact ⟨m', lt, i + 1, ys', pre', H9, I9.unpinned, hpre', k1, k2, w9⟩
      | true =>
        have q9' : te (pre' ++ frOf σ js) H9 (fun y H6 => H6 s2.heap.objs.size = some (.lst ys') ∧ ys'.length < sizeLine ∧ ∃ m', m' < n ∧ W (i + 1) m' (ys' ++ [y]) (upd H6 s2.heap.objs.size (.lst (ys' ++ [y])))) := by simpa using q9
        obtain ⟨xe0, hxe0⟩ : ∃ xe0 : Value → Shared → Prop, xe0 = fun ev s' => ∃ pins5 σ5 H1 s1, Inv X' pins5 σ5 H1 s1 ∧ CXE X.prog X.w X.stack H1 s1 E ev s' := ⟨_, rfl⟩
        have I9x : Inv { X' with xe := xe0 } _ (pre' ++ frOf σ js) H9 s9 := I9.reX (A' := X'.A) (c := X'.calm) rfl I9.ok.hd
        refine wpAny_mono (he cl s3.heap.objs.size s3 (upd H2 s2.heap.objs.size (.lst [])) fp xe0 (fun pins5 σ5 H1 s1 ev s' I5 cx => ?_) _ s9 _ H9 _ I9x q9') (fun y s10 h10 => ?_) (fun ev s' hx => ?_)
        · rw [hxe0]; exact ⟨pins5, σ5, H1, s1, Inv.unX (X := X') (A' := X'.A) (c := X'.calm) I5 okX, cx⟩
        case refine_3 =>
          rw [hxe0] at hx
          obtain ⟨pins5, σ5, H1, s1, I5, cx⟩ := hx
          exact finX I5 cx
        obtain ⟨yv, H10, I10x, r10, hD10, hl10, m', lt, w10⟩ := h10
        have I10 := Inv.unX (X := X') (A' := X'.A) (c := X'.calm) I10x okX
        refine wpAny_mono (mt_append (X := X') _ s10 _ H10 (.ref s2.heap.objs.size) [yv] (.ref s2.heap.objs.size) [y] (fun _ H' => H' = upd H10 s2.heap.objs.size (.lst (ys' ++ [yv]))) I10 rfl (.cons r10 .nil) ⟨_, ys', yv, rfl, rfl, hD10, hl10, rfl⟩) (fun _ s11 h11 => ?_) fun _ _ z => z.elim
        obtain ⟨_, H11, I11, _, rfl⟩ := h11
        obtain ⟨k1, k2⟩ := stay I11
        exact ⟨m', lt, i + 1, ys' ++ [yv], pre', _, I11.unpinned, hpre', k1, k2, w10⟩
  have L := loop { s3 with heap := h₁, toks := s2.toks + ([] : List (Str × Value)).length } ⟨_, rfl⟩
  subst hs3
  exact codeAny_compStart_list L (T.self _ 0 _ _ _ st4 L)
end
end L2
namespace Mi
open PySem L2
def sIn (a b : Str) : Bool := !(Builtin.Str.occurrences b a 0 b.length 1).isEmpty
def isWord (x : Str) : Bool := (!decide (V.str x = V.str "")) && ((signs x).map fun c => sIn c "abcdefghijklmnopqrstuvwxyz0123456789").all id
def isName (x : Str) : Bool := if decide ((12 : Int) < (x.length : Int)) = true then false else ((Txt.split x "-").map isWord).all id
def numEnd (n : Int) : Str := Str.empty ++ ("-" : Str) ++ (toString n : Str)
def cutD (x : Str) : Str := if Txt.endswith x "-" = true then Txt.slice x none (some (-1)) else x
def numd (x : Str) (n : Int) : Str := cutD (Txt.slice x none (some (12 - ((numEnd n).length : Int)))) ++ numEnd n
def cand (x : Str) (c : Nat) : Str := if c = 0 then x else numd x ((c : Int) + 1)
def seekF (x : Str) (ts : List Str) : Nat → Nat → Nat
  | 0, c => c
  | f + 1, c => if cand x c ∈ ts then seekF x ts f (c + 1) else c
def unl (x : Str) (ts : List Str) : Str := cand x (seekF x ts (ts.length + 1) 0)
def cands (x : Str) (n : Nat) : List Str := (List.range n).map (cand x)
theorem nodup_le : ∀ (l ts : List Str), l.Nodup → (∀ a ∈ l, a ∈ ts) → l.length ≤ ts.length
  | [], _, _, _ => Nat.zero_le _
  | a :: l, ts, nd, h => by
    have h1 := (List.nodup_cons.mp nd).1
    have ha : a ∈ ts := h a (List.mem_cons_self ..)
    have h2 : ∀ b ∈ l, b ∈ ts.erase a := fun b hb => by
      have hne : b ≠ a := fun e => h1 (e ▸ hb)
      exact (List.mem_erase_of_ne hne).mpr (h b (List.mem_cons_of_mem _ hb))
    have h3 := nodup_le l (ts.erase a) (List.nodup_cons.mp nd).2 h2
    have h4 := List.length_erase_of_mem ha
    have h5 : 0 < ts.length := List.length_pos_of_mem ha
    rw [List.length_cons]
    omega
structure Good (x : Str) : Prop where
  len : x.length ≤ 12
  nd : (cands x 20).Nodup
  nm : ∀ c, c < 20 → isName (cand x c) = true
  sh : ∀ c, c < 20 → (cand x c).length ≤ 12
theorem cands_take (x : Str) (m n : Nat) (h : m ≤ n) : cands x m = (cands x n).take m := by
  unfold cands
  rw [← List.map_take, List.take_range, Nat.min_eq_left h]
theorem room {x : Str} {ts : List Str} (g : Good x) (hL : ts.length ≤ 18) {c : Nat} (hb : ∀ j, j < c → cand x j ∈ ts) (hc : cand x c ∈ ts) (hle : c ≤ ts.length) : c + 1 ≤ ts.length := by
  have nd : (cands x (c + 1)).Nodup := by
    rw [cands_take x (c + 1) 20 (by omega)]
    exact g.nd.sublist (List.take_sublist _ _)
  have := nodup_le (cands x (c + 1)) ts nd fun a ha => by
    obtain ⟨j, hj, rfl⟩ := List.mem_map.mp ha
    have hj' : j < c + 1 := List.mem_range.mp hj
    by_cases e : j = c
    · rw [e]; exact hc
    · exact hb j (by omega)
  simpa [cands] using this
theorem seek_step {x : Str} {ts : List Str} {f c : Nat} (h : cand x c ∈ ts) : seekF x ts (f + 1) c = seekF x ts f (c + 1) := if_pos h
theorem seek_stop {x : Str} {ts : List Str} {f c : Nat} (h : cand x c ∉ ts) : seekF x ts f c = c := by
  cases f with
  | zero => rfl
  | succ f => exact if_neg h
structure Tried (x : Str) (ts : List Str) (c : Nat) : Prop where
  all : ∀ j, j < c → cand x j ∈ ts
  le : c ≤ ts.length
  same : seekF x ts (ts.length + 1) 0 = seekF x ts (ts.length + 1 - c) c
theorem Tried.start (x : Str) (ts : List Str) : Tried x ts 0 := ⟨fun j h => absurd h (Nat.not_lt_zero _), Nat.zero_le _, rfl⟩
theorem Tried.more {x : Str} {ts : List Str} {c : Nat} (g : Good x) (hL : ts.length ≤ 18) (t : Tried x ts c) (h : cand x c ∈ ts) : Tried x ts (c + 1) := by
  have r := room g hL t.all h t.le
  refine ⟨fun j hj => ?_, r, ?_⟩
  · by_cases e : j = c
    · rw [e]; exact h
    · exact t.all j (by omega)
  · rw [t.same]
    have e : ts.length + 1 - c = (ts.length + 1 - (c + 1)) + 1 := by omega
    rw [e]
    exact seek_step h
theorem Tried.done {x : Str} {ts : List Str} {c : Nat} (t : Tried x ts c) (h : cand x c ∉ ts) : cand x c = unl x ts := by
  unfold unl
  rw [t.same, seek_stop h]
def leS (a b : Str) : Bool := !decide (b.cps.toList < a.cps.toList)
def addS (acc c : Str) : Str :=
  if leS "A" c && leS c "Z" then acc ++ Txt.lower c
  else if (leS "a" c && leS c "z") || (leS "0" c && leS c "9") then acc ++ c
  else if decide (V.str c = V.str "&") then acc ++ (" and " : Str)
  else if (!decide (V.str c = V.str "'")) then acc ++ (" " : Str)
  else acc
def whole (cs : List Str) : Str := cs.foldl addS ""
end Mi
namespace Mi
open PySem L2
def dash : Str := "-"
theorem app_cps (a b : Str) : (a ++ b).cps.toList = a.cps.toList ++ b.cps.toList := by
  rw [Str.cps_append, Array.toList_append]
theorem app_length (a b : Str) : (a ++ b).length = a.length + b.length := Str.length_append a b
theorem txt_join (sep : Str) (ts : List Str) : Txt.join sep ts = Str.join sep ts := StrLaws.glued_eq_join sep ts
theorem join_cons (sep a b : Str) (r : List Str) : Str.join sep (a :: b :: r) = a ++ sep ++ Str.join sep (b :: r) := rfl
def gre : Str → List Str → Str
  | n, [] => n
  | n, w :: r => if decide ((12 : Int) < ((Str.empty ++ n ++ dash ++ w).length : Int)) = true then n else gre (Str.empty ++ n ++ dash ++ w) r
theorem gre_long (n : Str) (hn : 12 ≤ n.length) : ∀ r : List Str, gre n r = n
  | [] => rfl
  | w :: r => by
    unfold gre
    rw [if_pos]
    rw [decide_eq_true_eq, Str.empty_append, app_length, app_length]
    have : dash.length = 1 := by decide +kernel
    omega
theorem str_eq {a b : Str} (h : a.cps.toList = b.cps.toList) : a = b := Str.ext' (Array.toList_inj.mp h)
theorem free_prefix {c : Nat} : ∀ {a b s t : List Nat}, c ∉ a → c ∉ b → a ++ c :: s = b ++ c :: t → a = b ∧ s = t
  | [], [], s, t, _, _, e => ⟨rfl, (List.cons.inj e).2⟩
  | [], y :: b, s, t, _, hb, e => by
    have := (List.cons.inj e).1
    exact absurd (by rw [this]; exact List.mem_cons_self ..) hb
  | x :: a, [], s, t, ha, _, e => by
    have := (List.cons.inj e).1
    exact absurd (by rw [← this]; exact List.mem_cons_self ..) ha
  | x :: a, y :: b, s, t, ha, hb, e => by
    obtain ⟨e1, e2⟩ := List.cons.inj e
    obtain ⟨h1, h2⟩ := free_prefix (fun z => ha (List.mem_cons_of_mem _ z)) (fun z => hb (List.mem_cons_of_mem _ z)) e2
    exact ⟨by rw [e1, h1], h2⟩
theorem join_inj (c : Nat) : ∀ (ps qs : List Str), ps ≠ [] → qs ≠ [] → (∀ p ∈ ps, c ∉ p.cps.toList) → (∀ q ∈ qs, c ∉ q.cps.toList) → Str.join ⟨#[c]⟩ ps = Str.join ⟨#[c]⟩ qs → ps = qs
  | [], _, h, _, _, _, _ => absurd rfl h
  | _, [], _, h, _, _, _ => absurd rfl h
  | [p], [q], _, _, _, _, e => by rw [show p = q from e]
  | [p], q :: q2 :: qs, _, _, hp, _, e => by
    have e' : p = q ++ ⟨#[c]⟩ ++ Str.join ⟨#[c]⟩ (q2 :: qs) := e
    have : c ∈ p.cps.toList := by rw [e', app_cps, app_cps]; simp
    exact absurd this (hp p (List.mem_cons_self ..))
  | p :: p2 :: ps, [q], _, _, _, hq, e => by
    have e' : p ++ ⟨#[c]⟩ ++ Str.join ⟨#[c]⟩ (p2 :: ps) = q := e
    have : c ∈ q.cps.toList := by rw [← e', app_cps, app_cps]; simp
    exact absurd this (hq q (List.mem_cons_self ..))
  | p :: p2 :: ps, q :: q2 :: qs, _, _, hp, hq, e => by
    have e' : p ++ ⟨#[c]⟩ ++ Str.join ⟨#[c]⟩ (p2 :: ps) = q ++ ⟨#[c]⟩ ++ Str.join ⟨#[c]⟩ (q2 :: qs) := e
    have e2 := congrArg (fun s : Str => s.cps.toList) e'
    simp only [app_cps, List.append_assoc] at e2
    have e3 : p.cps.toList ++ c :: (Str.join ⟨#[c]⟩ (p2 :: ps)).cps.toList = q.cps.toList ++ c :: (Str.join ⟨#[c]⟩ (q2 :: qs)).cps.toList := by simpa using e2
    obtain ⟨h1, h2⟩ := free_prefix (hp p (List.mem_cons_self ..)) (hq q (List.mem_cons_self ..)) e3
    rw [str_eq h1, join_inj c (p2 :: ps) (q2 :: qs) (by simp) (by simp) (fun z hz => hp z (List.mem_cons_of_mem _ hz)) (fun z hz => hq z (List.mem_cons_of_mem _ hz)) (str_eq h2)]
theorem split_ne (x y : Str) : Txt.split x y ≠ [] := by
  unfold Txt.split
  split
  · simp
  · split
    · simp
    · unfold Builtin.Str.partsBetween
      intro h
      have := congrArg List.length h
      simp at this
theorem dash_eq : dash = ⟨#[45]⟩ := by decide +kernel
theorem split_join (ws : List Str) (hne : ws ≠ []) (h : ∀ t ∈ ws, (45 : Nat) ∉ t.cps.toList) : Txt.split (Str.join dash ws) dash = ws := by
  rw [dash_eq]
  exact join_inj 45 _ _ (split_ne _ _) hne (StrLaws.split_free _ 45) h (StrLaws.join_split _ _)
end Mi
namespace Mi
open PySem L2
def WSL : List Nat := [97,98,99,100,101,102,103,104,105,106,107,108,109,110,111,112,113,114,115,116,117,118,119,120,121,122,48,49,50,51,52,53,54,55,56,57]
theorem ws_list : ("abcdefghijklmnopqrstuvwxyz0123456789" : Str).cps.toList = WSL := by decide +kernel
theorem sIn_one (c : Nat) : sIn ⟨#[c]⟩ "abcdefghijklmnopqrstuvwxyz0123456789" = decide (c ∈ WSL) := by
  unfold sIn
  rw [StrLaws.found_one, ws_list]
structure Nm (x : Str) : Prop where
  ex : ∃ ws : List Str, ws ≠ [] ∧ x = Str.join dash ws ∧ ∀ t ∈ ws, t ≠ "" ∧ ∀ c ∈ t.cps.toList, c ∈ WSL
  len : x.length ≤ 12
theorem no45 : (45 : Nat) ∉ WSL := by decide
theorem isWord_of {t : Str} (h1 : t ≠ "") (h2 : ∀ c ∈ t.cps.toList, c ∈ WSL) : isWord t = true := by
  unfold isWord
  rw [Bool.and_eq_true]
  refine ⟨?_, ?_⟩
  · rw [Bool.not_eq_true', decide_eq_false_iff_not]
    intro e
    exact h1 (by cases e; rfl)
  · rw [List.all_eq_true]
    intro b hb
    obtain ⟨s, hs, rfl⟩ := List.mem_map.mp hb
    unfold signs at hs
    obtain ⟨c, hc, rfl⟩ := List.mem_map.mp hs
    show sIn ⟨#[c]⟩ _ = true
    rw [sIn_one, decide_eq_true_eq]
    exact h2 c hc
theorem Nm.isName {x : Str} (h : Nm x) : isName x = true := by
  obtain ⟨ws, hne, rfl, hw⟩ := h.ex
  unfold Mi.isName
  have hl := h.len
  rw [if_neg (by rw [decide_eq_true_eq]; omega)]
  have e : Txt.split (Str.join dash ws) "-" = ws := split_join ws hne fun t ht hc => no45 ((hw t ht).2 45 hc)
  rw [e, List.all_eq_true]
  intro b hb
  obtain ⟨t, ht, rfl⟩ := List.mem_map.mp hb
  exact isWord_of (hw t ht).1 (hw t ht).2
theorem Nm.one {x : Str} (h1 : x ≠ "") (h2 : ∀ c ∈ x.cps.toList, c ∈ WSL) (h3 : x.length ≤ 12) : Nm x :=
  ⟨⟨[x], by simp, rfl, fun t ht => by rw [List.mem_singleton.mp ht]; exact ⟨h1, h2⟩⟩, h3⟩
def lName (x : Str) : Bool := if (decide ((1 : Int) ≤ (x.length : Int)) && decide ((x.length : Int) ≤ 12)) = true then (if (((signs x).map fun c => sIn c "abcdefghijklmnopqrstuvwxyz0123456789-").all id) = true then !decide (("" : Str) ∈ Txt.split x "-") else false) else false
theorem ws2_list : ("abcdefghijklmnopqrstuvwxyz0123456789-" : Str).cps.toList = WSL ++ [45] := by decide +kernel
theorem join_mem (c : Nat) : ∀ ws : List Str, c ∈ (Str.join dash ws).cps.toList → c = 45 ∨ ∃ t ∈ ws, c ∈ t.cps.toList
  | [], h => by
    have : c ∈ ([] : List Nat) := h
    simp at this
  | [t], h => .inr ⟨t, List.mem_cons_self .., h⟩
  | t :: u :: r, h => by
    have h' : c ∈ (t ++ dash ++ Str.join dash (u :: r)).cps.toList := h
    rw [app_cps, app_cps, List.mem_append, List.mem_append] at h'
    rcases h' with (h' | h') | h'
    · exact .inr ⟨t, List.mem_cons_self .., h'⟩
    · rw [dash_eq] at h'
      have : c ∈ [45] := h'
      exact .inl (List.mem_singleton.mp this)
    · rcases join_mem c (u :: r) h' with e | ⟨s, hs, hc⟩
      · exact .inl e
      · exact .inr ⟨s, List.mem_cons_of_mem _ hs, hc⟩
theorem join_pos : ∀ ws : List Str, ws ≠ [] → (∀ t ∈ ws, t ≠ "") → 1 ≤ (Str.join dash ws).length
  | [], h, _ => absurd rfl h
  | [t], _, h => by
    have := h t (List.mem_cons_self ..)
    show 1 ≤ t.length
    cases hl : t.length with
    | zero =>
      exfalso
      apply this
      apply str_eq
      have : t.cps.toList.length = 0 := by simpa [Str.length] using hl
      rw [List.length_eq_zero_iff.mp this]
      rfl
    | succ n => omega
  | t :: u :: r, _, h => by
    show 1 ≤ (t ++ dash ++ Str.join dash (u :: r)).length
    rw [app_length, app_length]
    have : dash.length = 1 := by decide +kernel
    omega
theorem Nm.lName {x : Str} (h : Nm x) : lName x = true := by
  obtain ⟨ws, hne, rfl, hw⟩ := h.ex
  have hl := h.len
  have hp := join_pos ws hne fun t ht => (hw t ht).1
  unfold Mi.lName
  rw [if_pos (by rw [Bool.and_eq_true, decide_eq_true_eq, decide_eq_true_eq]; omega)]
  have e : Txt.split (Str.join dash ws) "-" = ws := split_join ws hne fun t ht hc => no45 ((hw t ht).2 45 hc)
  rw [if_pos]
  · rw [e, Bool.not_eq_true', decide_eq_false_iff_not]
    exact fun hm => (hw _ hm).1 rfl
  · rw [List.all_eq_true]
    intro b hb
    obtain ⟨s, hs, rfl⟩ := List.mem_map.mp hb
    unfold signs at hs
    obtain ⟨c, hc, rfl⟩ := List.mem_map.mp hs
    show sIn ⟨#[c]⟩ _ = true
    unfold sIn
    rw [StrLaws.found_one, ws2_list, decide_eq_true_eq, List.mem_append]
    rcases join_mem c ws hc with rfl | ⟨t, ht, hct⟩
    · exact .inr (by simp)
    · exact .inl ((hw t ht).2 c hct)
end Mi
namespace Mi
open PySem L2
abbrev L (x : Str) : List Nat := x.cps.toList
def okF : Bool → List Nat → Bool
  | d, [] => !d
  | d, c :: r => if c = 45 then (!d && okF true r) else (decide (c ∈ WSL) && okF false r)
def jnL : List (List Nat) → List Nat
  | [] => []
  | [t] => t
  | t :: u :: r => t ++ 45 :: jnL (u :: r)
theorem ok_parts : ∀ (l : List Nat) (d : Bool), okF d l = true → ∃ t ws, l = jnL (t :: ws) ∧ (∀ c ∈ t, c ∈ WSL) ∧ (d = true → t ≠ []) ∧ ∀ u ∈ ws, u ≠ [] ∧ ∀ c ∈ u, c ∈ WSL
  | [], d, h => ⟨[], [], rfl, by simp, fun e => by subst e; simp [okF] at h, by simp⟩
  | c :: r, d, h => by
    have step : okF d (c :: r) = if c = 45 then (!d && okF true r) else (decide (c ∈ WSL) && okF false r) := rfl
    rw [step] at h
    by_cases hc : c = 45
    · rw [if_pos hc, Bool.and_eq_true] at h
      obtain ⟨t, ws, e, h1, h2, h3⟩ := ok_parts r true h.2
      subst hc
      refine ⟨[], t :: ws, by rw [e]; rfl, by simp, fun z => by rw [z] at h; simp at h, fun u hu => ?_⟩
      rcases List.mem_cons.mp hu with rfl | hu
      · exact ⟨h2 rfl, h1⟩
      · exact h3 u hu
    · rw [if_neg hc, Bool.and_eq_true] at h
      obtain ⟨t, ws, e, h1, h2, h3⟩ := ok_parts r false h.2
      refine ⟨c :: t, ws, ?_, ?_, fun _ => by simp, h3⟩
      · rw [e]
        cases ws <;> rfl
      · intro a ha
        rcases List.mem_cons.mp ha with rfl | ha
        · exact of_decide_eq_true h.1
        · exact h1 a ha
def mkS (l : List Nat) : Str := ⟨l.toArray⟩
theorem L_mkS (l : List Nat) : L (mkS l) = l := by simp [mkS, L]
theorem join_mkS : ∀ ws : List (List Nat), L (Str.join dash (ws.map mkS)) = jnL ws
  | [] => by
    show L (Str.join dash []) = []
    decide +kernel
  | [t] => by
    show L (mkS t) = t
    exact L_mkS t
  | t :: u :: r => by
    have ih := join_mkS (u :: r)
    show L (Str.join dash (mkS t :: mkS u :: r.map mkS)) = t ++ 45 :: jnL (u :: r)
    rw [join_cons]
    have ih' : L (Str.join dash (mkS u :: r.map mkS)) = jnL (u :: r) := ih
    show ((mkS t ++ dash) ++ Str.join dash (mkS u :: r.map mkS)).cps.toList = _
    rw [app_cps, app_cps]
    show L (mkS t) ++ L dash ++ L (Str.join dash (mkS u :: r.map mkS)) = _
    rw [ih', L_mkS]
    have : L dash = [45] := by decide +kernel
    rw [this]
    simp
structure Gd (x : Str) : Prop where
  ok : okF true (L x) = true
  len : x.length ≤ 12
theorem Gd.nm {x : Str} (g : Gd x) : Nm x := by
  obtain ⟨t, ws, e, h1, h2, h3⟩ := ok_parts _ _ g.ok
  refine ⟨⟨(t :: ws).map mkS, by simp, ?_, fun u hu => ?_⟩, g.len⟩
  · apply str_eq
    show L x = L (Str.join dash ((t :: ws).map mkS))
    rw [join_mkS, e]
  · obtain ⟨v, hv, rfl⟩ := List.mem_map.mp hu
    have key : v ≠ [] ∧ ∀ c ∈ v, c ∈ WSL := by
      rcases List.mem_cons.mp hv with rfl | hv
      · exact ⟨h2 rfl, h1⟩
      · exact h3 v hv
    refine ⟨fun z => key.1 ?_, fun c hc => key.2 c ?_⟩
    · have : L (mkS v) = L "" := by rw [z]
      rw [L_mkS] at this
      rw [this]
      decide +kernel
    · have : c ∈ L (mkS v) := hc
      rwa [L_mkS] at this
theorem len_L (x : Str) : (L x).length = x.length := by simp [L, Str.length]
theorem slice_short (w : Str) (k : Int) (h : (w.length : Int) ≤ k) : Txt.slice w none (some k) = w := by
  unfold Txt.slice
  rw [if_pos]
  rw [Bool.and_eq_true]
  refine ⟨rfl, ?_⟩
  rw [beq_iff_eq]
  have e1 : Builtin.Str.strSliceIndices none (some k) 1 w.length = Builtin.Str.strSliceIndices (some ((0 : Nat) : Int)) (some ((w.length : Nat) : Int)) 1 w.length := by
    unfold Builtin.Str.strSliceIndices sliceRange
    simp only [show (1 : Int) > 0 by decide, if_true]
    have h1 : ¬ (k < 0) := by omega
    have h2 : ¬ (((w.length : Nat) : Int) < 0) := by omega
    have h3 : ¬ (((0 : Nat) : Int) < 0) := by decide
    simp only [h1, h2, h3, if_false]
    have e2 : max (0 : Int) (min k (w.length : Int)) = (w.length : Int) := by omega
    have e3 : max (0 : Int) (min ((w.length : Nat) : Int) (w.length : Int)) = (w.length : Int) := by omega
    have e4 : max (0 : Int) (min ((0 : Nat) : Int) (w.length : Int)) = 0 := by omega
    first
      | (simp only [e2, e3, e4])
      | (rw [e2, e3, e4])
  rw [e1, StrLaws.strSliceIndices_plain (Nat.zero_le _) (Nat.le_refl _)]
  simp
theorem slice_take (w : Str) (k : Nat) : L (Txt.slice w none (some (k : Int))) = (L w).take k := by
  by_cases h : w.length ≤ k
  · rw [slice_short w k (by omega), List.take_of_length_le (by rw [len_L]; exact h)]
  · have := StrLaws.sliceText_to (x := w) (j := (k : Int)) ⟨by omega, by have := len_L w; unfold L at this; omega⟩
    have e : Txt.slice w none (some (k : Int)) = StrLaws.sliceText w none (some (k : Int)) := rfl
    rw [e, this]
    show List.take ((k : Int) - 0).toNat ((L w).drop 0) = _
    rw [List.drop_zero]
    congr 1
end Mi
namespace Mi
open PySem L2
theorem mem_join (sep : Str) (c : Nat) : ∀ (ws : List Str) (t : Str), t ∈ ws → c ∈ t.cps.toList → c ∈ (Str.join sep ws).cps.toList
  | [], _, h, _ => by simp at h
  | [t], u, h, hc => by
    rw [List.mem_singleton.mp h] at hc
    exact hc
  | t :: u :: r, v, h, hc => by
    show c ∈ (t ++ sep ++ Str.join sep (u :: r)).cps.toList
    rw [app_cps, app_cps, List.mem_append, List.mem_append]
    rcases List.mem_cons.mp h with e | h
    · rw [← e]; exact .inl (.inl hc)
    · exact .inr (mem_join sep c (u :: r) v h hc)
theorem isWord_to {t : Str} (h : isWord t = true) : t ≠ "" ∧ ∀ c ∈ t.cps.toList, c ∈ WSL := by
  unfold isWord at h
  rw [Bool.and_eq_true, Bool.not_eq_true', decide_eq_false_iff_not, List.all_eq_true] at h
  refine ⟨fun e => h.1 (by rw [e]), fun c hc => ?_⟩
  have := h.2 (sIn ⟨#[c]⟩ "abcdefghijklmnopqrstuvwxyz0123456789") (List.mem_map.mpr ⟨⟨#[c]⟩, by unfold signs; exact List.mem_map.mpr ⟨c, hc, rfl⟩, rfl⟩)
  have this' : sIn ⟨#[c]⟩ "abcdefghijklmnopqrstuvwxyz0123456789" = true := this
  rw [sIn_one, decide_eq_true_eq] at this'
  exact this'
theorem isName_nm {x : Str} (h : isName x = true) : Nm x := by
  unfold Mi.isName at h
  split at h
  · cases h
  · rename_i hl
    rw [decide_eq_true_eq] at hl
    rw [List.all_eq_true] at h
    refine ⟨⟨Txt.split x "-", split_ne x "-", (StrLaws.join_split x dash).symm, fun t ht => isWord_to (h (isWord t) (List.mem_map.mpr ⟨t, ht, rfl⟩))⟩, by omega⟩
theorem lName_nm {x : Str} (h : lName x = true) : Nm x := by
  unfold Mi.lName at h
  split at h
  · rename_i hl
    rw [Bool.and_eq_true, decide_eq_true_eq, decide_eq_true_eq] at hl
    split at h
    · rename_i hs
      rw [List.all_eq_true] at hs
      rw [Bool.not_eq_true', decide_eq_false_iff_not] at h
      refine ⟨⟨Txt.split x "-", split_ne x "-", (StrLaws.join_split x dash).symm, fun t ht => ⟨fun e => h (e ▸ ht), fun c hc => ?_⟩⟩, by omega⟩
      have hx : c ∈ x.cps.toList := by
        have := mem_join dash c (Txt.split x dash) t ht hc
        rw [StrLaws.join_split] at this
        exact this
      have h1 := hs (sIn ⟨#[c]⟩ "abcdefghijklmnopqrstuvwxyz0123456789-") (List.mem_map.mpr ⟨⟨#[c]⟩, by unfold signs; exact List.mem_map.mpr ⟨c, hx, rfl⟩, rfl⟩)
      have h2 : sIn ⟨#[c]⟩ "abcdefghijklmnopqrstuvwxyz0123456789-" = true := h1
      unfold sIn at h2
      rw [StrLaws.found_one, ws2_list, decide_eq_true_eq, List.mem_append] at h2
      rcases h2 with h2 | h2
      · exact h2
      · have e45 : c = 45 := by simpa using h2
        have ht' : t ∈ Txt.split x ⟨#[45]⟩ := by rw [← dash_eq]; exact ht
        exact absurd hc (e45 ▸ StrLaws.split_free x 45 t ht')
    · cases h
  · cases h
theorem name_same (x : Str) : isName x = lName x := by
  cases h : isName x with
  | true => exact ((isName_nm h).lName).symm
  | false =>
    cases h2 : lName x with
    | false => rfl
    | true => rw [(lName_nm h2).isName] at h; cases h
end Mi
namespace Co
open PySem L2 Mi
abbrev spWord : Sp := sp1 (fun x => x.length ≤ 1000) fun x => .bl (isWord x)
def nmV : V → Bool
  | .str x => isName x
  | _ => false
def adL (xs : List V) : Bool := decide (1 ≤ xs.length) && decide (xs.length ≤ 4) && (xs.map nmV).all id
def spNameV (K : PySem.W.Frag) : Sp := fun vs H Q _ => ∃ v, vs = [v] ∧ Thg0 K H v ∧ ∀ H', Same H H' → Q (.bl (nmV v)) H'
def spAddr (K : PySem.W.Frag) : Sp := fun vs H Q _ => ∃ v, vs = [v] ∧ ((∃ a xs, v = .ref a ∧ SqT K H a xs ∧ xs.length ≤ 1000 ∧ (∀ x ∈ xs, Thg0 K H x) ∧ ∀ H', Same H H' → Q (.bl (adL xs)) H') ∨ (NoT H v ∧ ∀ H', Same H H' → Q (.bl false) H'))
end Co
namespace Mi
open PySem L2
theorem split_joinC (c : Nat) (ws : List Str) (hne : ws ≠ []) (h : ∀ t ∈ ws, c ∉ t.cps.toList) : Txt.split (Str.join ⟨#[c]⟩ ws) ⟨#[c]⟩ = ws :=
  join_inj c _ _ (split_ne _ _) hne (StrLaws.split_free _ c) h (StrLaws.join_split _ _)
theorem slash_eq : ("/" : Str) = ⟨#[47]⟩ := by decide +kernel
theorem blank_eq : (" " : Str) = ⟨#[32]⟩ := by decide +kernel
theorem feed_eq : ("\n" : Str) = ⟨#[10]⟩ := by decide +kernel
theorem join_has (sep : Str) (c : Nat) : ∀ (ws : List Str), c ∈ (Str.join sep ws).cps.toList → c ∈ sep.cps.toList ∨ ∃ t ∈ ws, c ∈ t.cps.toList
  | [], h => by
    have e : (Str.join sep []).cps.toList = [] := rfl
    rw [e] at h
    simp at h
  | [t], h => .inr ⟨t, List.mem_singleton.mpr rfl, h⟩
  | t :: u :: r, h => by
    rw [join_cons, app_cps, app_cps, List.mem_append, List.mem_append] at h
    rcases h with (h | h) | h
    · exact .inr ⟨t, List.mem_cons_self .., h⟩
    · exact .inl h
    · rcases join_has sep c (u :: r) h with h | ⟨v, hv, h⟩
      · exact .inl h
      · exact .inr ⟨v, List.mem_cons_of_mem _ hv, h⟩
theorem name_signs {x : Str} (h : isName x = true) {c : Nat} (hc : c ∈ x.cps.toList) : c ∈ WSL ∨ c = 45 := by
  obtain ⟨ws, _, e, hw⟩ := (isName_nm h).ex
  rw [e] at hc
  rcases join_has dash c ws hc with h | ⟨t, ht, h⟩
  · right
    rw [dash_eq] at h
    simpa using h
  · exact .inl ((hw t ht).2 c h)
def okA (u : List Str) : Bool := decide (1 ≤ u.length) && decide (u.length ≤ 4) && (u.map isName).all id
theorem okA_iff {u : List Str} : okA u = true ↔ 1 ≤ u.length ∧ u.length ≤ 4 ∧ ∀ t ∈ u, isName t = true := by
  unfold okA
  rw [Bool.and_eq_true, Bool.and_eq_true, decide_eq_true_eq, decide_eq_true_eq, List.all_eq_true]
  constructor
  · rintro ⟨⟨h1, h2⟩, h3⟩
    exact ⟨h1, h2, fun t ht => h3 _ (List.mem_map.mpr ⟨t, ht, rfl⟩)⟩
  · rintro ⟨h1, h2, h3⟩
    refine ⟨⟨h1, h2⟩, fun b hb => ?_⟩
    obtain ⟨t, ht, rfl⟩ := List.mem_map.mp hb
    exact h3 t ht
theorem name_len {x : Str} (h : isName x = true) : x.length ≤ 12 := (isName_nm h).len
def adX (u : List Str) : Str := Txt.join "/" u
def lnX (r : Rl) : Str := adX r.1 ++ " " ++ adX r.2
def rwX (R : List Rl) : Str := Txt.join "" (R.map fun r => lnX r ++ "\n")
def rdA (x : Str) : Option (List Str) := if okA (Txt.split x "/") = true then some (Txt.split x "/") else none
def rdR (x : Str) : Option Rl := match Txt.split x " " with
  | [a, b] => (rdA a).bind fun u => (rdA b).map fun v => (u, v)
  | _ => none
def rdL : List Str → Option (List Rl)
  | [] => some []
  | x :: xs => (rdR x).bind fun r => (rdL xs).map (r :: ·)
def rdT (x : Str) : Option (List Rl) := if (Txt.split x "\n").getLast? = some ("" : Str) then (rdL (Txt.split x "\n").dropLast).bind fun R => if (R.map (·.1)).Nodup then some R else none else none
theorem adX_signs {u : List Str} (h : okA u = true) {c : Nat} (hc : c ∈ (adX u).cps.toList) : c ∈ WSL ∨ c = 45 ∨ c = 47 := by
  unfold adX at hc
  rw [txt_join] at hc
  rcases join_has _ c u hc with h' | ⟨t, ht, h'⟩
  · rw [slash_eq] at h'
    exact .inr (.inr (by simpa using h'))
  · rcases name_signs ((okA_iff.mp h).2.2 t ht) h' with h | h
    · exact .inl h
    · exact .inr (.inl h)
theorem adX_no {u : List Str} (h : okA u = true) {c : Nat} (h1 : c ∉ WSL) (h2 : c ≠ 45) (h3 : c ≠ 47) : c ∉ (adX u).cps.toList := fun hc => by
  rcases adX_signs h hc with z | z | z
  · exact h1 z
  · exact h2 z
  · exact h3 z
theorem lnX_no {r : Rl} (h1 : okA r.1 = true) (h2 : okA r.2 = true) : (10 : Nat) ∉ (lnX r).cps.toList := by
  unfold lnX
  rw [app_cps, app_cps, List.mem_append, List.mem_append]
  rintro ((h | h) | h)
  · exact adX_no h1 (by decide) (by decide) (by decide) h
  · rw [blank_eq] at h; simp at h
  · exact adX_no h2 (by decide) (by decide) (by decide) h
theorem rdA_ad {u : List Str} (h : okA u = true) : rdA (adX u) = some u := by
  obtain ⟨h1, h2, h3⟩ := okA_iff.mp h
  have e : Txt.split (adX u) "/" = u := by
    unfold adX
    rw [txt_join, slash_eq]
    refine split_joinC 47 u (fun z => by rw [z] at h1; simp at h1) fun t ht hc => ?_
    rcases name_signs (h3 t ht) hc with z | z
    · exact absurd z (by decide)
    · exact absurd z (by decide)
  unfold rdA
  rw [e, if_pos h]
theorem rdR_ln {r : Rl} (h1 : okA r.1 = true) (h2 : okA r.2 = true) : rdR (lnX r) = some r := by
  have e : Txt.split (lnX r) " " = [adX r.1, adX r.2] := by
    have : lnX r = Str.join ⟨#[32]⟩ [adX r.1, adX r.2] := by
      rw [join_cons, ← blank_eq]
      rfl
    rw [this, blank_eq]
    refine split_joinC 32 _ (by simp) fun t ht => ?_
    rcases List.mem_cons.mp ht with rfl | ht
    · exact adX_no h1 (by decide) (by decide) (by decide)
    · rw [List.mem_singleton.mp ht]
      exact adX_no h2 (by decide) (by decide) (by decide)
  unfold rdR
  rw [e]
  show (rdA (adX r.1)).bind _ = _
  rw [rdA_ad h1, rdA_ad h2]
  rfl
theorem join0_cons (a : Str) (r : List Str) : Str.join "" (a :: r) = a ++ Str.join "" r := by
  cases r with
  | nil => exact str_eq (by rw [app_cps]; show a.cps.toList = a.cps.toList ++ []; rw [List.append_nil])
  | cons b r => exact str_eq (by rw [join_cons, app_cps, app_cps, app_cps]; show (a.cps.toList ++ []) ++ _ = _; rw [List.append_nil])
theorem join_lines : ∀ (ls : List Str), Str.join "" (ls.map (· ++ ("\n" : Str))) = Str.join ("\n" : Str) (ls ++ [("" : Str)])
  | [] => rfl
  | a :: ls => by
    rw [List.map_cons, join0_cons, join_lines ls]
    cases ls with
    | nil => exact str_eq (by show ((a ++ "\n") ++ "" : Str).cps.toList = (a ++ "\n" ++ "" : Str).cps.toList; rfl)
    | cons b ls =>
      show _ = Str.join ("\n" : Str) (a :: b :: (ls ++ [("" : Str)]))
      rw [join_cons]
      rfl
theorem split_lines (ls : List Str) (h : ∀ t ∈ ls, (10 : Nat) ∉ t.cps.toList) : Txt.split (Str.join "" (ls.map (· ++ ("\n" : Str)))) "\n" = ls ++ [("" : Str)] := by
  rw [join_lines, feed_eq]
  refine split_joinC 10 _ (by simp) fun t ht => ?_
  rcases List.mem_append.mp ht with ht | ht
  · exact h t ht
  · rw [List.mem_singleton.mp ht]
    have : (("" : Str).cps.toList) = [] := rfl
    rw [this]
    simp
def GoodR (R : List Rl) : Prop := ∀ r ∈ R, okA r.1 = true ∧ okA r.2 = true
theorem rdL_ln : ∀ {R : List Rl}, GoodR R → rdL (R.map lnX) = some R
  | [], _ => rfl
  | r :: R, h => by
    have h1 := h r (List.mem_cons_self ..)
    rw [List.map_cons]
    unfold rdL
    rw [rdR_ln h1.1 h1.2, rdL_ln fun x hx => h x (List.mem_cons_of_mem _ hx)]
    rfl
theorem rdT_lines (ls : List Str) (h : ∀ t ∈ ls, (10 : Nat) ∉ t.cps.toList) : rdT (Str.join "" (ls.map (· ++ ("\n" : Str)))) = (rdL ls).bind fun R => if (R.map (·.1)).Nodup then some R else none := by
  unfold rdT
  rw [split_lines ls h, List.dropLast_concat, if_pos (by simp)]
theorem rwX_eq (R : List Rl) : rwX R = Str.join "" ((R.map lnX).map (· ++ ("\n" : Str))) := by
  unfold rwX
  rw [txt_join, List.map_map]
  rfl
theorem GoodR.no {R : List Rl} (h : GoodR R) : ∀ t ∈ R.map lnX, (10 : Nat) ∉ t.cps.toList := fun t ht => by
  obtain ⟨r, hr, rfl⟩ := List.mem_map.mp ht
  exact lnX_no (h r hr).1 (h r hr).2
theorem rdT_rw {R : List Rl} (h : GoodR R) : rdT (rwX R) = if (R.map (·.1)).Nodup then some R else none := by
  rw [rwX_eq, rdT_lines _ h.no, rdL_ln h]
  rfl
theorem rdT_yes {R : List Rl} (h : GoodR R) (nd : (R.map (·.1)).Nodup) : rdT (rwX R) = some R := by rw [rdT_rw h, if_pos nd]
theorem join_len1 (sep : Str) (hs : sep.length = 1) : ∀ (ts : List Str) (b : Nat), (∀ t ∈ ts, t.length ≤ b) → (Str.join sep ts).length ≤ ts.length * (b + 1)
  | [], _, _ => by show (0 : Nat) ≤ _; omega
  | [t], b, h => by
    have := h t (List.mem_cons_self ..)
    show t.length ≤ _
    rw [List.length_singleton]
    omega
  | t :: u :: r, b, h => by
    have h1 := h t (List.mem_cons_self ..)
    have h2 := join_len1 sep hs (u :: r) b fun x hx => h x (List.mem_cons_of_mem _ hx)
    rw [join_cons, app_length, app_length, hs, List.length_cons, Nat.succ_mul]
    omega
theorem adX_len {u : List Str} (h : okA u = true) : (adX u).length ≤ 52 := by
  obtain ⟨_, h2, h3⟩ := okA_iff.mp h
  have := join_len1 "/" (by decide +kernel) u 12 fun t ht => name_len (h3 t ht)
  unfold adX
  rw [txt_join]
  have : u.length * 13 ≤ 4 * 13 := Nat.mul_le_mul_right _ h2
  omega
theorem len_blank : (" " : Str).length = 1 := by decide +kernel
theorem len_feed : ("\n" : Str).length = 1 := by decide +kernel
theorem lnX_len {r : Rl} (h1 : okA r.1 = true) (h2 : okA r.2 = true) : (lnX r).length ≤ 105 := by
  have a := adX_len h1
  have b := adX_len h2
  unfold lnX
  rw [app_length, app_length, len_blank]
  omega
theorem join0_len : ∀ (ts : List Str) (b : Nat), (∀ t ∈ ts, t.length ≤ b) → (Str.join "" ts).length ≤ ts.length * b
  | [], _, _ => by show (0 : Nat) ≤ _; omega
  | t :: ts, b, h => by
    have h1 := h t (List.mem_cons_self ..)
    have h2 := join0_len ts b fun x hx => h x (List.mem_cons_of_mem _ hx)
    rw [join0_cons, app_length, List.length_cons, Nat.succ_mul]
    omega
theorem lns_len {R : List Rl} (h : GoodR R) : ∀ t ∈ R.map (fun r => lnX r ++ ("\n" : Str)), t.length ≤ 106 := fun t ht => by
  obtain ⟨r, hr, rfl⟩ := List.mem_map.mp ht
  have := lnX_len (h r hr).1 (h r hr).2
  show (lnX r ++ ("\n" : Str)).length ≤ 106
  rw [app_length, len_feed]
  omega
theorem rdL_none : ∀ {ls : List Str} {x : Str}, x ∈ ls → rdR x = none → rdL ls = none
  | y :: ls, x, hx, h => by
    unfold rdL
    rcases List.mem_cons.mp hx with rfl | hx
    · rw [h]; rfl
    · rw [rdL_none hx h]
      cases rdR y <;> rfl
theorem rdT_some {x : Str} {R : List Rl} (h : rdL (Txt.split x "\n").dropLast = some R) (hl : (Txt.split x "\n").getLast? = some ("" : Str)) : rdT x = if (R.map (·.1)).Nodup then some R else none := by
  unfold rdT
  rw [if_pos hl, h]
  rfl
theorem rdA_ok {x : Str} {u : List Str} (h : rdA x = some u) : u = Txt.split x "/" ∧ okA u = true := by
  unfold rdA at h
  split at h
  · rename_i h1
    obtain rfl := Option.some.inj h
    exact ⟨rfl, h1⟩
  · cases h
theorem rdR_ok {x : Str} {r : Rl} (h : rdR x = some r) : okA r.1 = true ∧ okA r.2 = true := by
  unfold rdR at h
  split at h
  · rename_i a b _
    cases h1 : rdA a with
    | none => rw [h1] at h; cases h
    | some u =>
      cases h2 : rdA b with
      | none => rw [h1, h2] at h; cases h
      | some v =>
        rw [h1, h2] at h
        obtain rfl := Option.some.inj h
        exact ⟨(rdA_ok h1).2, (rdA_ok h2).2⟩
  · cases h
theorem rdR_two {x a b : Str} (e : Txt.split x " " = [a, b]) : rdR x = (rdA a).bind fun u => (rdA b).map fun v => (u, v) := by
  unfold rdR
  rw [e]
theorem rdR_not2 {x : Str} (e : (Txt.split x " ").length ≠ 2) : rdR x = none := by
  unfold rdR
  split
  · rename_i h
    rw [h] at e
    exact absurd rfl e
  · rfl
theorem split_signs {x y t : Str} (h : t ∈ Txt.split x y) {c : Nat} (hc : c ∈ t.cps.toList) : c ∈ x.cps.toList := by
  have := mem_join y c (Txt.split x y) t h hc
  rw [StrLaws.join_split] at this
  exact this
end Mi
namespace Co
open PySem L2 Mi
theorem ifN {c A B : Prop} [Decidable c] (hc : c) (h : B) : if (!decide c) = true then A else B := by
  rw [decide_eq_true hc]
  exact iteF h
theorem ifY {c A B : Prop} [Decidable c] (hc : ¬ c) (h : A) : if (!decide c) = true then A else B := by
  rw [decide_eq_false hc]
  exact iteT h
inductive Thing where
  | oth
  | txt (x : Str)
  | tup (ts : List Thing)
mutual
def IsTh (K : PySem.W.Frag) (H : Hp) : Thing → V → Prop
  | .oth, v => v = .non ∨ (∃ i, v = .int i) ∨ (∃ b, v = .bl b) ∨ ∃ a xs, v = .ref a ∧ H a = some (.lst xs)
  | .txt x, v => v = .str x ∧ x.length ≤ 1000
  | .tup ts, v => ∃ a xs, v = .ref a ∧ SqT K H a xs ∧ xs.length ≤ 1000 ∧ AreTh K H ts xs
def AreTh (K : PySem.W.Frag) (H : Hp) : List Thing → List V → Prop
  | [], xs => xs = []
  | t :: ts, xs => ∃ y ys, xs = y :: ys ∧ IsTh K H t y ∧ AreTh K H ts ys
end
mutual
theorem IsTh.same {K : PySem.W.Frag} {H H' : Hp} (s : Same H H') : ∀ {t : Thing} {x : V}, IsTh K H t x → IsTh K H' t x
  | .oth, _, h => by
    rcases h with h | h | h | ⟨a, xs, e, h⟩
    · exact .inl h
    · exact .inr (.inl h)
    · exact .inr (.inr (.inl h))
    · exact .inr (.inr (.inr ⟨a, xs, e, s _ _ h⟩))
  | .txt _, _, h => h
  | .tup _, _, ⟨a, xs, e, h, hl, hx⟩ => ⟨a, xs, e, s.tup h, hl, AreTh.same s hx⟩
theorem AreTh.same {K : PySem.W.Frag} {H H' : Hp} (s : Same H H') : ∀ {ts : List Thing} {xs : List V}, AreTh K H ts xs → AreTh K H' ts xs
  | [], _, h => h
  | _ :: _, _, ⟨y, ys, e, h1, h2⟩ => ⟨y, ys, e, IsTh.same s h1, AreTh.same s h2⟩
end
theorem AreTh.length {K : PySem.W.Frag} {H : Hp} : ∀ {ts : List Thing} {xs : List V}, AreTh K H ts xs → xs.length = ts.length
  | [], _, h => by rw [show _ = [] from h]; rfl
  | _ :: _, _, ⟨y, ys, e, _, h2⟩ => by rw [e, List.length_cons, List.length_cons, AreTh.length h2]
theorem AreTh.zip {K : PySem.W.Frag} {H : Hp} : ∀ {ts : List Thing} {xs : List V}, AreTh K H ts xs → ∃ rs : List (V × Thing), rs.map (·.1) = xs ∧ rs.map (·.2) = ts ∧ ∀ r ∈ rs, IsTh K H r.2 r.1
  | [], _, h => ⟨[], (show _ = [] from h).symm, rfl, fun r hr => nomatch hr⟩
  | t :: _, _, ⟨y, ys, e, h1, h2⟩ => by
    obtain ⟨rs, e1, e2, e3⟩ := AreTh.zip h2
    refine ⟨(y, t) :: rs, by rw [e, List.map_cons, e1], by rw [List.map_cons, e2], fun r hr => ?_⟩
    rcases List.mem_cons.mp hr with rfl | hr
    · exact h1
    · exact e3 r hr
theorem AreTh.of {K : PySem.W.Frag} {H : Hp} {α : Type} (f : α → Thing) (g : α → V) : ∀ (L : List α), (∀ x ∈ L, IsTh K H (f x) (g x)) → AreTh K H (L.map f) (L.map g)
  | [], _ => rfl
  | x :: L, h => ⟨g x, L.map g, rfl, h x (List.mem_cons_self ..), AreTh.of f g L fun y hy => h y (List.mem_cons_of_mem _ hy)⟩
theorem AreTh.app {K : PySem.W.Frag} {H : Hp} : ∀ {ts us : List Thing} {xs ys : List V}, AreTh K H ts xs → AreTh K H us ys → AreTh K H (ts ++ us) (xs ++ ys)
  | [], _, _, _, h, h2 => by rw [show _ = [] from h]; exact h2
  | _ :: _, _, _, _, ⟨y, ys, e, h1, h2⟩, h3 => ⟨y, ys ++ _, by rw [e, List.cons_append], h1, AreTh.app h2 h3⟩
theorem IsTh.noT {K : PySem.W.Frag} {H : Hp} {v : V} : ∀ {t : Thing}, IsTh K H t v → (∀ ts, t ≠ .tup ts) → NoT H v
  | .oth, h, _ => by
    rcases h with h | h | h | h
    · exact .inr (.inl h)
    · exact .inr (.inr (.inl h))
    · exact .inr (.inr (.inr (.inl h)))
    · exact .inr (.inr (.inr (.inr h)))
  | .txt x, h, _ => .inl ⟨x, h.1, h.2⟩
  | .tup ts, _, h => absurd rfl (h ts)
theorem IsTh.thg0 {K : PySem.W.Frag} {H : Hp} {v : V} : ∀ {t : Thing}, IsTh K H t v → Thg0 K H v
  | .oth, h => (IsTh.noT (K := K) (t := .oth) h (fun _ e => nomatch e)).thg
  | .txt _, h => (IsTh.noT (K := K) h (fun _ e => nomatch e)).thg
  | .tup _, ⟨a, xs, e, h, _, _⟩ => .inr (.inr (.inr (.inr (.inl ⟨a, xs, e, h⟩))))
def nmT : Thing → Bool
  | .txt x => isName x
  | _ => false
theorem nmT_eq {K : PySem.W.Frag} {H : Hp} {v : V} : ∀ {t : Thing}, IsTh K H t v → nmV v = nmT t
  | .oth, h => by
    rcases h with rfl | ⟨i, rfl⟩ | ⟨b, rfl⟩ | ⟨a, xs, rfl, _⟩ <;> rfl
  | .txt _, h => by rw [h.1]; rfl
  | .tup _, ⟨a, xs, e, _⟩ => by rw [e]; rfl
def okT : Thing → Bool
  | .tup ts => decide (1 ≤ ts.length) && decide (ts.length ≤ 4) && (ts.map nmT).all id
  | _ => false
theorem adL_eq {K : PySem.W.Frag} {H : Hp} {ts : List Thing} {xs : List V} (h : AreTh K H ts xs) : adL xs = okT (.tup ts) := by
  unfold adL okT
  rw [h.length]
  have : xs.map nmV = ts.map nmT := by
    obtain ⟨rs, rfl, rfl, e3⟩ := h.zip
    rw [List.map_map, List.map_map]
    exact List.map_congr_left fun r hr => nmT_eq (e3 r hr)
  rw [this]
theorem AreTh.thg0 {K : PySem.W.Frag} {H : Hp} {ts : List Thing} {xs : List V} (h : AreTh K H ts xs) : ∀ x ∈ xs, Thg0 K H x := by
  obtain ⟨rs, rfl, _, e3⟩ := h.zip
  intro x hx
  obtain ⟨r, hr, rfl⟩ := List.mem_map.mp hx
  exact (e3 r hr).thg0
theorem addr_at {K : PySem.W.Frag} {H : Hp} {v : V} {t : Thing} {Q : VK} {E : XK} (h : IsTh K H t v) (q : ∀ H', Same H H' → Q (.bl (okT t)) H') : spAddr K [v] H Q E := by
  refine ⟨v, rfl, ?_⟩
  cases t with
  | oth => exact .inr ⟨IsTh.noT (K := K) (t := .oth) h (fun _ e => nomatch e), q⟩
  | txt x => exact .inr ⟨IsTh.noT (K := K) (t := .txt x) h (fun _ e => nomatch e), q⟩
  | tup ts =>
    obtain ⟨a, xs, e, hq, hl, hx⟩ := h
    refine .inl ⟨a, xs, e, hq, hl, hx.thg0, ?_⟩
    rw [adL_eq hx]
    exact q
def txtT : Thing → Str
  | .txt x => x
  | _ => ""
def keyT : Thing → List Str
  | .tup ts => ts.map txtT
  | _ => []
def fstT : Thing → Thing
  | .tup (a :: _) => a
  | _ => .oth
def rowT : Thing → Bool
  | .tup [a, b] => okT a && okT b
  | _ => false
def areT : Thing → Bool
  | .tup ts => (ts.map rowT).all id && decide ((ts.map fun t => keyT (fstT t)).Nodup)
  | _ => false
theorem okT_strs {K : PySem.W.Frag} {H : Hp} {v : V} {t : Thing} (h : IsTh K H t v) (ok : okT t = true) : ∃ a, v = .ref a ∧ SqT K H a ((keyT t).map V.str) ∧ okA (keyT t) = true := by
  cases t with
  | oth => cases ok
  | txt x => cases ok
  | tup ts =>
    obtain ⟨a, xs, e, hq, hl, hx⟩ := h
    unfold okT at ok
    rw [Bool.and_eq_true, Bool.and_eq_true, decide_eq_true_eq, decide_eq_true_eq, List.all_eq_true] at ok
    have hn : ∀ t ∈ ts, nmT t = true := fun t ht => ok.2 _ (List.mem_map.mpr ⟨t, ht, rfl⟩)
    have exs : xs = (ts.map txtT).map V.str := by
      obtain ⟨rs, rfl, rfl, e3⟩ := hx.zip
      rw [List.map_map, List.map_map]
      refine List.map_congr_left fun r hr => ?_
      have h1 := e3 r hr
      have h2 := hn r.2 (List.mem_map.mpr ⟨r, hr, rfl⟩)
      obtain ⟨v, t⟩ := r
      cases t with
      | oth => cases h2
      | txt x => exact h1.1
      | tup _ => cases h2
    refine ⟨a, e, by rw [show keyT (.tup ts) = ts.map txtT from rfl, ← exs]; exact hq, okA_iff.mpr ⟨by show 1 ≤ (ts.map txtT).length; rw [List.length_map]; exact ok.1.1, by show (ts.map txtT).length ≤ 4; rw [List.length_map]; exact ok.1.2, fun x hx => ?_⟩⟩
    obtain ⟨t, ht, rfl⟩ := List.mem_map.mp (show x ∈ ts.map txtT from hx)
    have h2 := hn t ht
    cases t with
    | oth => cases h2
    | txt x => exact h2
    | tup _ => cases h2
def adD (u : List Str) : Thing := .tup (u.map Thing.txt)
theorem keyT_ad (u : List Str) : keyT (adD u) = u := by
  show (u.map Thing.txt).map txtT = u
  rw [List.map_map]
  exact List.map_id'' (fun _ => rfl) u
theorem okT_ad (u : List Str) : okT (adD u) = okA u := by
  unfold okT adD okA
  simp only
  rw [List.length_map, List.map_map]
  rfl
theorem isTh_ad {K : PySem.W.Frag} {H : Hp} {a : Addr} {u : List Str} (h : SqT K H a (u.map V.str)) (hl : u.length ≤ 1000) (hs : ∀ t ∈ u, t.length ≤ 1000) : IsTh K H (adD u) (.ref a) :=
  ⟨a, _, rfl, h, by rw [List.length_map]; exact hl, AreTh.of Thing.txt V.str u fun x hx => ⟨rfl, hs x hx⟩⟩
def rlD (r : Rl) : Thing := .tup [adD r.1, adD r.2]
theorem rowT_rl (r : Rl) : rowT (rlD r) = (okA r.1 && okA r.2) := by
  show (okT (adD r.1) && okT (adD r.2)) = _
  rw [okT_ad, okT_ad]
theorem areT_rls {R : List Rl} (h : GoodR R) : areT (.tup (R.map rlD)) = decide ((R.map (·.1)).Nodup) := by
  have e1 : ((R.map rlD).map rowT).all id = true := by
    rw [List.all_eq_true]
    intro b hb
    obtain ⟨t, ht, rfl⟩ := List.mem_map.mp hb
    obtain ⟨r, hr, rfl⟩ := List.mem_map.mp ht
    show rowT (rlD r) = true
    rw [rowT_rl, (h r hr).1, (h r hr).2]
    rfl
  have e2 : (R.map rlD).map (fun t => keyT (fstT t)) = R.map (·.1) := by
    rw [List.map_map]
    exact List.map_congr_left fun r _ => keyT_ad r.1
  show (((R.map rlD).map rowT).all id && decide (((R.map rlD).map fun t => keyT (fstT t)).Nodup)) = _
  rw [e1]
  simp only [e2, Bool.true_and]
theorem okA_len {u : List Str} (h : okA u = true) : u.length ≤ 1000 ∧ ∀ t ∈ u, t.length ≤ 1000 := by
  obtain ⟨_, h2, h3⟩ := okA_iff.mp h
  exact ⟨by omega, fun t ht => by have := name_len (h3 t ht); omega⟩
theorem isTh_rl {K : PySem.W.Frag} {H : Hp} {x : Rx} (h : RlH H x) (h1 : okA x.2.2.2.1 = true) (h2 : okA x.2.2.2.2 = true) : IsTh K H (rlD x.2.2.2) (.ref x.1) :=
  ⟨x.1, _, rfl, SqT.of h.1, (show 2 ≤ 1000 by decide), _, _, rfl, isTh_ad (SqT.of h.2.1) (okA_len h1).1 (okA_len h1).2, _, _, rfl, isTh_ad (SqT.of h.2.2) (okA_len h2).1 (okA_len h2).2, rfl⟩
theorem isTh_rls {K : PySem.W.Frag} {H : Hp} {p : Addr} {rs : List Rx} (hp : SqT K H p (rrefs rs)) (hin : RlsIn H rs) (hg : GoodR (rs.map (·.2.2.2))) (hl : rs.length ≤ 1000) : IsTh K H (.tup ((rs.map (·.2.2.2)).map rlD)) (.ref p) := by
  refine ⟨p, _, rfl, hp, by unfold rrefs; rw [List.length_map]; exact hl, ?_⟩
  rw [List.map_map]
  exact AreTh.of _ _ rs fun x hx => isTh_rl (hin x hx) (hg _ (List.mem_map.mpr ⟨x, hx, rfl⟩)).1 (hg _ (List.mem_map.mpr ⟨x, hx, rfl⟩)).2
theorem rows_keys {K : PySem.W.Frag} {H : Hp} : ∀ {rs : List (V × Thing)}, (∀ r ∈ rs, IsTh K H r.2 r.1) → (∀ r ∈ rs, rowT r.2 = true) →
    ∃ qs : List (Addr × V × Addr × List Str), (qs.map fun q => V.ref q.1) = rs.map (·.1) ∧ (∀ q ∈ qs, SqT K H q.1 [.ref q.2.2.1, q.2.1] ∧ SqT K H q.2.2.1 (q.2.2.2.map V.str)) ∧ (qs.map fun q => q.2.2.2) = rs.map fun r => keyT (fstT r.2)
  | [], _, _ => ⟨[], rfl, (fun q hq => nomatch hq), rfl⟩
  | (v, t) :: rs, h1, h2 => by
    obtain ⟨qs, e1, e2, e3⟩ := rows_keys (fun r hr => h1 r (List.mem_cons_of_mem _ hr)) (fun r hr => h2 r (List.mem_cons_of_mem _ hr))
    have th := h1 (v, t) (List.mem_cons_self ..)
    have ok := h2 (v, t) (List.mem_cons_self ..)
    dsimp only at th ok
    cases t with
    | oth => cases ok
    | txt x => cases ok
    | tup ts =>
      cases ts with
      | nil => cases ok
      | cons t1 r => cases r with
        | nil => cases ok
        | cons t2 r => cases r with
          | cons _ _ => cases ok
          | nil =>
            obtain ⟨p, xs, rfl, hq, hl, x, _, rfl, th1, y, _, rfl, th2, e⟩ := th
            have e' : _ = [] := e
            subst e'
            have ok' : (okT t1 && okT t2) = true := ok
            rw [Bool.and_eq_true] at ok'
            obtain ⟨a, rfl, ha, _⟩ := okT_strs th1 ok'.1
            refine ⟨(p, y, a, keyT t1) :: qs, by rw [List.map_cons, List.map_cons, e1], fun q hq' => ?_, by rw [List.map_cons, List.map_cons, e3]; rfl⟩
            rcases List.mem_cons.mp hq' with rfl | hq'
            · exact ⟨hq, ha⟩
            · exact e2 q hq'
def spRow (K : PySem.W.Frag) : Sp := fun vs H Q _ => ∃ v t, vs = [v] ∧ IsTh K H t v ∧ ∀ H', Same H H' → Q (.bl (rowT t)) H'
def spAre (K : PySem.W.Frag) : Sp := fun vs H Q _ => ∃ v t, vs = [v] ∧ IsTh K H t v ∧ (∀ ts, t = .tup ts → (∀ x ∈ ts, rowT x = true) → ts.length ≤ 18) ∧ ∀ H', Same H H' → Q (.bl (areT t)) H'
end Co
namespace Co
open PySem L2 Mi
theorem compF_drawsL {K : PySem.W.Frag} {a t l : Addr} {ns : List Int} {zs : List V} {n : Nat} {te : TE} {H1 : Hp} {QD : Hp → Prop} (L : List Str) (D : Addr) (hD : H1 D = none) (hS : Scr K H1 a ns) (hT : H1 t = some (.lst zs)) (hl0 : H1 l = some (.lst (L.map V.str))) (hlt : l ≠ t) (hn : n ≤ 100) (hz : zs.length + n < 50000)
    (hte : ∀ x H (R : VK) zs', Scr K H a ns → H t = some (.lst zs') → H l = some (.lst (L.map V.str)) → zs'.length < 50000 → (∀ z H', z ∈ L → H' t = some (.lst (zs' ++ [.int 0])) → Stp t H H' → R (.str z) H') → te (some x :: [some (.ref a), some (.ref t), some (.ref l)]) H R)
    (hd : ∀ (ts : List Str) (zs' : List V) H', ts.length = n → (∀ z ∈ ts, z ∈ L) → H' t = some (.lst zs') → zs'.length = zs.length + n → Stp t H1 H' → H' D = some (.lst (ts.map V.str)) → QD H') :
    ∃ W : Nat → Nat → List V → Hp → Prop, (∃ m, W 0 m [] (upd H1 D (.lst []))) ∧ ∀ i m ys H2, W i m ys H2 → H2 D = some (.lst ys) ∧
      (((Itr 0 n).stop i H2 ∧ QD H2) ∨ ((Itr 0 n).go i H2 ∧ ∀ x H3, (Itr 0 n).yld i H2 x H3 → ∀ pre : St, pre.length = 1 → gName 0 x (pre ++ [some (.ref a), some (.ref t), some (.ref l)]) H3 fun σ4 H4 => (∃ pre' : St, pre'.length = 1 ∧ σ4 = pre' ++ [some (.ref a), some (.ref t), some (.ref l)]) ∧
        tTrue σ4 H4 fun b H5 => if b = true then te σ4 H5 (fun y H6 => H6 D = some (.lst ys) ∧ ys.length < sizeLine ∧ ∃ m', m' < m ∧ W (i + 1) m' (ys ++ [y]) (upd H6 D (.lst (ys ++ [y])))) else ∃ m', m' < m ∧ W (i + 1) m' ys H5)) := by
  have hDt : D ≠ t := (ne_of_none hT hD).symm
  refine compF_drw (J := Itr 0 n) (n := n) (fr := [some (.ref a), some (.ref t), some (.ref l)]) D (fun _ _ => True)
    (fun j ys H' => ∃ (ts : List Str) (zs' : List V), ys = ts.map V.str ∧ ts.length = j ∧ (∀ z ∈ ts, z ∈ L) ∧ H' t = some (.lst zs') ∧ zs'.length = zs.length + j ∧ Stp t H1 H') (bigl _ (by omega))
    (fun i H' h => h) (fun i H' x H'' _ y => ⟨y.1, trivial⟩) (fun H' => Nat.le_refl _)
    ⟨[], zs, rfl, rfl, (fun z hz => by cases hz), by rw [upd_ne hDt.symm]; exact hT, rfl, (Same.new hD _).stp⟩ ?_ ?_
  · rintro j x ys H2 R hj _ ⟨ts, zs', rfl, hl, hL, hT2, hl2, st2⟩ hD2 hR
    refine hte x H2 _ zs' (hS.stp hT st2) hT2 (st2 _ _ hlt hl0) (by omega) fun z H3 hz hT3 st3 => ?_
    refine hR _ _ (st3 _ _ hDt hD2) ⟨ts ++ [z], _, by rw [List.map_append]; rfl, by rw [List.length_append, hl]; rfl, fun y hy => ?_, by rw [upd_ne hDt.symm]; exact hT3, by rw [List.length_append, hl2]; rfl, fun b o hb e => ?_⟩
    · rcases List.mem_append.mp hy with hy | hy
      · exact hL y hy
      · rw [List.mem_singleton.mp hy]; exact hz
    · rw [upd_ne (ne_of_none e hD)]
      exact (st2.trans st3) b o hb e
  · rintro ys H2 ⟨ts, zs', rfl, hl, hL, hT2, hl2, st2⟩ hD2
    exact hd ts zs' H2 hl hL hT2 hl2 st2 hD2
structure DRp (n : Nat) (Pr : List Str → Prop) (H : Hp) (kvs : List (List Key × V)) (us : List (List Str)) : Prop where
  keys : kvs.map (·.1) = us.map fun t => t.map Sum.inr
  nd : us.Nodup
  len : us.length ≤ n
  short : ∀ u ∈ us, Pr u
  vals : ∀ z ∈ kvs, ∃ q v, z.2 = .ref q ∧ TupA H q v ∧ Pr v
theorem DRp.ts {n : Nat} {Pr : List Str → Prop} {H H' : Hp} {kvs : List (List Key × V)} {us : List (List Str)} (h : DRp n Pr H kvs us) (t : TS' H H') : DRp n Pr H' kvs us := ⟨h.keys, h.nd, h.len, h.short, fun z hz => let ⟨q, v, e, hq, hl⟩ := h.vals z hz; ⟨q, v, e, t _ _ hq, hl⟩⟩
theorem DRp.put {n : Nat} {Pr : List Str → Prop} {H : Hp} {kvs : List (List Key × V)} {us : List (List Str)} (h : DRp n Pr H kvs us) {u v : List Str} {q : Addr} (hu : Pr u) (hq : TupA H q v) (hv : Pr v) : ∃ us', DRp (n + 1) Pr H (putK kvs (u.map Sum.inr) (.ref q)) us' := by
  refine ⟨_, putKT_keys h.keys, ?_, ?_, fun x hx => ?_, fun z hz => ?_⟩
  · split
    · exact h.nd
    · rename_i hn
      rw [List.nodup_append]
      exact ⟨h.nd, by simp, fun y hy z hz e => hn (by rw [List.mem_singleton.mp hz] at e; exact e ▸ hy)⟩
  · have := h.len
    split
    · omega
    · rw [List.length_append, List.length_singleton]; omega
  · split at hx
    · exact h.short x hx
    · rcases List.mem_append.mp hx with hx | hx
      · exact h.short x hx
      · rw [List.mem_singleton.mp hx]; exact hu
  · rcases putK_val hz with e | ⟨y, hy, e⟩
    · exact ⟨q, v, e, hq, hv⟩
    · obtain ⟨q', v', e', r⟩ := h.vals y hy
      exact ⟨q', v', e.symm.trans e', r⟩
end Co
namespace L2
open PySem PySem.Spec PyProof.Rows
def rAddS : R2 := fun x y H Q => ∃ i j, x = .str i ∧ y = .str j ∧ i.length + j.length ≤ sizeLine ∧ Q (.str (i ++ j)) H
theorem op_addS {X : Cx} : OpR X (binaryOp .Add) rAddS := op_add_str
end L2
namespace Co
open PySem L2 Mi
end Co
namespace LW
open PySem L2 Mi Co
def top (i : Nat) : Stmt := PySem.Challenge.pw_pagenames_k11_whole_rows_as_texts.main.body.getD i (.Pass ⟨0, 0, 0, 0⟩)
abbrev sWord : Stmt := top 6
abbrev sName : Stmt := top 7
abbrev sAddr : Stmt := top 10
abbrev sText : Stmt := top 11
abbrev sRead : Stmt := top 12
abbrev sLine : Stmt := top 14
abbrev sRText : Stmt := top 15
abbrev sRow : Stmt := top 16
abbrev sAre : Stmt := top 17
abbrev sRdRow : Stmt := top 18
abbrev sRdRows : Stmt := top 19
abbrev sSame : Stmt := top 21
abbrev sOr : Stmt := top 22
abbrev sDraw : Stmt := top 23
abbrev sPick : Stmt := top 24
abbrev sLName : Stmt := top 25
abbrev sTold : Stmt := top 26
abbrev sLAddr : Stmt := top 27
abbrev sLAre : Stmt := top 28
abbrev sLText : Stmt := top 29
abbrev sLRead : Stmt := top 30
abbrev sDAddr : Stmt := top 31
abbrev sLaw : Stmt := top 32
end LW
namespace LW
open PySem L2 Mi Co
section
variable {P : Program} {w : World} {K : PySem.W.Frag} {mg : Str → Option Value} {base : Heap} {f : Addr} {fd : FuncData}
theorem scWord : FnScope ["text"] ["text"] (defScope sWord) := ⟨rfl, rfl, rfl, by decide +kernel, rfl, by decide +kernel, by decide +kernel⟩
theorem ok_word {k : Nat} (F : Fun K "is_word" "is_word" sWord f fd) (G : Blt mg) (hw : WS mg) : FnOk P w K mg base CX0 (k + 1) f fd ["text"] spWord := by
  refine F.ok scWord (fun vs H Q E h => ?_) (fun cdv A outer s H vs Q E hr h => ?_)
  · obtain ⟨x, rfl, _⟩ := h
    rfl
  obtain ⟨x, rfl, hx, q⟩ := h
  obtain ⟨tw, ws⟩ := hw
  refine ⟨_, pss_one (ps_ret (pe_and (pe_cmpR op_ne (pv 0) pe_str (nomark _)) (pe_one (pe_callB (call_all rfl) rfl G.all boot_all
    (pa_cons (pe_comp rfl (by decide +kernel) (by decide +kernel) rfl (by decide +kernel) (by decide +kernel) (pi_str (pv 0))
      (fun C s' H' fp => pe_cmpR op_in_str (pv 0) (pe_glob rfl ws (v := .str "abcdefghijklmnopqrstuvwxyz0123456789") ⟨_, rfl⟩) rfl)) pa_nil))))), ?_⟩
  refine ⟨_, rfl, rfl, _, rfl, ?_⟩
  refine ite2 (fun c => ?_) (fun c => ?_)
  · refine ⟨_, rfl, x, rfl, ?_⟩
    refine fun D hD => comp_str (z := x) (te := tOp (fun x y H Q => ∃ i j, x = .str i ∧ y = .str j ∧ Q (.bl (!(Builtin.Str.occurrences j i 0 j.length 1).isEmpty)) H) (tVar 0) (tC (.str "abcdefghijklmnopqrstuvwxyz0123456789"))) (f := fun c => .bl (sIn c "abcdefghijklmnopqrstuvwxyz0123456789")) D hD (bigl _ (by omega)) (fun y H1 R hy hR => ?_) (fun H1 sm hl => ?_)
    · exact ⟨_, rfl, _, _, rfl, rfl, hR H1 (Same.refl _)⟩
    · refine ⟨D, (signs x).map (fun c => sIn c "abcdefghijklmnopqrstuvwxyz0123456789"), rfl, SqL.of (by rw [hl, List.map_map]; rfl), ?_⟩
      have e : isWord x = ((signs x).map fun c => sIn c "abcdefghijklmnopqrstuvwxyz0123456789").all id := by unfold isWord; rw [c, Bool.true_and]
      have : Q (.bl (isWord x)) H1 := q H1 sm
      rw [e] at this
      exact this
  · have e : isWord x = false := by unfold isWord; rw [Bool.eq_false_iff.mpr c, Bool.false_and]
    have : Q (.bl (isWord x)) H := q H (Same.refl H)
    rw [e] at this
    exact this
end
end LW
namespace LW
open PySem L2 Mi Co
section
variable {P : Program} {w : World} {K : PySem.W.Frag} {mg : Str → Option Value} {base : Heap} {f : Addr} {fd : FuncData}
theorem scName : FnScope ["thing"] ["thing"] (defScope sName) := ⟨rfl, rfl, rfl, by decide +kernel, rfl, by decide +kernel, by decide +kernel⟩
theorem ok_name {k : Nat} (F : Fun K "is_name" "is_name" sName f fd) (G : Blt mg) (hln : IsInt mg "LONGEST_NAME" 12) (hW : Has P w K mg base "is_word" k ["text"] spWord) : FnOk P w K mg base CX0 (k + 1) f fd ["thing"] (spNameV K) := by
  refine F.ok scName (fun vs H Q E h => ?_) (fun cdv A outer s H vs Q E hr h => ?_)
  · obtain ⟨x, rfl, _⟩ := h
    rfl
  obtain ⟨v, rfl, th, q⟩ := h
  obtain ⟨tl, ln⟩ := hln
  refine ⟨_, pss_cons (ps_if (PW.pt (pw_or (pt_not (pt_val (pe_callB call_isS rfl G.isi boot_isinstance (pa_cons (pv 0) (pa_cons (pe_bltn rfl G.str boot_str (v := .ty "str") rfl) pa_nil)))))
      (pw_or1 (pt_cmpR op_gt (pe_callB call_len_str rfl G.len PySem.boot_len (pa_cons (pv 0) pa_nil)) (pe_glob rfl ln (v := .int 12) ⟨_, rfl⟩) (nomark _)))))
      (pss_one (ps_ret pe_bl)) pss_nil)
    (pss_one (ps_ret (pe_callB (call_all rfl) rfl G.all boot_all (pa_cons (pe_comp rfl (by decide +kernel) (by decide +kernel) rfl (by decide +kernel) (by decide +kernel)
      (pi_list (pe_bm PySem.F.plainAttrs_str PySem.F.slot_str_split PySem.F.type_str_split mt_split1 (pv 0) (pa_cons pe_str pa_nil)))
      (fun C s' H' fp => pe_callH hW hr rfl (pa_cons (pv 0) pa_nil))) pa_nil)))), ?_⟩
  refine ⟨_, rfl, v, rfl, th, _, rfl, ?_⟩
  have no : isS v = false → nmV v = false := fun e => by cases v <;> first | rfl | cases e
  cases hs : isS v with
  | false =>
    have := q H (Same.refl H)
    rw [no hs] at this
    exact iteT this
  | true =>
    obtain ⟨x, rfl⟩ : ∃ x, v = .str x := by cases v <;> first | exact ⟨_, rfl⟩ | cases hs
    have hx : x.length ≤ 1000 := by
      rcases th with ⟨y, e, h⟩ | h | ⟨i, h⟩ | ⟨b, h⟩ | ⟨a, xs, h, _⟩ | ⟨a, xs, h, _⟩
      · cases e; exact h
      all_goals cases h
    refine iteF ⟨_, rfl, x, rfl, big _ (by omega), _, _, rfl, rfl, _, rfl, ?_⟩
    refine ite2 (fun c => ?_) (fun c => ?_)
    · have e : isName x = false := by unfold isName; rw [if_pos c]
      have : Q (.bl (isName x)) H := q H (Same.refl H)
      rw [e] at this
      exact this
    · refine ⟨_, rfl, rfl, x, _, rfl, rfl, rfl, by omega, fun D hD => ?_⟩
      refine ⟨D, rfl, ⟨_, SqL.of upd_same⟩, ?_⟩
      have sl := split_len x "-"
      refine fun D2 hD2 => comp_list (te := tCall spWord [] E0 (tCons (tVar 0) tNil)) (f := fun v => match v with | .str y => .bl (isWord y) | _ => .non) D2 hD2 (SqL.of upd_same) (bigl _ (by rw [List.length_map]; omega)) (fun v H1 R hv hR => ?_) (fun H1 sm hl => ?_)
      · obtain ⟨y, hy, rfl⟩ := List.mem_map.mp hv
        exact ⟨_, rfl, y, rfl, Nat.le_trans (split_part x _ y hy) (by omega), fun H2 sm => hR H2 sm⟩
      · refine ⟨D2, (Txt.split x "-").map isWord, rfl, SqL.of (by rw [hl, List.map_map, List.map_map]; rfl), ?_⟩
        have e : isName x = ((Txt.split x "-").map isWord).all id := by unfold isName; rw [if_neg c]
        have : Q (.bl (isName x)) H1 := q H1 ((Same.new hD _).trans sm)
        rw [e] at this
        exact this
end
end LW
namespace LW
open PySem L2 Mi Co
section
variable {P : Program} {w : World} {K : PySem.W.Frag} {mg : Str → Option Value} {base : Heap} {f : Addr} {fd : FuncData}
theorem scAddr : FnScope ["thing"] ["thing"] (defScope sAddr) := ⟨rfl, rfl, rfl, by decide +kernel, rfl, by decide +kernel, by decide +kernel⟩
theorem ok_addr {k : Nat} (F : Fun K "is_address" "is_address" sAddr f fd) (G : Blt mg) (hmn : IsInt mg "MOST_NAMES" 4) (hN : Has P w K mg base "is_name" k ["thing"] (spNameV K)) : FnOk P w K mg base CX0 (k + 1) f fd ["thing"] (spAddr K) := by
  refine F.ok scAddr (fun vs H Q E h => ?_) (fun cdv A outer s H vs Q E hr h => ?_)
  · obtain ⟨x, rfl, _⟩ := h
    rfl
  obtain ⟨v, rfl, h⟩ := h
  obtain ⟨tl, mn⟩ := hmn
  refine ⟨_, pss_cons (ps_if (PW.pt (pw_or (pt_not (pt_val (pe_callB call_isT rfl G.isi boot_isinstance (pa_cons (pv 0) (pa_cons (pe_bltn rfl G.tuple boot_tuple (v := .ty "tuple") rfl) pa_nil)))))
      (pw_or1 (pt_not (pt_chain op_le op_le pe_int (pe_callB call_len_seq rfl G.len PySem.boot_len (pa_cons (pv 0) pa_nil)) (pe_glob rfl mn (v := .int 4) ⟨_, rfl⟩))))))
      (pss_one (ps_ret pe_bl)) pss_nil)
    (pss_one (ps_ret (pe_callB (call_all rfl) rfl G.all boot_all (pa_cons (pe_compF (xs := ["part"]) (ys := []) (js := []) rfl (by decide +kernel) (by decide +kernel) rfl (by decide +kernel) trivial
      (pi_tup (pv 0)) (fun _ _ _ _ _ => pg_name (i := 0) (show (["part"] : List Str).Nodup by decide +kernel) rfl (Or.inl rfl) (.inr rfl)) (fun _ _ _ _ _ => pts_nil)
      (fun cl C s' H' fp => pe_callH hN hr rfl (pa_cons (pv 0) pa_nil))) pa_nil)))), ?_⟩
  rcases h with ⟨a, xs, rfl, hq, hl, hth, q⟩ | ⟨no, q⟩
  · refine ⟨_, rfl, _, rfl, .inl ⟨a, xs, rfl, hq, _, rfl, ?_⟩⟩
    refine iteF ⟨_, rfl, a, xs, rfl, .inr hq, _, _, rfl, rfl, _, rfl, ?_⟩
    refine ite2 (fun c1 => ?_) (fun c1 => ?_)
    · have c1' : (1 : Int) ≤ (xs.length : Int) := of_decide_eq_true c1
      refine ⟨_, _, rfl, rfl, _, rfl, ?_⟩
      show if (!decide ((xs.length : Int) ≤ 4)) = true then _ else _
      by_cases c2 : xs.length ≤ 4
      · rw [decide_eq_true (show (xs.length : Int) ≤ 4 by omega)]
        refine iteF ⟨_, rfl, a, rfl, ⟨_, hq⟩, ?_⟩
        refine fun D hD => compF_all (xs := xs) (tt := tTrue) (te := tCall (spNameV K) [] E0 (tCons (tVar 0) tNil)) (fr := []) (f := fun v => .bl (nmV v)) (p := fun _ => true) D hD (tells_tup hq) (bigl _ (by omega)) ?_ ?_ ?_
        · intro y H1 R hy _ hR
          exact hR H1 (Same.refl H1)
        · intro y H1 R hy _ s1 hR
          exact ⟨_, rfl, y, rfl, (hth y hy).same s1, fun H2 s2 => hR H2 s2⟩
        · intro H1 s1 hl1
          refine ⟨D, xs.map nmV, rfl, SqL.of (by rw [hl1, List.filter_eq_self.mpr (fun _ _ => rfl), List.map_map]; rfl), ?_⟩
          have : Q (.bl (adL xs)) H1 := q H1 s1
          unfold adL at this
          rw [decide_eq_true (show 1 ≤ xs.length by omega), decide_eq_true c2] at this
          exact this
      · rw [decide_eq_false (show ¬ (xs.length : Int) ≤ 4 by omega)]
        refine iteT ?_
        have : Q (.bl (adL xs)) H := q H (Same.refl H)
        unfold adL at this
        rw [decide_eq_false c2] at this
        have q2 : Q (.bl false) H := by simpa using this
        exact q2
    · have c1' : ¬ (1 : Int) ≤ (xs.length : Int) := fun z => c1 (decide_eq_true z)
      refine ⟨_, rfl, iteT ?_⟩
      have : Q (.bl (adL xs)) H := q H (Same.refl H)
      unfold adL at this
      rw [decide_eq_false (show ¬ 1 ≤ xs.length by omega)] at this
      have q2 : Q (.bl false) H := by simpa using this
      exact q2
  · exact ⟨_, rfl, _, rfl, .inr ⟨no, _, rfl, iteT (q H (Same.refl H))⟩⟩
end
end LW
namespace LW
open PySem L2 Mi Co
abbrev VE : List Value := [.type "ValueError", .type "Exception", .type "BaseException", .type "object"]
def spRead (K : PySem.W.Frag) (C : Addr) : Sp := fun vs H Q E => ∃ x : Str, vs = [.str x] ∧ x.length ≤ 990 ∧ (∀ c ∈ x.cps.toList, c < 16 ^ 8) ∧
  (adL ((Txt.split x "/").map V.str) = true → ∀ p H', Same H H' → H' p = some (.tup ((Txt.split x "/").map V.str)) → Q (.ref p) H') ∧
  (adL ((Txt.split x "/").map V.str) = false → ∀ H', Same H H' → E (.ref C) none H')
theorem split_thg {K : PySem.W.Frag} {H : Hp} {x y : Str} (h : x.length ≤ 1000) : ∀ v ∈ (Txt.split x y).map V.str, Thg0 K H v := fun v hv => by
  obtain ⟨t, ht, rfl⟩ := List.mem_map.mp hv
  exact .inl ⟨t, rfl, Nat.le_trans (split_part x y t ht) h⟩
section
variable {P : Program} {w : World} {K : PySem.W.Frag} {mg : Str → Option Value} {base : Heap} {f : Addr} {fd : FuncData}
theorem scRead : FnScope ["text", "address"] ["text"] (defScope sRead) := ⟨rfl, rfl, rfl, by decide +kernel, rfl, by decide +kernel, by decide +kernel⟩
theorem ok_read {k : Nat} {C : Addr} (F : Fun K "read_address" "read_address" sRead f fd) (G : Blt mg) (O : PyProof.Rows.OwnCls "NoText" C VE "ValueError.__new__" mg base) (hA : Has P w K mg base "is_address" k ["thing"] (spAddr K)) :
    FnOk P w K mg base (CXE P w) (k + 1) f fd ["text"] (spRead K C) := by
  refine F.okE scRead (fun vs H Q E h => ?_) (fun cdv A outer s H vs Q E hr h => ?_)
  · obtain ⟨x, rfl, _⟩ := h
    rfl
  obtain ⟨x, rfl, hx, hc, qy, qn⟩ := h
  refine ⟨_, pss_cons (ps_set (i := 1) scRead.nd rfl (Or.inl rfl) (pe_callTy call_tuple_of rfl G.tuple boot_tuple (pa_cons (pe_bm PySem.F.plainAttrs_str PySem.F.slot_str_split PySem.F.type_str_split mt_split1 (pv 0) (pa_cons pe_str pa_nil)) pa_nil)))
    (pss_cons (ps_if (pt_not (pt_val (pe_callH hA hr rfl (pa_cons (pv 1) pa_nil))))
      (pss_one (ps_raise (E := E) rfl raises_cx O PySem.F.excBase_ValueError rfl PySem.F.excBase_ValueError rfl (pa_cons (pe_join2 pe_str (pe_fmtR (pv 0))) pa_nil))) pss_nil)
    (pss_one (ps_ret (pv 1)))), ?_⟩
  have sl := split_len x "/"
  refine ⟨_, rfl, rfl, x, _, rfl, rfl, rfl, by omega, fun D hD => ?_⟩
  refine ⟨D, _, rfl, .inl ⟨SqL.of upd_same, fun l nl => ?_⟩⟩
  have s0 := (Same.new hD (.lst ((Txt.split x "/").map V.str))).trans (Same.new nl (.tup ((Txt.split x "/").map V.str)))
  refine ⟨_, rfl, _, rfl, .inl ⟨l, _, rfl, SqT.of upd_same, by rw [List.length_map]; omega, split_thg (by omega), fun H1 s1 => ⟨_, rfl, ?_⟩⟩⟩
  cases h : adL ((Txt.split x "/").map V.str) with
  | true => exact iteF ⟨_, rfl, qy h l H1 (s0.trans s1) (s1 _ _ upd_same)⟩
  | false =>
    have hrep : (reprText x).length ≤ 10 * x.length + 2 := StrLaws.reprText_len x hc
    have l0 : (Str.empty ++ ("this is no address's text: " : Str)).length ≤ 100 := by decide +kernel
    refine iteT ⟨_, rfl, big _ (by omega), _, rfl, x, rfl, big _ (by omega), _, rfl, big _ (by rw [app_len]; omega), by simp, qn h H1 (s0.trans s1)⟩
end
end LW
namespace LW
open PySem L2 Mi Co
def spText (K : PySem.W.Frag) : Sp := fun vs H Q _ => ∃ (p : Addr) (ts : List Str), vs = [.ref p] ∧ SqT K H p (ts.map V.str) ∧ ts.length ≤ 100 ∧ (∀ t ∈ ts, t.length ≤ 100) ∧ ∀ H', Same H H' → Q (.str (Txt.join "/" ts)) H'
theorem sum_le (l : List Str) (b : Nat) (h : ∀ t ∈ l, t.length ≤ b) : (l.map (·.length)).sum ≤ l.length * b := by
  induction l with
  | nil => simp
  | cons t l ih =>
    have h1 := h t (List.mem_cons_self ..)
    have h2 := ih fun u hu => h u (List.mem_cons_of_mem _ hu)
    rw [List.map_cons, List.sum_cons, List.length_cons, Nat.succ_mul]
    omega
theorem join_room {ts : List Str} (h1 : ts.length ≤ 100) (h2 : ∀ t ∈ ts, t.length ≤ 100) : (ts.map (·.length)).sum + ts.length * ("/" : Str).length ≤ 16777216 := by
  have e : ("/" : Str).length = 1 := by decide +kernel
  have := sum_le ts 100 h2
  have : ts.length * 100 ≤ 100 * 100 := Nat.mul_le_mul_right _ h1
  rw [e]
  omega
section
variable {P : Program} {w : World} {K : PySem.W.Frag} {mg : Str → Option Value} {base : Heap} {f : Addr} {fd : FuncData}
theorem scText : FnScope ["address"] ["address"] (defScope sText) := ⟨rfl, rfl, rfl, by decide +kernel, rfl, by decide +kernel, by decide +kernel⟩
theorem ok_text {k : Nat} (F : Fun K "address_text" "address_text" sText f fd) : FnOk P w K mg base CX0 (k + 1) f fd ["address"] (spText K) := by
  refine F.ok scText (fun vs H Q E h => ?_) (fun cdv A outer s H vs Q E hr h => ?_)
  · obtain ⟨p, ts, rfl, _⟩ := h
    rfl
  obtain ⟨p, ts, rfl, hq, h1, h2, q⟩ := h
  refine ⟨_, pss_one (ps_ret (pe_bm PySem.F.plainAttrs_str PySem.F.slot_str_join PySem.F.type_str_join mt_joinT pe_str (pa_cons (pv 0) pa_nil))), ?_⟩
  exact ⟨rfl, _, rfl, _, p, ts, rfl, rfl, hq, join_room h1 h2, q H (Same.refl H)⟩
end
end LW
namespace LW
open PySem L2 Mi Co
section
variable {P : Program} {w : World} {K : PySem.W.Frag} {mg : Str → Option Value} {base : Heap} {f : Addr} {fd : FuncData}
theorem scRow : FnScope ["thing"] ["thing"] (defScope sRow) := ⟨rfl, rfl, rfl, by decide +kernel, rfl, by decide +kernel, by decide +kernel⟩
theorem ok_row {k : Nat} (F : Fun K "is_row" "is_row" sRow f fd) (G : Blt mg) (hAddr : Has P w K mg base "is_address" k ["thing"] (spAddr K)) : FnOk P w K mg base CX0 (k + 1) f fd ["thing"] (spRow K) := by
  refine F.ok scRow (fun vs H Q E h => ?_) (fun cdv A outer s H vs Q E hr h => ?_)
  · obtain ⟨v, t, rfl, _⟩ := h
    rfl
  obtain ⟨v, t, rfl, th, q⟩ := h
  refine ⟨_, (pss_one (ps_ret (pe_and (pe_callB call_isT rfl G.isi boot_isinstance (pa_cons (pv 0) (pa_cons (pe_bltn rfl G.tuple boot_tuple (v := .ty "tuple") rfl) pa_nil))) (pe_and (pe_cmpR op_eq (pe_callB call_len_seq rfl G.len PySem.boot_len (pa_cons (pv 0) pa_nil)) pe_int (nomark _)) (pe_and (pe_callH hAddr hr rfl (pa_cons (pe_ix ix_tup (pv 0) pe_int fun _ _ => rfl) pa_nil)) (pe_one (pe_callH hAddr hr rfl (pa_cons (pe_ix ix_tup (pv 0) pe_int fun _ _ => rfl) pa_nil)))))))), ?_⟩
  refine ⟨_, rfl, v, rfl, ?_⟩
  have no : (∀ ts, t ≠ .tup ts) → (∀ H', Same H H' → Q (.bl false) H') := fun hn H' s' => by
    have := q H' s'
    cases t with
    | oth => exact this
    | txt x => exact this
    | tup ts => exact absurd rfl (hn ts)
  cases t with
  | oth => exact .inr ⟨IsTh.noT (K := K) (t := .oth) th (fun _ e => nomatch e), _, rfl, iteF (no (fun _ e => nomatch e) H (Same.refl H))⟩
  | txt x => exact .inr ⟨IsTh.noT (K := K) (t := .txt x) th (fun _ e => nomatch e), _, rfl, iteF (no (fun _ e => nomatch e) H (Same.refl H))⟩
  | tup ts =>
    obtain ⟨a, xs, rfl, hq, hl, hx⟩ := th
    refine .inl ⟨a, xs, rfl, hq, _, rfl, iteT ⟨_, rfl, a, xs, rfl, .inr hq, rfl, _, rfl, ?_⟩⟩
    by_cases h2 : xs.length = 2
    · obtain ⟨x, y, rfl⟩ : ∃ x y, xs = [x, y] := by
        cases xs with
        | nil => simp at h2
        | cons x r => cases r with
          | nil => simp at h2
          | cons y r => cases r with
            | nil => exact ⟨x, y, rfl⟩
            | cons _ _ => simp at h2
      obtain ⟨t1, t2, rfl⟩ : ∃ t1 t2, ts = [t1, t2] := by
        have := hx.length
        cases ts with
        | nil => simp at this
        | cons x r => cases r with
          | nil => simp at this
          | cons y r => cases r with
            | nil => exact ⟨x, y, rfl⟩
            | cons _ _ => simp at this
      obtain ⟨_, _, e1, th1, _, _, e2, th2, _⟩ := hx
      cases e1
      cases e2
      refine iteY rfl ⟨_, rfl, a, [x, y], 0, x, rfl, rfl, hq, rfl, ?_⟩
      dsimp only [tNil, List.cons_append, List.nil_append, List.append_nil]
      refine addr_at th1 fun H1 s1 => ⟨_, rfl, ?_⟩
      have q' : ∀ H', Same H H' → Q (.bl (okT t1 && okT t2)) H' := q
      cases h1 : okT t1 with
      | false => exact iteF (by have := q' H1 s1; rw [h1, Bool.false_and] at this; exact this)
      | true =>
        refine iteT ⟨_, rfl, a, [x, y], 1, y, rfl, rfl, s1.tup hq, rfl, ?_⟩
        dsimp only [tNil, List.cons_append, List.nil_append, List.append_nil]
        refine addr_at (th2.same s1) fun H2 s2 => ?_
        have := q' H2 (s1.trans s2)
        rw [h1, Bool.true_and] at this
        exact this
    · refine iteN (fun e => h2 ?_) ?_
      · injection e with e; omega
      · have := q H (Same.refl H)
        have hr2 : rowT (.tup ts) = false := by
          have := hx.length
          cases ts with
          | nil => rfl
          | cons x r => cases r with
            | nil => rfl
            | cons y r => cases r with
              | nil => exact absurd (this.trans rfl) h2
              | cons _ _ => rfl
        rw [hr2] at this
        exact this
theorem scAre : FnScope ["thing"] ["thing"] (defScope sAre) := ⟨rfl, rfl, rfl, by decide +kernel, rfl, by decide +kernel, by decide +kernel⟩
theorem ndRb0 : (["row"] : List Str).Nodup := by decide +kernel
theorem ndRb1 : (["row"] : List Str).Nodup := by decide +kernel
theorem ok_are {k : Nat} (F : Fun K "are_rows" "are_rows" sAre f fd) (G : Blt mg) (hset : mg "set" = none) (hRow : Has P w K mg base "is_row" k ["thing"] (spRow K)) : FnOk P w K mg base CX0 (k + 1) f fd ["thing"] (spAre K) := by
  refine F.ok scAre (fun vs H Q E h => ?_) (fun cdv A outer s H vs Q E hr h => ?_)
  · obtain ⟨v, t, rfl, _⟩ := h
    rfl
  obtain ⟨v, t, rfl, th, h18, q⟩ := h
  refine ⟨_, (pss_cons (ps_if (PW.pt (pw_or (pt_not (pt_val (pe_callB call_isT rfl G.isi boot_isinstance (pa_cons (pv 0) (pa_cons (pe_bltn rfl G.tuple boot_tuple (v := .ty "tuple") rfl) pa_nil))))) (pw_or1 (pt_not (pt_val (pe_callB (call_all rfl) rfl G.all boot_all (pa_cons (pe_compF (te := (tCall (spRow K) [] E0 (tCons (tVar 0) tNil))) (xs := ["row"]) (ys := []) (js := []) rfl (by decide +kernel) (by decide +kernel) rfl (by decide +kernel) trivial
      (pi_tup (pv 0)) (fun _ _ _ _ _ => (pg_name (i := 0) ndRb0 rfl (Or.inl rfl) (.inr rfl))) (fun _ _ _ _ _ => pts_nil) (fun _ _ _ _ _ => (pe_callH hRow hr rfl (pa_cons (pv 0) pa_nil)))) pa_nil))))))) (pss_one (ps_ret pe_bl)) pss_nil)
    (pss_one (ps_ret (pe_cmpR op_eq (pe_lenSet rfl (hu8 hr) rfl G.len rfl hset (pe_compF (te := (tOp (rIxT K) (tVar 0) (tC (.int 0)))) (xs := ["row"]) (ys := []) (js := []) rfl (by decide +kernel) (by decide +kernel) rfl (by decide +kernel) trivial
      (pi_tup (pv 0)) (fun _ _ _ _ _ => (pg_name (i := 0) ndRb1 rfl (Or.inl rfl) (.inr rfl))) (fun _ _ _ _ _ => pts_nil) (fun _ _ _ _ _ => (pe_ix ix_tup (pv 0) pe_int fun _ _ => rfl)))) (pe_callB call_len_seq rfl G.len PySem.boot_len (pa_cons (pv 0) pa_nil)) (nomark _))))), ?_⟩
  refine ⟨_, rfl, v, rfl, ?_⟩
  have no : (∀ ts, t ≠ .tup ts) → (∀ H', Same H H' → Q (.bl false) H') := fun hn H' s' => by
    have := q H' s'
    cases t with
    | oth => exact this
    | txt x => exact this
    | tup ts => exact absurd rfl (hn ts)
  cases t with
  | oth => exact .inr ⟨IsTh.noT (K := K) (t := .oth) th (fun _ e => nomatch e), _, rfl, iteT (no (fun _ e => nomatch e) H (Same.refl H))⟩
  | txt x => exact .inr ⟨IsTh.noT (K := K) (t := .txt x) th (fun _ e => nomatch e), _, rfl, iteT (no (fun _ e => nomatch e) H (Same.refl H))⟩
  | tup ts =>
    obtain ⟨a, xs, rfl, hq, hl, hx⟩ := th
    obtain ⟨rs, rfl, rfl, hrs⟩ := hx.zip
    refine .inl ⟨a, _, rfl, hq, _, rfl, iteF ⟨_, rfl, a, rfl, ⟨_, hq⟩, fun D hD => ?_⟩⟩
    refine compF_gen (rs := rs) (fun r => r.1) (fun r => .bl (rowT r.2)) (fun _ => true) D hD (tells_tup hq) (bigl _ (by rw [List.length_map] at hl; omega)) ?_ ?_ ?_
    · intro r H1 R hr' _ hR
      exact hR H1 (Same.refl H1)
    · intro r H1 R hr' _ s1 hR
      exact ⟨_, rfl, r.1, r.2, rfl, (hrs r hr').same s1, fun H2 s2 => hR H2 s2⟩
    · intro H1 s1 hD1
      rw [List.filter_eq_self.mpr (fun _ _ => rfl)] at hD1
      refine ⟨D, rs.map fun r => rowT r.2, rfl, SqL.of (by rw [hD1, List.map_map]; rfl), ?_⟩
      have q' : ∀ H', Same H H' → Q (.bl ((((rs.map (·.2)).map rowT).all id) && decide (((rs.map (·.2)).map fun t => keyT (fstT t)).Nodup))) H' := q
      rw [List.map_map, List.map_map] at q'
      have e1 : (rs.map (rowT ∘ fun x => x.2)) = rs.map fun r => rowT r.2 := rfl
      rw [e1] at q'
      refine ⟨_, rfl, ?_⟩
      cases h1 : (rs.map fun r => rowT r.2).all id with
      | false => exact iteT (by have := q' H1 s1; rw [h1, Bool.false_and] at this; exact this)
      | true =>
        rw [h1] at q'
        have hrow : ∀ r ∈ rs, rowT r.2 = true := fun r hr' => by
          rw [List.all_eq_true] at h1
          exact h1 _ (List.mem_map.mpr ⟨r, hr', rfl⟩)
        have h18' := h18 _ rfl (fun x hx' => by obtain ⟨r, hr', rfl⟩ := List.mem_map.mp hx'; exact hrow r hr')
        rw [List.length_map] at h18'
        obtain ⟨qs, e2, e3, e4⟩ := rows_keys hrs hrow
        have lq : qs.length = rs.length := by have := congrArg List.length e2; rw [List.length_map, List.length_map] at this; exact this
        rw [← e2] at hq
        have hq1 := s1.tup hq
        refine iteF ⟨_, rfl, a, rfl, ⟨_, hq1⟩, fun D2 hD2 => ?_⟩
        refine compF_gen (rs := qs) (fun r => .ref r.1) (fun r => .ref r.2.2.1) (fun _ => true) D2 hD2 (tells_tup hq1) (bigl _ (by omega)) ?_ ?_ ?_
        · intro r H2 R hr' _ hR
          exact hR H2 (Same.refl H2)
        · intro r H2 R hr' _ s2 hR
          exact ⟨_, rfl, _, _, 0, _, rfl, rfl, (s1.trans s2).tup (e3 r hr').1, rfl, hR H2 (Same.refl H2)⟩
        · intro H2 s2 hD2'
          rw [List.filter_eq_self.mpr (fun _ _ => rfl)] at hD2'
          have s12 := s1.trans s2
          refine ⟨D2, qs.map fun q => (q.2.2.1, q.2.2.2), rfl, SqL.of (by rw [hD2', List.map_map]; rfl), by rw [List.length_map]; omega, fun r hr' => ?_, _, rfl, a, _, rfl, .inr (s12.tup hq), rfl, ?_⟩
          · obtain ⟨q0, hq0, rfl⟩ := List.mem_map.mp hr'
            exact s12.tup (e3 q0 hq0).2
          · have := q' H2 s12
            rw [Bool.true_and] at this
            have ue := unlike_iff (qs.map fun q => (q.2.2.1, q.2.2.2))
            rw [List.map_map] at ue
            have ue' : unlike (qs.map fun q => (q.2.2.1, q.2.2.2)) = qs.length ↔ (rs.map fun r => keyT (fstT r.2)).Nodup := by
              rw [← e4]
              rw [List.length_map] at ue
              exact ue
            have e5 : decide (V.int (unlike (qs.map fun q => (q.2.2.1, q.2.2.2)) : Nat) = V.int ((qs.map fun q => V.ref q.1).length : Nat)) = decide (List.map ((fun t => keyT (fstT t)) ∘ fun x => x.2) rs).Nodup := by
              rw [decide_eq_decide, List.length_map]
              constructor
              · intro e
                injection e with e
                exact ue'.mp (by omega)
              · intro e
                rw [ue'.mpr e]
            have q2 : Q (.bl (decide (V.int (unlike (qs.map fun q => (q.2.2.1, q.2.2.2)) : Nat) = V.int ((qs.map fun q => V.ref q.1).length : Nat)))) H2 := by rw [e5]; exact this
            exact q2
end
end LW
namespace LW
open PySem L2 Mi Co
def spLine : Sp := fun vs H Q _ => ∃ x : Rx, vs = [.ref x.1] ∧ RlH H x ∧ okA x.2.2.2.1 = true ∧ okA x.2.2.2.2 = true ∧ ∀ H', Same H H' → Q (.str (lnX x.2.2.2 ++ "\n")) H'
def spRText : Sp := fun vs H Q _ => ∃ (p : Addr) (R : List Rl), vs = [.ref p] ∧ RlsAt H p R ∧ GoodR R ∧ R.length ≤ 100 ∧ ∀ H', Same H H' → Q (.str (rwX R)) H'
def spRdRow (C : Addr) : Sp := fun vs H Q E => ∃ x : Str, vs = [.str x] ∧ x.length ≤ 990 ∧ (∀ c ∈ x.cps.toList, c < 16 ^ 8) ∧
  (∀ (y : Rx) (H' : Hp), rdR x = some y.2.2.2 → Same H H' → RlH H' y → Q (.ref y.1) H') ∧ (rdR x = none → ∀ H', Same H H' → E (.ref C) none H')
def spRdRows (C : Addr) : Sp := fun vs H Q E => ∃ x : Str, vs = [.str x] ∧ x.length ≤ 990 ∧ (∀ c ∈ x.cps.toList, c < 16 ^ 8) ∧ (Txt.split x "\n").length ≤ 19 ∧
  (∀ R p H', rdT x = some R → Same H H' → RlsAt H' p R → Q (.ref p) H') ∧ (rdT x = none → ∀ H', Same H H' → E (.ref C) none H')
theorem ndLn : (["line"] : List Str).Nodup := by decide +kernel
theorem okA_small {u : List Str} (h : okA u = true) : u.length ≤ 100 ∧ ∀ t ∈ u, t.length ≤ 100 := by
  obtain ⟨_, h2, h3⟩ := okA_iff.mp h
  exact ⟨by omega, fun t ht => by have := name_len (h3 t ht); omega⟩
theorem adL_okA (u : List Str) : adL (u.map V.str) = okA u := by
  unfold adL okA
  rw [List.length_map, List.map_map]
  rfl
theorem rdL_good : ∀ {ls : List Str} {R : List Rl}, rdL ls = some R → GoodR R
  | [], R, h => by
    obtain rfl := Option.some.inj (show some [] = some R from h)
    exact fun r hr => nomatch hr
  | x :: ls, R, h => by
    unfold rdL at h
    cases h1 : rdR x with
    | none => rw [h1] at h; cases h
    | some r =>
      cases h2 : rdL ls with
      | none => rw [h1, h2] at h; cases h
      | some R' =>
        rw [h1, h2] at h
        obtain rfl := Option.some.inj h
        intro y hy
        rcases List.mem_cons.mp hy with rfl | hy
        · exact rdR_ok h1
        · exact rdL_good h2 y hy
theorem rdL_len : ∀ {ls : List Str} {R : List Rl}, rdL ls = some R → R.length = ls.length
  | [], R, h => by
    obtain rfl := Option.some.inj (show some [] = some R from h)
    rfl
  | x :: ls, R, h => by
    unfold rdL at h
    cases h1 : rdR x with
    | none => rw [h1] at h; cases h
    | some r =>
      cases h2 : rdL ls with
      | none => rw [h1, h2] at h; cases h
      | some R' =>
        rw [h1, h2] at h
        obtain rfl := Option.some.inj h
        show (r :: R').length = _
        rw [List.length_cons, List.length_cons, rdL_len h2]
theorem rd_rows {H : Hp} : ∀ (ls : List Str) {ys : List V}, Paired (fun v u => ∃ (x' : Str) (y : Rx), v = .str x' ∧ rdR x' = some y.2.2.2 ∧ u = .ref y.1 ∧ RlH H y) (ls.map V.str) ys →
    ∃ rs : List Rx, ys = rrefs rs ∧ RlsIn H rs ∧ rdL ls = some (rs.map (·.2.2.2))
  | [], ys, h => by
    cases h
    exact ⟨[], rfl, (fun x hx => nomatch hx), rfl⟩
  | x :: ls, ys, h => by
    cases h with
    | cons a b =>
      obtain ⟨x', y, e1, e2, rfl, hy⟩ := a
      injection e1 with e1
      subst e1
      obtain ⟨rs, rfl, hin, e3⟩ := rd_rows ls b
      refine ⟨y :: rs, rfl, fun z hz => ?_, ?_⟩
      · rcases List.mem_cons.mp hz with rfl | hz
        · exact hy
        · exact hin z hz
      · unfold rdL
        rw [e2, e3]
        rfl
section
variable {P : Program} {w : World} {K : PySem.W.Frag} {mg : Str → Option Value} {base : Heap} {f : Addr} {fd : FuncData}
theorem scLine : FnScope ["row"] ["row"] (defScope sLine) := ⟨rfl, rfl, rfl, by decide +kernel, rfl, by decide +kernel, by decide +kernel⟩
theorem ok_line {k : Nat} (F : Fun K "row_line" "row_line" sLine f fd) (hText : Has P w K mg base "address_text" k ["address"] (spText K)) : FnOk P w K mg base CX0 (k + 1) f fd ["row"] spLine := by
  refine F.ok scLine (fun vs H Q E h => ?_) (fun cdv A outer s H vs Q E hr h => ?_)
  · obtain ⟨x, rfl, _⟩ := h
    rfl
  obtain ⟨⟨p, a, b, r⟩, rfl, ⟨hp, ha, hb⟩, h1, h2, q⟩ := h
  dsimp only at hp ha hb h1 h2 q
  refine ⟨_, (pss_one (ps_ret (pe_op op_add_str (pe_op op_add_str (pe_op op_add_str (pe_callH hText hr rfl (pa_cons (pe_ix ix_tup (pv 0) pe_int fun _ _ => rfl) pa_nil)) pe_str) (pe_callH hText hr rfl (pa_cons (pe_ix ix_tup (pv 0) pe_int fun _ _ => rfl) pa_nil))) pe_str))), ?_⟩
  have l1 := adX_len h1
  have l2 := adX_len h2
  refine ⟨_, rfl, p, [.ref a, .ref b], 0, .ref a, rfl, rfl, SqT.of hp, rfl, ?_⟩
  refine ⟨a, r.1, rfl, SqT.of ha, (okA_small h1).1, (okA_small h1).2, fun H1 s1 => ?_⟩
  refine ⟨_, _, rfl, rfl, big _ (by rw [len_blank]; show (adX r.1).length + 1 ≤ _; omega), ?_⟩
  refine ⟨_, rfl, p, [.ref a, .ref b], 1, .ref b, rfl, rfl, SqT.of (s1 _ _ hp), rfl, ?_⟩
  refine ⟨b, r.2, rfl, SqT.of (s1 _ _ hb), (okA_small h2).1, (okA_small h2).2, fun H2 s2 => ?_⟩
  refine ⟨_, _, rfl, rfl, big _ (by rw [app_length, len_blank]; show (adX r.1).length + 1 + (adX r.2).length ≤ _; omega), ?_⟩
  refine ⟨_, _, rfl, rfl, big _ (by rw [app_length, app_length, len_blank, len_feed]; show (adX r.1).length + 1 + (adX r.2).length + 1 ≤ _; omega), ?_⟩
  exact q H2 (s1.trans s2)
theorem scRText : FnScope ["rows"] ["rows"] (defScope sRText) := ⟨rfl, rfl, rfl, by decide +kernel, rfl, by decide +kernel, by decide +kernel⟩
theorem ndTb0 : (["row"] : List Str).Nodup := by decide +kernel
theorem ok_rtext {k : Nat} (F : Fun K "rows_text" "rows_text" sRText f fd) (hLine : Has P w K mg base "row_line" k ["row"] spLine) : FnOk P w K mg base CX0 (k + 1) f fd ["rows"] spRText := by
  refine F.ok scRText (fun vs H Q E h => ?_) (fun cdv A outer s H vs Q E hr h => ?_)
  · obtain ⟨p, R, rfl, _⟩ := h
    rfl
  obtain ⟨p, R, rfl, ⟨rs, hp, hin, rfl⟩, hg, hl, q⟩ := h
  refine ⟨_, (pss_one (ps_ret (pe_bm PySem.F.plainAttrs_str PySem.F.slot_str_join PySem.F.type_str_join mt_join pe_str (pa_cons (pe_compF (te := (tCall spLine [] E0 (tCons (tVar 0) tNil))) (xs := ["row"]) (ys := []) (js := []) rfl (by decide +kernel) (by decide +kernel) rfl (by decide +kernel) trivial
      (pi_tup (pv 0)) (fun _ _ _ _ _ => (pg_name (i := 0) ndTb0 rfl (Or.inl rfl) (.inr rfl))) (fun _ _ _ _ _ => pts_nil) (fun _ _ _ _ _ => (pe_callH hLine hr rfl (pa_cons (pv 0) pa_nil)))) pa_nil)))), ?_⟩
  rw [List.length_map] at hl
  refine ⟨rfl, _, rfl, p, rfl, ⟨_, SqT.of hp⟩, fun D hD => ?_⟩
  refine compF_gen (rs := rs) (fun x => .ref x.1) (fun x => .str (lnX x.2.2.2 ++ "\n")) (fun _ => true) D hD (tells_tup (SqT.of hp)) (bigl _ (by omega)) ?_ ?_ ?_
  · intro r H1 R hr' _ hR
    exact hR H1 (Same.refl H1)
  · intro x H1 R hx _ s1 hR
    have hgx := hg x.2.2.2 (List.mem_map.mpr ⟨x, hx, rfl⟩)
    exact ⟨_, rfl, x, rfl, (hin x hx).ts s1.ts, hgx.1, hgx.2, fun H2 s2 => hR H2 s2⟩
  · intro H1 s1 hD1
    rw [List.filter_eq_self.mpr (fun _ _ => rfl)] at hD1
    refine ⟨_, D, (rs.map (·.2.2.2)).map (fun r => lnX r ++ ("\n" : Str)), rfl, rfl, SqL.of (by rw [hD1, List.map_map, List.map_map]; rfl), ?_, q H1 s1⟩
    have e0 : (("" : Str).length) = 0 := rfl
    have := sum_le _ 106 (lns_len hg)
    rw [e0, Nat.mul_zero]
    rw [List.length_map, List.length_map] at this
    omega
theorem scRdRow : FnScope ["line", "parts"] ["line"] (defScope sRdRow) := ⟨rfl, rfl, rfl, by decide +kernel, rfl, by decide +kernel, by decide +kernel⟩
theorem ok_rdrow {k : Nat} {C : Addr} (F : Fun K "read_row" "read_row" sRdRow f fd) (G : Blt mg) (O : PyProof.Rows.OwnCls "NoText" C VE "ValueError.__new__" mg base) (hRead : HasE P w K mg base "read_address" k ["text"] (spRead K C)) :
    FnOk P w K mg base (CXE P w) (k + 1) f fd ["line"] (spRdRow C) := by
  refine F.okE scRdRow (fun vs H Q E h => ?_) (fun cdv A outer s H vs Q E hr h => ?_)
  · obtain ⟨x, rfl, _⟩ := h
    rfl
  obtain ⟨x, rfl, hx, hc, qy, qn⟩ := h
  refine ⟨_, (pss_cons (ps_set (i := 1) scRdRow.nd rfl (Or.inl rfl) (pe_bm PySem.F.plainAttrs_str PySem.F.slot_str_split PySem.F.type_str_split mt_split1 (pv 0) (pa_cons pe_str pa_nil)))
    (pss_cons (ps_if (pt_cmpR op_ne (pe_callB call_len_seq rfl G.len PySem.boot_len (pa_cons (pv 1) pa_nil)) pe_int (nomark _)) (pss_one (ps_raise (E := E) rfl raises_cx O PySem.F.excBase_ValueError rfl PySem.F.excBase_ValueError rfl (pa_cons (pe_join2 pe_str (pe_fmtR (pv 0))) pa_nil))) pss_nil)
    (pss_one (ps_ret (pe_tup (pa_cons (pe_callX hRead hr (pass_cx fun _ _ _ h => h) rfl (pa_cons (pe_ix ix_list (pv 1) pe_int fun _ _ => rfl) pa_nil)) (pa_cons (pe_callX hRead hr (pass_cx fun _ _ _ h => h) rfl (pa_cons (pe_ix ix_list (pv 1) pe_int fun _ _ => rfl) pa_nil)) pa_nil))))))), ?_⟩
  have sl := split_len x " "
  refine ⟨_, rfl, rfl, x, _, rfl, rfl, rfl, by omega, fun D hD => ?_⟩
  have s0 := Same.new hD (.lst ((Txt.split x " ").map V.str))
  have hD0 : (upd H D (.lst ((Txt.split x " ").map V.str)) : Hp) D = some (.lst ((Txt.split x " ").map V.str)) := upd_same
  generalize (upd H D (.lst ((Txt.split x " ").map V.str)) : Hp) = H0 at *
  refine ⟨_, rfl, D, _, rfl, .inl (SqL.of hD0), rfl, _, rfl, ?_⟩
  by_cases h2 : (Txt.split x " ").length = 2
  · obtain ⟨a, b, e⟩ : ∃ a b, Txt.split x " " = [a, b] := by
      cases hh : Txt.split x " " with
      | nil => rw [hh] at h2; simp at h2
      | cons a r => cases r with
        | nil => rw [hh] at h2; simp at h2
        | cons b r => cases r with
          | nil => exact ⟨a, b, rfl⟩
          | cons _ _ => rw [hh] at h2; simp at h2
    have ha : a ∈ Txt.split x " " := by rw [e]; exact List.mem_cons_self ..
    have hb : b ∈ Txt.split x " " := by rw [e]; exact List.mem_cons_of_mem _ (List.mem_cons_self ..)
    have la := split_part x " " a ha
    have lb := split_part x " " b hb
    rw [e] at hD0
    have rd := rdR_two e
    refine ifN (by rw [List.length_map, h2]; rfl) ⟨_, rfl, D, _, 0, .str a, rfl, rfl, SqL.of hD0, rfl, ?_⟩
    refine ⟨a, rfl, by omega, fun c hc' => hc c (split_signs ha hc'), fun h1 p1 H1 s1 hp1 => ?_, fun h1 H1 s1 => ?_⟩
    · refine ⟨_, rfl, D, _, 1, .str b, rfl, rfl, SqL.of (s1 _ _ hD0), rfl, ?_⟩
      rw [adL_okA] at h1
      have ra : rdA a = some (Txt.split a "/") := by unfold rdA; rw [if_pos h1]
      refine ⟨b, rfl, by omega, fun c hc' => hc c (split_signs hb hc'), fun h3 p2 H2 s2 hp2 => ?_, fun h3 H2 s2 => ?_⟩
      · rw [adL_okA] at h3
        have rb : rdA b = some (Txt.split b "/") := by unfold rdA; rw [if_pos h3]
        refine ⟨big _ (show 2 ≤ 100000 by decide), fun p np => ?_⟩
        have sp := Same.new np (.tup [.ref p1, .ref p2])
        exact qy (p, p1, p2, (Txt.split a "/", Txt.split b "/")) _ (by rw [rd, ra, rb]; rfl) (((s0.trans s1).trans s2).trans sp) ⟨upd_same, sp _ _ (s2 _ _ hp1), sp _ _ hp2⟩
      · rw [adL_okA] at h3
        have rb : rdA b = none := by unfold rdA; rw [if_neg (by rw [h3]; decide)]
        exact qn (by rw [rd, ra, rb]; rfl) H2 ((s0.trans s1).trans s2)
    · rw [adL_okA] at h1
      have ra : rdA a = none := by unfold rdA; rw [if_neg (by rw [h1]; decide)]
      exact qn (by rw [rd, ra]; rfl) H1 (s0.trans s1)
  · have hrep : (reprText x).length ≤ 10 * x.length + 2 := StrLaws.reprText_len x hc
    have l0 : (Str.empty ++ ("this line is not of two addresses: " : Str)).length ≤ 100 := by decide +kernel
    refine ifY (fun e => h2 ?_) ⟨_, rfl, big _ (by omega), _, rfl, x, rfl, big _ (by omega), _, rfl, big _ (by rw [app_len]; omega), by simp, qn (rdR_not2 h2) H0 s0⟩
    injection e with e
    rw [List.length_map] at e
    omega
theorem scRdRows : FnScope ["text", "lines", "rows"] ["text"] (defScope sRdRows) := ⟨rfl, rfl, rfl, by decide +kernel, rfl, by decide +kernel, by decide +kernel⟩
theorem ok_rdrows {k : Nat} {C : Addr} (F : Fun K "read_rows" "read_rows" sRdRows f fd) (G : Blt mg) (O : PyProof.Rows.OwnCls "NoText" C VE "ValueError.__new__" mg base) (hRdRow : HasE P w K mg base "read_row" k ["line"] (spRdRow C)) (hAre : Has P w K mg base "are_rows" k ["thing"] (spAre K)) :
    FnOk P w K mg base (CXE P w) (k + 1) f fd ["text"] (spRdRows C) := by
  refine F.okE scRdRows (fun vs H Q E h => ?_) (fun cdv A outer s H vs Q E hr h => ?_)
  · obtain ⟨x, rfl, _⟩ := h
    rfl
  obtain ⟨x, rfl, hx, hc, h19, qy, qn⟩ := h
  refine ⟨_, (pss_cons (ps_set (i := 1) scRdRows.nd rfl (Or.inl rfl) (pe_bm PySem.F.plainAttrs_str PySem.F.slot_str_split PySem.F.type_str_split mt_split1 (pv 0) (pa_cons pe_str pa_nil)))
    (pss_cons (ps_if (pt_cmpR op_ne (pe_ix ix_list (pv 1) (pe_un un_neg pe_int) fun _ _ => rfl) pe_str (nomark _)) (pss_one (ps_raise (E := E) rfl raises_cx O PySem.F.excBase_ValueError rfl PySem.F.excBase_ValueError rfl (pa_cons pe_str pa_nil))) pss_nil)
    (pss_cons (ps_set (i := 2) scRdRows.nd rfl (Or.inl rfl) (pe_callTy call_tuple_of rfl G.tuple boot_tuple (pa_cons (pe_compX (E := E) (te := (tCall (spRdRow C) [] E (tCons (tVar 0) tNil))) (xs := ["line"]) (ys := []) (js := []) rfl rfl rfl leaves_cx (by decide +kernel) (by decide +kernel) rfl (by decide +kernel) trivial (pi_list (pe_slice sl_list (pv 1) po_none (po_some (pe_un un_neg pe_int)))) (fun _ _ _ _ _ => (pg_name (i := 0) ndLn rfl (Or.inl rfl) (.inr rfl))) (fun _ _ _ _ _ => pts_nil) (fun _ _ _ _ _ _ hp => (pe_callX hRdRow hr hp rfl (pa_cons (pv 0) pa_nil)))) pa_nil)))
    (pss_cons (ps_if (pt_not (pt_val (pe_callH hAre hr rfl (pa_cons (pv 2) pa_nil)))) (pss_one (ps_raise (E := E) rfl raises_cx O PySem.F.excBase_ValueError rfl PySem.F.excBase_ValueError rfl (pa_cons pe_str pa_nil))) pss_nil)
    (pss_one (ps_ret (pv 2))))))), ?_⟩
  have ne := split_ne x "\n"
  obtain ⟨ls, l, e⟩ : ∃ ls l, Txt.split x "\n" = ls ++ [l] := ⟨_, _, (List.dropLast_concat_getLast ne).symm⟩
  refine ⟨_, rfl, rfl, x, _, rfl, rfl, rfl, by omega, fun D hD => ?_⟩
  have s0 := Same.new hD (.lst ((Txt.split x "\n").map V.str))
  have hD0 : (upd H D (.lst ((Txt.split x "\n").map V.str)) : Hp) D = some (.lst ((Txt.split x "\n").map V.str)) := upd_same
  generalize (upd H D (.lst ((Txt.split x "\n").map V.str)) : Hp) = H0 at *
  have hD1 : H0 D = some (.lst (ls.map V.str ++ [.str l])) := by rw [hD0, e, List.map_append]; rfl
  refine ⟨_, rfl, 1, rfl, D, _, -1, .str l, rfl, rfl, SqL.of hD1, at_last _ _, rfl, _, rfl, ?_⟩
  have hlast : (Txt.split x "\n").getLast? = some l := by rw [e]; simp
  by_cases hl : l = ""
  · subst hl
    refine ifN rfl ⟨_, rfl, 1, rfl, -1, rfl, D, _, rfl, SqL.of hD1, fun p np => ?_⟩
    have s1 := Same.new np (.lst (cutV (ls.map V.str ++ [.str ""]) none (some (-1))))
    have hp1 : (upd H0 p (.lst (cutV (ls.map V.str ++ [.str ""]) none (some (-1)))) : Hp) p = some (.lst (ls.map V.str)) := by rw [upd_same, cut_last]
    generalize (upd H0 p (.lst (cutV (ls.map V.str ++ [.str ""]) none (some (-1)))) : Hp) = H1 at *
    have hdl : (Txt.split x "\n").dropLast = ls := by rw [e, List.dropLast_concat]
    have hll : ls.length ≤ 18 := by rw [e, List.length_append, List.length_singleton] at h19; omega
    refine ⟨p, rfl, ⟨_, SqL.of hp1⟩, fun D2 hD2 => ?_⟩
    refine compF_rel (xs := ls.map V.str) (fun v u H' => ∃ (x' : Str) (y : Rx), v = .str x' ∧ rdR x' = some y.2.2.2 ∧ u = .ref y.1 ∧ RlH H' y) (fun v u H2 H3 t3 ⟨x', y, a1, a2, a3, a4⟩ => ⟨x', y, a1, a2, a3, a4.ts t3⟩) D2 hD2 (tells_list (SqL.of hp1)) (bigl _ (by rw [List.length_map]; omega)) ?_ ?_
    · intro v H2 R hv s2 hR
      obtain ⟨x', hx', rfl⟩ := List.mem_map.mp hv
      have hm : x' ∈ Txt.split x "\n" := by rw [e]; exact List.mem_append_left _ hx'
      have hx1 := split_part x "\n" x' hm
      exact ⟨_, rfl, x', rfl, by omega, fun c hc' => hc c (split_signs hm hc'), fun y H' e' s' hy => hR (.ref y.1) H' s' ⟨x', y, rfl, e', rfl, hy⟩, fun e' H' s' => qn (by unfold rdT; rw [if_pos hlast, hdl, rdL_none hx' e']; rfl) H' (((s0.trans s1).trans s2).trans s')⟩
    · intro H2 ys s2 hD2' hpr
      obtain ⟨rs, rfl, hin, hrd⟩ := rd_rows ls hpr
      have hg : GoodR (rs.map (·.2.2.2)) := rdL_good hrd
      have hlr : rs.length ≤ 18 := by
        have := rdL_len hrd
        rw [List.length_map] at this
        omega
      refine ⟨D2, _, rfl, .inl ⟨SqL.of hD2', fun q nq => ?_⟩⟩
      have sq := Same.new nq (.tup (rrefs rs))
      have hq : (upd H2 q (.tup (rrefs rs)) : Hp) q = some (.tup (rrefs rs)) := upd_same
      generalize (upd H2 q (.tup (rrefs rs)) : Hp) = H3 at *
      have hin3 := hin.ts sq.ts
      have s03 := ((s0.trans s1).trans s2).trans sq
      refine ⟨_, rfl, .ref q, _, rfl, isTh_rls (SqT.of hq) hin3 hg (by omega), (fun ts e' _ => by injection e' with e'; rw [← e', List.length_map, List.length_map]; exact hlr), fun H4 s4 => ⟨_, rfl, ?_⟩⟩
      rw [areT_rls hg]
      have hrt := rdT_some (x := x) (by rw [hdl]; exact hrd) hlast
      by_cases nd : ((rs.map (·.2.2.2)).map (·.1)).Nodup
      · refine ifN nd ⟨_, rfl, qy _ q H4 (by rw [hrt, if_pos nd]) (s03.trans s4) ⟨rs, s4 _ _ hq, hin3.ts s4.ts, rfl⟩⟩
      · refine ifY nd ⟨by simp, qn (by rw [hrt, if_neg nd]) H4 (s03.trans s4)⟩
  · refine ifY (fun e => hl (by injection e)) ⟨by simp, qn ?_ H0 s0⟩
    unfold rdT
    rw [if_neg (by rw [hlast]; intro z; exact hl (Option.some.inj z))]
end
end LW
namespace LW
open PySem L2 Mi Co
section
variable {P : Program} {w : World} {K : PySem.W.Frag} {mg : Str → Option Value} {base : Heap} {f : Addr} {fd : FuncData}
theorem scSame : FnScope ["_law_told_here", "_law_due"] ["_law_told_here", "_law_due"] (defScope sSame) := ⟨rfl, rfl, rfl, by decide +kernel, rfl, by decide +kernel, by decide +kernel⟩
theorem ok_same (F : Fun K "_law_same" "_law_same" sSame f fd) (G : Blt mg) (hb : Binds K fd ["_law_told_here", "_law_due"] []) (hk : PySem.W.keepIn K (.ref f) = true) (hm : mg "_law_same" = some (.ref f)) : ∀ n : Nat, FnOk P w K mg base CX0 n f fd ["_law_told_here", "_law_due"] (spSame K n)
  | 0 => ⟨fun _ _ _ _ h => h.elim, fun _ _ _ _ _ _ _ _ _ _ _ _ _ h => h.elim⟩
  | n + 1 => by
    have hS : Has P w K mg base "_law_same" n ["_law_told_here", "_law_due"] (spSame K n) := ⟨f, fd, ok_same F G hb hk hm n, hb, hk, hm⟩
    refine F.ok scSame (fun vs H Q E h => ?_) (fun cdv A outer s H vs Q E hr h => ?_)
    · obtain ⟨x, y, rfl, _⟩ := h
      rfl
    obtain ⟨x, y, rfl, al, q⟩ := h
    refine ⟨_, pss_cons (ps_if (pt_cmp (pc_isN (pv 1))) (pss_one (ps_ret (pe_cmp (pc_isN (pv 0))))) pss_nil)
      (pss_cons (ps_if (pt_val (pe_callB (call_isinst.or call_isTup) rfl G.isi boot_isinstance (pa_cons (pv 1) (pa_cons (pe_bltn rfl G.bool boot_bool (v := .ty "bool") rfl) pa_nil))))
        (pss_one (ps_ret (pe_and (pe_callB call_isinst rfl G.isi boot_isinstance (pa_cons (pv 0) (pa_cons (pe_bltn rfl G.bool boot_bool (v := .ty "bool") rfl) pa_nil))) (pe_one (pe_cmpR op_eq (pv 0) (pv 1) (nomark _)))))) pss_nil)
      (pss_cons (ps_if (pt_val (pe_callB (call_isinst.or call_isTup) rfl G.isi boot_isinstance (pa_cons (pv 1) (pa_cons (pe_bltn rfl G.tuple boot_tuple (v := .ty "tuple") rfl) pa_nil))))
        (pss_cons (ps_if (PW.pt (pw_or (pt_not (pt_val (pe_callB call_isTup rfl G.isi boot_isinstance (pa_cons (pv 0) (pa_cons (pe_bltn rfl G.tuple boot_tuple (v := .ty "tuple") rfl) pa_nil)))))
            (pw_or1 (pt_cmpR op_ne (pe_callB call_len_seq rfl G.len PySem.boot_len (pa_cons (pv 0) pa_nil)) (pe_callB call_len_seq rfl G.len PySem.boot_len (pa_cons (pv 1) pa_nil)) (nomark _))))) pss_never pss_nil)
          (pss_one (ps_ret (pe_callB (call_all rfl) rfl G.all boot_all (pa_cons (pe_compF (xs := ["_law_one", "_law_other"]) (ys := []) (js := []) (g := gTup K 2 (gCons (gName 0) (gCons (gName 1) gNil))) rfl (by decide +kernel) (by decide +kernel) rfl (by decide +kernel) trivial
            (pi_zip (pa_cons (pv 0) (pa_cons (pv 1) pa_nil)) rfl G.zip)
            (fun _ _ _ _ _ => pg_tup rfl (pgs_cons (pg_name (i := 0) (show (["_law_one", "_law_other"] : List Str).Nodup by decide +kernel) rfl (Or.inl rfl) (.inr rfl)) (pgs_cons (pg_name (i := 1) (show (["_law_one", "_law_other"] : List Str).Nodup by decide +kernel) rfl (Or.inl rfl) (.inr rfl)) pgs_nil)))
            (fun _ _ _ _ _ => pts_nil) (fun _ _ _ _ _ => pe_callH hS hr rfl (pa_cons (pv 0) (pa_cons (pv 1) pa_nil)))) pa_nil))))) pss_nil)
      (pss_cons (ps_if (pt_val (pe_callB call_isinst rfl G.isi boot_isinstance (pa_cons (pv 1) (pa_cons (pe_bltn rfl G.str boot_str (v := .ty "str") rfl) pa_nil))))
        (pss_one (ps_ret (pe_and (pe_callB call_isinst rfl G.isi boot_isinstance (pa_cons (pv 0) (pa_cons (pe_bltn rfl G.str boot_str (v := .ty "str") rfl) pa_nil))) (pe_one (pe_cmpR op_eq (pv 0) (pv 1) (nomark _)))))) pss_nil)
      (pss_one (ps_ret (pe_and (pe_callB call_isinst rfl G.isi boot_isinstance (pa_cons (pv 0) (pa_cons (pe_bltn rfl G.int boot_int (v := .ty "int") rfl) pa_nil)))
        (pe_and (pe_not (pe_callB call_isinst rfl G.isi boot_isinstance (pa_cons (pv 0) (pa_cons (pe_bltn rfl G.bool boot_bool (v := .ty "bool") rfl) pa_nil)))) (pe_one (pe_cmpR op_eq (pv 0) (pv 1) (nomark _)))))))))), ?_⟩
    have qt : Q (.bl true) H := q H (Same.refl H)
    have al' : Alike0 x y ∨ ∃ m a b xs ys, n = m + 1 ∧ x = .ref a ∧ y = .ref b ∧ SqT K H a xs ∧ SqT K H b ys ∧ xs.length = ys.length ∧ xs.length ≤ 1000 ∧ ∀ (i : Nat) u v, xs[i]? = some u → ys[i]? = some v → Alike K H m u v := by
      cases n with
      | zero => exact .inl al
      | succ m =>
        rcases al with al | ⟨a, b, xs, ys, e1, e2, h1, h2, hl, hm', h3⟩
        · exact .inl al
        · exact .inr ⟨m, a, b, xs, ys, rfl, e1, e2, h1, h2, hl, hm', h3⟩
    rcases al' with (⟨rfl, rfl⟩ | ⟨b, rfl, rfl⟩ | ⟨i, rfl, rfl⟩ | ⟨z, rfl, rfl⟩) | ⟨m, a, b, xs, ys, rfl, rfl, rfl, h1, h2, hl, hm', h3⟩
    · exact ⟨_, rfl, _, rfl, iteY rfl ⟨_, rfl, qt⟩⟩
    · refine ⟨_, rfl, _, rfl, iteN (fun e => nomatch e) ?_⟩
      refine ⟨_, rfl, .inl ⟨_, _, _, _, rfl, TyOf.bl _, rfl, _, rfl, iteT ?_⟩⟩
      refine ⟨_, rfl, _, _, _, _, rfl, TyOf.bl _, rfl, _, rfl, iteT ?_⟩
      refine ⟨_, rfl, _, rfl, rfl, ?_⟩
      rw [decide_eq_true rfl]
      exact qt
    · refine ⟨_, rfl, _, rfl, iteN (fun e => nomatch e) ?_⟩
      refine ⟨_, rfl, .inl ⟨_, _, _, _, rfl, TyOf.int _, rfl, _, rfl, iteF ?_⟩⟩
      refine ⟨_, rfl, .inl ⟨_, _, _, _, rfl, TyOf.int _, rfl, _, rfl, iteF ?_⟩⟩
      refine ⟨_, rfl, _, _, _, _, rfl, TyOf.int _, rfl, _, rfl, iteF ?_⟩
      refine ⟨_, rfl, _, _, _, _, rfl, TyOf.int _, rfl, _, rfl, iteT ?_⟩
      refine ⟨_, rfl, _, _, _, _, rfl, TyOf.int _, rfl, _, rfl, _, rfl, iteT ?_⟩
      refine ⟨_, rfl, _, rfl, rfl, ?_⟩
      rw [decide_eq_true rfl]
      exact qt
    · refine ⟨_, rfl, _, rfl, iteN (fun e => nomatch e) ?_⟩
      refine ⟨_, rfl, .inl ⟨_, _, _, _, rfl, TyOf.str _, rfl, _, rfl, iteF ?_⟩⟩
      refine ⟨_, rfl, .inl ⟨_, _, _, _, rfl, TyOf.str _, rfl, _, rfl, iteF ?_⟩⟩
      refine ⟨_, rfl, _, _, _, _, rfl, TyOf.str _, rfl, _, rfl, iteT ?_⟩
      refine ⟨_, rfl, _, _, _, _, rfl, TyOf.str _, rfl, _, rfl, iteT ?_⟩
      refine ⟨_, rfl, _, rfl, rfl, ?_⟩
      rw [decide_eq_true rfl]
      exact qt
    · refine ⟨_, rfl, _, rfl, iteN (fun e => nomatch e) ?_⟩
      refine ⟨_, rfl, .inr ⟨_, _, _, _, rfl, h2, rfl, _, rfl, iteF ?_⟩⟩
      refine ⟨_, rfl, .inr ⟨_, _, _, _, rfl, h2, rfl, _, rfl, iteT ?_⟩⟩
      refine ⟨_, rfl, _, _, _, _, rfl, h1, rfl, _, rfl, iteF ?_⟩
      refine ⟨_, rfl, a, xs, rfl, .inr h1, _, rfl, b, ys, rfl, .inr h2, rfl, _, rfl, ?_⟩
      refine iteNS (congrArg (fun n : Nat => V.int n) hl) ?_
      refine ⟨_, rfl, _, rfl, a, b, xs, ys, rfl, h1, h2, hl, ?_⟩
      refine fun D hD => compF_zip (te := tCall (spSame K (m + 1)) [] E0 (tCons (tVar 0) (tCons (tVar 1) tNil))) (fun _ _ => V.bl true) D hD h1 h2 hl (bigl _ (by omega)) (fun i u v H1 R hu hv s1 hR => ?_) (fun H1 s1 hl1 => ?_)
      · exact ⟨_, rfl, _, rfl, u, v, rfl, (h3 i u v hu hv).same s1, fun H2 s2 => hR H2 s2⟩
      · obtain ⟨bs, e, hall⟩ := zip_true xs ys
        refine ⟨D, bs, rfl, SqL.of (by rw [hl1, e]), ?_⟩
        rw [hall]
        exact q H1 s1
end
end LW
namespace LW
open PySem L2 Mi Co
section
variable {P : Program} {w : World} {K : PySem.W.Frag} {mg : Str → Option Value} {base : Heap} {f : Addr} {fd : FuncData}
theorem scDraw : FnScope ["_law_script", "_law_town", "_law_many", "_law_k", "_law_cell", "_law_number"] ["_law_script", "_law_town", "_law_many"] (defScope sDraw) := ⟨rfl, rfl, rfl, by decide +kernel, rfl, by decide +kernel, by decide +kernel⟩
theorem ok_draw {k : Nat} (F : Fun K "_law_draw" "_law_draw" sDraw f fd) (G : Blt mg) : FnOk P w K mg base CX0 (k + 1) f fd ["_law_script", "_law_town", "_law_many"] (spDraw K) := by
  refine F.ok scDraw (fun vs H Q E h => ?_) (fun cdv A outer s H vs Q E hr h => ?_)
  · obtain ⟨a, t, ns, zs, m, rfl, _⟩ := h
    rfl
  obtain ⟨a, t, ns, zs, m, rfl, hS, h63, hT, hz, hm, q⟩ := h
  refine ⟨_, pss_cons (ps_expr (pe_bm PySem.F.plainAttrs_list PySem.F.slot_list_append PySem.F.type_list_append mt_append (pv 1) (pa_cons pe_int pa_nil)))
    (pss_cons (ps_set (i := 3) scDraw.nd rfl (Or.inl rfl) (pe_callB call_len_seq rfl G.len PySem.boot_len (pa_cons (pv 1) pa_nil)))
    (pss_cons (ps_set (i := 4) scDraw.nd rfl (Or.inl rfl) pe_int)
    (pss_cons (ps_if (pt_truth (pv 0) (fun _ => rfl)) (pss_one (ps_set (i := 4) scDraw.nd rfl (Or.inl rfl) (pe_ix ix_list (pv 0) (pe_op op_mod (pv 3) (pe_callB call_len_seq rfl G.len PySem.boot_len (pa_cons (pv 0) pa_nil))) (fun _ _ => rfl)))) pss_nil)
    (pss_cons (ps_set (i := 5) scDraw.nd rfl (Or.inl rfl) (pe_op op_mod (pe_op op_add (pv 4) (pe_op op_mul pe_int (pv 3))) pe_int))
    (pss_cons (ps_set (i := 5) scDraw.nd rfl (Or.inl rfl) (pe_op op_mod (pe_op op_mul (pe_op op_mod (pe_op op_mul (pv 5) (pv 5)) pe_int) pe_int) pe_int))
    (pss_one (ps_ret (pe_op op_mod (pe_op op_fdiv (pv 5) pe_int) (pv 2))))))))), ?_⟩
  refine ⟨_, rfl, .inl ⟨rfl, _, SqL.of hT⟩, t, zs, _, rfl, rfl, hT, bigl _ (by omega), ?_⟩
  have hT' : (upd H t (.lst (zs ++ [V.int 0])) : Hp) t = some (.lst (zs ++ [V.int 0])) := upd_same
  have st : Stp t H (upd H t (.lst (zs ++ [V.int 0]))) := Stp.upd _
  have hS' := hS.stp hT st
  refine ⟨_, rfl, t, _, rfl, .inl (SqL.of hT'), ?_⟩
  refine ⟨_, rfl, _, .inl ⟨_, hS'.sq, rfl⟩, ?_⟩
  have rest : ∀ (c kk : Int), Q (.int (((c + 104729 * kk) % 4294967291 * ((c + 104729 * kk) % 4294967291) % 4294967279 * 48271 % 4294967291) / 64 % m)) (upd H t (.lst (zs ++ [V.int 0]))) := fun c kk =>
    q _ _ (Int.emod_nonneg _ (by omega)) (Int.emod_lt_of_pos _ hm) hT' st
  refine ite2 (fun c => ?_) (fun c => ?_)
  · have hne : ns ≠ [] := fun e => by subst e; simp at c
    have hlen : 0 < (ns.map V.int).length := by rw [List.length_map]; exact List.length_pos_iff.mpr hne
    obtain ⟨v, hv⟩ := at_mod hne (((zs ++ [V.int 0]).length : Nat) : Int)
    refine ⟨_, rfl, _, rfl, _, rfl, a, _, rfl, .inl hS'.sq, _, _, rfl, rfl, by omega, a, _, _, _, rfl, rfl, hS'.sq, hv, ?_⟩
    refine ⟨_, rfl, _, rfl, _, _, rfl, rfl, .inl ⟨by decide, by decide⟩, _, _, rfl, rfl, _, _, rfl, rfl, (show (0 : Int) < 4294967291 by decide), ?_⟩
    refine ⟨_, rfl, _, rfl, _, _, rfl, rfl, .inl ⟨by omega, by omega⟩, _, _, rfl, rfl, (show (0 : Int) < 4294967279 by decide), _, _, rfl, rfl, .inl ⟨by omega, by omega⟩, _, _, rfl, rfl, (show (0 : Int) < 4294967291 by decide), ?_⟩
    exact ⟨_, rfl, _, _, rfl, rfl, ⟨by decide, by decide⟩, _, rfl, _, _, rfl, rfl, hm, rest v _⟩
  · refine ⟨_, rfl, _, rfl, _, _, rfl, rfl, .inl ⟨by decide, by decide⟩, _, _, rfl, rfl, _, _, rfl, rfl, (show (0 : Int) < 4294967291 by decide), ?_⟩
    refine ⟨_, rfl, _, rfl, _, _, rfl, rfl, .inl ⟨by omega, by omega⟩, _, _, rfl, rfl, (show (0 : Int) < 4294967279 by decide), _, _, rfl, rfl, .inl ⟨by omega, by omega⟩, _, _, rfl, rfl, (show (0 : Int) < 4294967291 by decide), ?_⟩
    exact ⟨_, rfl, _, _, rfl, rfl, ⟨by decide, by decide⟩, _, rfl, _, _, rfl, rfl, hm, rest 0 _⟩
end
end LW
namespace LW
open PySem L2 Mi Co
section
variable {P : Program} {w : World} {K : PySem.W.Frag} {mg : Str → Option Value} {base : Heap} {f : Addr} {fd : FuncData}
theorem scPick : FnScope ["_law_script", "_law_town", "_law_some"] ["_law_script", "_law_town", "_law_some"] (defScope sPick) := ⟨rfl, rfl, rfl, by decide +kernel, rfl, by decide +kernel, by decide +kernel⟩
theorem ok_pick {k : Nat} (F : Fun K "_law_pick" "_law_pick" sPick f fd) (G : Blt mg) (hD : Has P w K mg base "_law_draw" k ["_law_script", "_law_town", "_law_many"] (spDraw K)) : FnOk P w K mg base CX0 (k + 1) f fd ["_law_script", "_law_town", "_law_some"] (spPick K) := by
  refine F.ok scPick (fun vs H Q E h => ?_) (fun cdv A outer s H vs Q E hr h => ?_)
  · obtain ⟨a, t, ns, zs, _, _, _, _, ⟨l, xs, rfl, _⟩ | ⟨z, rfl, _⟩⟩ := h <;> rfl
  obtain ⟨a, t, ns, zs, hS, h63, hT, hz, h⟩ := h
  refine ⟨_, pss_one (ps_ret (pe_ix ix_seq (pv 2) (pe_callH hD hr rfl (pa_cons (pv 0) (pa_cons (pv 1) (pa_cons (pe_callB (call_len_seq.or call_len_str) rfl G.len PySem.boot_len (pa_cons (pv 2) pa_nil)) pa_nil)))) (fun _ _ => rfl))), ?_⟩
  rcases h with ⟨l, xs, rfl, hl, hne, hx, q⟩ | ⟨z, rfl, hz0, hz1, q⟩
  · refine ⟨_, rfl, _, rfl, _, rfl, _, rfl, .inl ⟨l, _, rfl, .inl (SqL.of hl), a, t, ns, zs, _, rfl, hS, h63, hT, hz, by omega, fun r H' h0 h1 hT' st => ?_⟩⟩
    obtain ⟨v, hv, hm⟩ := at_place h0 h1
    exact .inl ⟨l, xs, r, v, rfl, rfl, SqL.of (st l _ hne hl), hv, q v H' hm hT' st⟩
  · refine ⟨_, rfl, _, rfl, _, rfl, _, rfl, .inr ⟨z, rfl, big _ (by omega), a, t, ns, zs, _, rfl, hS, h63, hT, hz, by omega, fun r H' h0 h1 hT' st => ?_⟩⟩
    have hl : z.cps.toList.length = z.length := by simp [Str.length]
    obtain ⟨v, hv, hm⟩ := at_place (xs := z.cps.toList) h0 (by rw [hl]; exact h1)
    exact .inr (.inr ⟨z, r, v, rfl, rfl, big _ (by omega), hv, q v H' hm hT' st⟩)
end
end LW
namespace LW
open PySem L2 Mi Co
section
variable {P : Program} {w : World} {K : PySem.W.Frag} {mg : Str → Option Value} {base : Heap} {f : Addr} {fd : FuncData}
theorem scLName : FnScope ["_law_thing"] ["_law_thing"] (defScope sLName) := ⟨rfl, rfl, rfl, by decide +kernel, rfl, by decide +kernel, by decide +kernel⟩
theorem ok_lname {k : Nat} (F : Fun K "_law_is_name" "_law_is_name" sLName f fd) (G : Blt mg) : FnOk P w K mg base CX0 (k + 1) f fd ["_law_thing"] (spNameV K) := by
  refine F.ok scLName (fun vs H Q E h => ?_) (fun cdv A outer s H vs Q E hr h => ?_)
  · obtain ⟨x, rfl, _⟩ := h
    rfl
  obtain ⟨v, rfl, th, q⟩ := h
  refine ⟨_, pss_cons (ps_if (PW.pt (pw_or (pt_not (pt_val (pe_callB call_isS rfl G.isi boot_isinstance (pa_cons (pv 0) (pa_cons (pe_bltn rfl G.str boot_str (v := .ty "str") rfl) pa_nil)))))
      (pw_or1 (pt_not (pt_chain op_le op_le pe_int (pe_callB call_len_str rfl G.len PySem.boot_len (pa_cons (pv 0) pa_nil)) pe_int)))))
      (pss_one (ps_ret pe_bl)) pss_nil)
    (pss_cons (ps_if (pt_not (pt_val (pe_callB (call_all rfl) rfl G.all boot_all (pa_cons (pe_comp rfl (by decide +kernel) (by decide +kernel) rfl (by decide +kernel) (by decide +kernel) (pi_str (pv 0))
      (fun C s' H' fp => pe_cmpR op_in_str (pv 0) pe_str rfl)) pa_nil)))) (pss_one (ps_ret pe_bl)) pss_nil)
    (pss_one (ps_ret (pe_cmpR op_notIn_seq pe_str (pe_bm PySem.F.plainAttrs_str PySem.F.slot_str_split PySem.F.type_str_split mt_split1 (pv 0) (pa_cons pe_str pa_nil)) rfl)))), ?_⟩
  refine ⟨_, rfl, v, rfl, th, _, rfl, ?_⟩
  have no : isS v = false → nmV v = false := fun e => by cases v <;> first | rfl | cases e
  cases hs : isS v with
  | false =>
    have := q H (Same.refl H)
    rw [no hs] at this
    exact iteT this
  | true =>
    obtain ⟨x, rfl⟩ : ∃ x, v = .str x := by cases v <;> first | exact ⟨_, rfl⟩ | cases hs
    have hx : x.length ≤ 1000 := by
      rcases th with ⟨y, e, h⟩ | h | ⟨i, h⟩ | ⟨b, h⟩ | ⟨a, xs, h, _⟩ | ⟨a, xs, h, _⟩
      · cases e; exact h
      all_goals cases h
    have hq : ∀ H', Same H H' → Q (.bl (lName x)) H' := fun H' s' => by
      have : Q (.bl (isName x)) H' := q H' s'
      rw [name_same] at this
      exact this
    unfold lName at hq
    refine iteF ⟨_, rfl, x, rfl, big _ (by omega), _, _, rfl, rfl, _, rfl, ?_⟩
    refine ite2 (fun c1 => ?_) (fun c1 => ?_)
    · refine ⟨_, _, rfl, rfl, _, rfl, ?_⟩
      refine ite2 (fun c2 => ?_) (fun c2 => ?_)
      · rw [if_neg (by rw [c1, Bool.true_and]; intro z; rw [z] at c2; cases c2)] at hq
        exact hq H (Same.refl H)
      · have c2' : decide ((x.length : Int) ≤ 12) = true := by
          cases hd : decide ((x.length : Int) ≤ 12) with
          | true => rfl
          | false => rw [hd] at c2; exact absurd rfl c2
        rw [if_pos (by rw [c1, c2', Bool.true_and])] at hq
        refine ⟨_, rfl, x, rfl, ?_⟩
        refine fun D hD => comp_str (z := x) (te := tOp (fun x y H Q => ∃ i j, x = .str i ∧ y = .str j ∧ Q (.bl (!(Builtin.Str.occurrences j i 0 j.length 1).isEmpty)) H) (tVar 0) (tC (.str "abcdefghijklmnopqrstuvwxyz0123456789-"))) (f := fun c => .bl (sIn c "abcdefghijklmnopqrstuvwxyz0123456789-")) D hD (bigl _ (by omega)) (fun y H1 R hy hR => ?_) (fun H1 sm hl => ?_)
        · exact ⟨_, rfl, _, _, rfl, rfl, hR H1 (Same.refl _)⟩
        · refine ⟨D, (signs x).map (fun c => sIn c "abcdefghijklmnopqrstuvwxyz0123456789-"), rfl, SqL.of (by rw [hl, List.map_map]; rfl), _, rfl, ?_⟩
          refine ite2 (fun c3 => ?_) (fun c3 => ?_)
          · rw [if_neg (by intro z; rw [z] at c3; cases c3)] at hq
            exact hq H1 sm
          · have c3' : (((signs x).map fun c => sIn c "abcdefghijklmnopqrstuvwxyz0123456789-").all id) = true := by
              cases hd : (((signs x).map fun c => sIn c "abcdefghijklmnopqrstuvwxyz0123456789-").all id) with
              | true => rfl
              | false => rw [hd] at c3; exact absurd rfl c3
            rw [if_pos c3'] at hq
            refine ⟨_, rfl, rfl, x, _, rfl, rfl, rfl, by omega, fun D2 hD2 => ?_⟩
            refine ⟨D2, _, rfl, .inl (SqL.of upd_same), rfl, flat_strs _, ?_⟩
            have := hq _ (sm.trans (Same.new hD2 (.lst ((Txt.split x "-").map V.str))))
            rw [← inV_strs] at this
            exact this
    · have c1' : decide ((1 : Int) ≤ (x.length : Int)) = false := Bool.eq_false_iff.mpr c1
      rw [if_neg (by rw [c1', Bool.false_and]; decide)] at hq
      exact ⟨_, rfl, iteT (hq H (Same.refl H))⟩
end
end LW
namespace LW
open PySem L2 Mi Co
section
variable {P : Program} {w : World} {K : PySem.W.Frag} {mg : Str → Option Value} {base : Heap} {f : Addr} {fd : FuncData}
theorem scLAddr : FnScope ["_law_thing"] ["_law_thing"] (defScope sLAddr) := ⟨rfl, rfl, rfl, by decide +kernel, rfl, by decide +kernel, by decide +kernel⟩
theorem ok_laddr {k : Nat} (F : Fun K "_law_is_address" "_law_is_address" sLAddr f fd) (G : Blt mg) (hN : Has P w K mg base "_law_is_name" k ["_law_thing"] (spNameV K)) : FnOk P w K mg base CX0 (k + 1) f fd ["_law_thing"] (spAddr K) := by
  refine F.ok scLAddr (fun vs H Q E h => ?_) (fun cdv A outer s H vs Q E hr h => ?_)
  · obtain ⟨x, rfl, _⟩ := h
    rfl
  obtain ⟨v, rfl, h⟩ := h
  refine ⟨_, pss_one (ps_ret (pe_and (pe_callB call_isT rfl G.isi boot_isinstance (pa_cons (pv 0) (pa_cons (pe_bltn rfl G.tuple boot_tuple (v := .ty "tuple") rfl) pa_nil)))
      (pe_and (pe_chain op_le op_le pe_int (pe_callB call_len_seq rfl G.len PySem.boot_len (pa_cons (pv 0) pa_nil)) pe_int)
      (pe_one (pe_callB (call_all rfl) rfl G.all boot_all (pa_cons (pe_compF (xs := ["_law_one"]) (ys := []) (js := []) rfl (by decide +kernel) (by decide +kernel) rfl (by decide +kernel) trivial
      (pi_tup (pv 0)) (fun _ _ _ _ _ => pg_name (i := 0) (show (["_law_one"] : List Str).Nodup by decide +kernel) rfl (Or.inl rfl) (.inr rfl)) (fun _ _ _ _ _ => pts_nil)
      (fun cl C s' H' fp => pe_callH hN hr rfl (pa_cons (pv 0) pa_nil))) pa_nil)))))), ?_⟩
  rcases h with ⟨a, xs, rfl, hq, hl, hth, q⟩ | ⟨no, q⟩
  · refine ⟨_, rfl, _, rfl, .inl ⟨a, xs, rfl, hq, _, rfl, ?_⟩⟩
    refine iteT ⟨_, rfl, a, xs, rfl, .inr hq, _, _, rfl, rfl, _, rfl, ?_⟩
    refine ite2 (fun c1 => ?_) (fun c1 => ?_)
    · have c1' : (1 : Int) ≤ (xs.length : Int) := of_decide_eq_true c1
      refine ⟨_, _, rfl, rfl, _, rfl, ?_⟩
      by_cases c2 : xs.length ≤ 4
      · refine iteY (show (xs.length : Int) ≤ 4 by omega) ⟨_, rfl, a, rfl, ⟨_, hq⟩, ?_⟩
        refine fun D hD => compF_all (xs := xs) (tt := tTrue) (te := tCall (spNameV K) [] E0 (tCons (tVar 0) tNil)) (fr := []) (f := fun v => .bl (nmV v)) (p := fun _ => true) D hD (tells_tup hq) (bigl _ (by omega)) ?_ ?_ ?_
        · intro y H1 R hy _ hR
          exact hR H1 (Same.refl H1)
        · intro y H1 R hy _ s1 hR
          exact ⟨_, rfl, y, rfl, (hth y hy).same s1, fun H2 s2 => hR H2 s2⟩
        · intro H1 s1 hl1
          refine ⟨D, xs.map nmV, rfl, SqL.of (by rw [hl1, List.filter_eq_self.mpr (fun _ _ => rfl), List.map_map]; rfl), ?_⟩
          have : Q (.bl (adL xs)) H1 := q H1 s1
          unfold adL at this
          rw [decide_eq_true (show 1 ≤ xs.length by omega), decide_eq_true c2] at this
          exact this
      · refine iteN (show ¬ (xs.length : Int) ≤ 4 by omega) ?_
        have : Q (.bl (adL xs)) H := q H (Same.refl H)
        unfold adL at this
        rw [decide_eq_false c2] at this
        have q2 : Q (.bl false) H := by simpa using this
        exact q2
    · have c1' : ¬ (1 : Int) ≤ (xs.length : Int) := fun z => c1 (decide_eq_true z)
      refine ⟨_, rfl, iteF ?_⟩
      have : Q (.bl (adL xs)) H := q H (Same.refl H)
      unfold adL at this
      rw [decide_eq_false (show ¬ 1 ≤ xs.length by omega)] at this
      have q2 : Q (.bl false) H := by simpa using this
      exact q2
  · exact ⟨_, rfl, _, rfl, .inr ⟨no, _, rfl, iteF (q H (Same.refl H))⟩⟩
end
end LW
namespace LW
open PySem L2 Mi Co
theorem pt_mono {X : Cx} {e : Expr} {t u : TT} (h : PT X e t) (hi : ∀ σ H Q, u σ H Q → t σ H Q) : PT X e u := fun pins s σ H Q I q => h pins s σ H Q I (hi σ H Q q)
def spOr : Sp := fun vs H Q _ => (vs = [.non] ∧ ∀ H', Same H H' → Q (.str "refused") H') ∨ ∃ a, vs = [.ref a] ∧ ∀ H', Same H H' → Q (.ref a) H'
def spDAddr (K : PySem.W.Frag) : Sp := fun vs H Q _ => ∃ (a t : Addr) (ns : List Int) (zs : List V), vs = [.ref a, .ref t] ∧ Scr K H a ns ∧ ns.length ≤ 63 ∧ H t = some (.lst zs) ∧ zs.length < 40000 ∧
  ∀ (q : Addr) (u : List Str) (zs' : List V) (H' : Hp), H' t = some (.lst zs') → zs'.length ≤ zs.length + 5 → Stp t H H' → TupA H' q u → okA u = true → (∀ t ∈ u, t.length ≤ 8) → Q (.ref q) H'
def spTold : Sp := fun vs H Q _ => ∃ x : Str, vs = [.str x] ∧ x.length ≤ 990 ∧ (∀ c ∈ x.cps.toList, c < 16 ^ 8) ∧ (Txt.split x "\n").length ≤ 19 ∧
  (∀ R p H', rdT x = some R → Same H H' → RlsAt H' p R → Q (.ref p) H') ∧ (rdT x = none → ∀ H', Same H H' → Q (.str "refused") H')
def spLRead : Sp := fun vs H Q _ => ∃ x : Str, vs = [.str x] ∧ x.length ≤ 990 ∧ (Txt.split x "\n").length ≤ 19 ∧
  (∀ R p H', rdT x = some R → Same H H' → RlsAt H' p R → Q (.ref p) H') ∧ (rdT x = none → ∀ H', Same H H' → Q .non H')
theorem areT_no {ts : List Thing} {t : Thing} (h : t ∈ ts) (hr : rowT t = false) : areT (.tup ts) = false := by
  have e : (ts.map rowT).all id = false := by
    cases hh : (ts.map rowT).all id with
    | false => rfl
    | true =>
      rw [List.all_eq_true] at hh
      have := hh _ (List.mem_map.mpr ⟨t, h, rfl⟩)
      rw [hr] at this
      cases this
  show ((ts.map rowT).all id && _) = false
  rw [e, Bool.false_and]
theorem areT_dup {ts : List Thing} (h : ¬ (ts.map fun t => keyT (fstT t)).Nodup) : areT (.tup ts) = false := by
  show (_ && decide (ts.map fun t => keyT (fstT t)).Nodup) = false
  rw [decide_eq_false h, Bool.and_false]
theorem areT_yes {ts : List Thing} (h1 : ∀ t ∈ ts, rowT t = true) (h2 : (ts.map fun t => keyT (fstT t)).Nodup) : areT (.tup ts) = true := by
  have e : (ts.map rowT).all id = true := by
    rw [List.all_eq_true]
    intro b hb
    obtain ⟨t, ht, rfl⟩ := List.mem_map.mp hb
    exact h1 t ht
  show ((ts.map rowT).all id && decide (ts.map fun t => keyT (fstT t)).Nodup) = true
  rw [e, decide_eq_true h2]
  rfl
theorem any_keys (u : List Str) : ∀ (us : List (List Str)), ((us.map tupD).any fun d => Dat.beq d (tupD u)) = decide (u ∈ us)
  | [] => by simp
  | v :: us => by
    rw [List.map_cons, List.any_cons, any_keys u us]
    have e : Dat.beq (tupD v) (tupD u) = decide (v = u) := tup_beq v u
    rw [e]
    by_cases h : v = u
    · subst h; simp
    · have : u ≠ v := fun z => h z.symm
      simp [h, this]
def uRow (K : PySem.W.Frag) : TT := fun σ H Q => ∃ v t, σ[2]? = some (some v) ∧ IsTh K H t v ∧ ∀ H', Same H H' → Q (!rowT t) H'
theorem row_ok {K : PySem.W.Frag} {σ : St} {H : Hp} {Q : Bool → Hp → Prop} (h : uRow K σ H Q) :
    tOr (tNot (tB (tCB (fun xs H Q => ∃ v, xs = [v, .ty "tuple"] ∧ ((∃ a ys, v = .ref a ∧ SqT K H a ys ∧ Q (.bl true) H) ∨ (NoT H v ∧ Q (.bl false) H))) (tCons (tVar 2) (tCons (tC (.ty "tuple")) tNil)))))
      (tOr (tTest (tOp rNe (tCB (fun xs H Q => ∃ p ys, xs = [.ref p] ∧ (SqL K H p ys ∨ SqT K H p ys) ∧ Q (.int ys.length) H) (tCons (tVar 2) tNil)) (tC (.int 2))))
      (tOr (tNot (tB (tCall (spAddr K) [] E0 (tCons (tOp (rIxT K) (tVar 2) (tC (.int 0))) tNil)))) (tNot (tB (tCall (spAddr K) [] E0 (tCons (tOp (rIxT K) (tVar 2) (tC (.int 1))) tNil)))))) σ H Q := by
  obtain ⟨v, t, e, th, q⟩ := h
  refine ⟨v, e, v, rfl, ?_⟩
  have q0 := q H (Same.refl H)
  cases t with
  | oth => exact .inr ⟨IsTh.noT (K := K) (t := .oth) th (fun _ e => nomatch e), _, rfl, iteT q0⟩
  | txt x => exact .inr ⟨IsTh.noT (K := K) (t := .txt x) th (fun _ e => nomatch e), _, rfl, iteT q0⟩
  | tup ts =>
    obtain ⟨a, xs, rfl, hq, hl, hx⟩ := th
    refine .inl ⟨a, xs, rfl, hq, _, rfl, iteF ⟨_, e, a, xs, rfl, .inr hq, rfl, _, rfl, ?_⟩⟩
    by_cases h2 : xs.length = 2
    · obtain ⟨x, y, rfl⟩ : ∃ x y, xs = [x, y] := by
        cases xs with
        | nil => simp at h2
        | cons x r => cases r with
          | nil => simp at h2
          | cons y r => cases r with
            | nil => exact ⟨x, y, rfl⟩
            | cons _ _ => simp at h2
      obtain ⟨t1, t2, rfl⟩ : ∃ t1 t2, ts = [t1, t2] := by
        have := hx.length
        cases ts with
        | nil => simp at this
        | cons x r => cases r with
          | nil => simp at this
          | cons y r => cases r with
            | nil => exact ⟨x, y, rfl⟩
            | cons _ _ => simp at this
      obtain ⟨_, _, e1, th1, _, _, e2, th2, _⟩ := hx
      cases e1
      cases e2
      refine ifN rfl ⟨_, e, a, [x, y], 0, x, rfl, rfl, hq, rfl, ?_⟩
      dsimp only [tNil, List.cons_append, List.nil_append, List.append_nil]
      refine addr_at th1 fun H1 s1 => ⟨_, rfl, ?_⟩
      have q' : ∀ H', Same H H' → Q (!(okT t1 && okT t2)) H' := q
      cases h1 : okT t1 with
      | false => exact iteT (by have := q' H1 s1; rw [h1, Bool.false_and] at this; exact this)
      | true =>
        refine iteF ⟨_, e, a, [x, y], 1, y, rfl, rfl, s1.tup hq, rfl, ?_⟩
        dsimp only [tNil, List.cons_append, List.nil_append, List.append_nil]
        refine addr_at (th2.same s1) fun H2 s2 => ⟨_, rfl, ?_⟩
        have := q' H2 (s1.trans s2)
        rw [h1, Bool.true_and] at this
        exact this
    · refine ifY (fun e => h2 ?_) ?_
      · injection e with e; omega
      · have hr2 : rowT (.tup ts) = false := by
          have := hx.length
          cases ts with
          | nil => rfl
          | cons x r => cases r with
            | nil => rfl
            | cons y r => cases r with
              | nil => exact absurd (this.trans rfl) h2
              | cons _ _ => rfl
        rw [hr2] at q0
        exact q0
section
variable {P : Program} {w : World} {K : PySem.W.Frag} {mg : Str → Option Value} {base : Heap} {f : Addr} {fd : FuncData}
theorem scOr : FnScope ["_law_due"] ["_law_due"] (defScope sOr) := ⟨rfl, rfl, rfl, by decide +kernel, rfl, by decide +kernel, by decide +kernel⟩
theorem ok_or {k : Nat} (F : Fun K "_law_or" "_law_or" sOr f fd) : FnOk P w K mg base CX0 (k + 1) f fd ["_law_due"] spOr := by
  refine F.ok scOr (fun vs H Q E h => ?_) (fun cdv A outer s H vs Q E hr h => ?_)
  · rcases h with ⟨rfl, _⟩ | ⟨a, rfl, _⟩ <;> rfl
  refine ⟨_, pss_cons (ps_if (pt_cmp (pc_isN (pv 0))) (pss_one (ps_ret pe_str)) pss_nil) (pss_one (ps_ret (pv 0))), ?_⟩
  rcases h with ⟨rfl, q⟩ | ⟨a, rfl, q⟩
  · exact ⟨_, rfl, _, rfl, iteY rfl (q H (Same.refl H))⟩
  · exact ⟨_, rfl, _, rfl, iteN (fun e => nomatch e) ⟨_, rfl, q H (Same.refl H)⟩⟩
theorem scTold : FnScope ["_law_text_here", "_law_got"] ["_law_text_here"] (defScope sTold) := ⟨rfl, rfl, rfl, by decide +kernel, rfl, by decide +kernel, by decide +kernel⟩
theorem ok_told {k : Nat} {C : Addr} (F : Fun K "_law_told" "_law_told" sTold f fd) (O : PyProof.Rows.OwnCls "NoText" C VE "ValueError.__new__" mg base) (hR : HasE P w K mg base "read_rows" k ["text"] (spRdRows C)) : FnOk P w K mg base CX0 (k + 1) f fd ["_law_text_here"] spTold := by
  refine F.ok scTold (fun vs H Q E h => ?_) (fun cdv A outer s H vs Q E hr h => ?_)
  · obtain ⟨x, rfl, _⟩ := h
    rfl
  obtain ⟨x, rfl, hx, hc, h19, qy, qn⟩ := h
  obtain ⟨f', fd', F', b', k', m'⟩ := hR
  refine ⟨_, (pss_cons (ps_set (i := 1) scTold.nd rfl (Or.inl rfl) pe_non)
    (pss_cons (ps_try O rfl rfl rfl rfl (psx_set (i := 1) F' hr rfl m' k' b' scTold.nd rfl (Or.inl rfl) (fun _ => pa_cons (pv 0) pa_nil)) (fun _ _ => pss_one (ps_set (i := 1) scTold.nd rfl (Or.inl rfl) pe_str)))
    (pss_one (ps_ret (pv 1))))), ?_⟩
  exact ⟨_, rfl, x, rfl, hx, hc, h19, fun R p H' e s' hp => ⟨_, rfl, qy R p H' e s' hp⟩, fun h H' s' => ⟨rfl, _, rfl, qn h H' s'⟩⟩
theorem scLAre : FnScope ["_law_thing", "_law_starts", "_law_row"] ["_law_thing"] (defScope sLAre) := ⟨rfl, rfl, rfl, by decide +kernel, rfl, by decide +kernel, by decide +kernel⟩
theorem ok_lare {k : Nat} (F : Fun K "_law_are" "_law_are" sLAre f fd) (G : Blt mg) (hLAddr : Has P w K mg base "_law_is_address" k ["_law_thing"] (spAddr K)) : FnOk P w K mg base CX0 (k + 1) f fd ["_law_thing"] (spAre K) := by
  refine F.ok scLAre (fun vs H Q E h => ?_) (fun cdv A outer s H vs Q E hr h => ?_)
  · obtain ⟨v, t, rfl, _⟩ := h
    rfl
  obtain ⟨v, t, rfl, th, h18, q⟩ := h
  refine ⟨_, (pss_cons (ps_if (pt_not (pt_val (pe_callB call_isT rfl G.isi boot_isinstance (pa_cons (pv 0) (pa_cons (pe_bltn rfl G.tuple boot_tuple (v := .ty "tuple") rfl) pa_nil))))) (pss_one (ps_ret pe_bl)) pss_nil)
    (pss_cons (ps_set (i := 1) scLAre.nd rfl (Or.inl rfl) (pe_lst pa_nil))
    (pss_cons (ps_for PassesOwn.never rfl (pi_tup (pv 0)) (pg_name (i := 2) scLAre.nd rfl (Or.inl rfl))
      (pss_cons (ps_if (pt_mono (u := uRow K) (PW.pt (pw_or (pt_not (pt_val (pe_callB call_isT rfl G.isi boot_isinstance (pa_cons (pv 2) (pa_cons (pe_bltn rfl G.tuple boot_tuple (v := .ty "tuple") rfl) pa_nil))))) (pw_or (pt_cmpR op_ne (pe_callB call_len_seq rfl G.len PySem.boot_len (pa_cons (pv 2) pa_nil)) pe_int (nomark _)) (pw_or (pt_not (pt_val (pe_callH hLAddr hr rfl (pa_cons (pe_ix ix_tup (pv 2) pe_int fun _ _ => rfl) pa_nil)))) (pw_or1 (pt_not (pt_val (pe_callH hLAddr hr rfl (pa_cons (pe_ix ix_tup (pv 2) pe_int fun _ _ => rfl) pa_nil))))))))) fun σ H Q h => row_ok h) (pss_one (ps_ret pe_bl)) pss_nil)
      (pss_cons (ps_if (pt_cmpR (op_inD (hu8 hr)) (pe_ix ix_tup (pv 2) pe_int fun _ _ => rfl) (pv 1) (by with_unfolding_all rfl)) (pss_one (ps_ret pe_bl)) pss_nil)
      (pss_one (ps_expr (pe_bm PySem.F.plainAttrs_list PySem.F.slot_list_append PySem.F.type_list_append mt_append (pv 1) (pa_cons (pe_ix ix_tup (pv 2) pe_int fun _ _ => rfl) pa_nil)))))))
    (pss_one (ps_ret pe_bl))))), ?_⟩
  refine ⟨_, rfl, v, rfl, ?_⟩
  have q0 := q H (Same.refl H)
  cases t with
  | oth => exact .inr ⟨IsTh.noT (K := K) (t := .oth) th (fun _ e => nomatch e), _, rfl, iteT q0⟩
  | txt x => exact .inr ⟨IsTh.noT (K := K) (t := .txt x) th (fun _ e => nomatch e), _, rfl, iteT q0⟩
  | tup ts =>
    obtain ⟨a, xs, rfl, hq, hl, hx⟩ := th
    obtain ⟨rs, rfl, rfl, hrs⟩ := hx.zip
    rw [List.length_map] at hl
    refine .inl ⟨a, _, rfl, hq, _, rfl, iteF ⟨big _ (show 0 ≤ 100000 by decide), fun st nst => ?_⟩⟩
    have s0 := Same.new nst (.lst ([] : List V))
    have hst0 : (upd H st (.lst ([] : List V)) : Hp) st = some (.lst []) := upd_same
    generalize (upd H st (.lst ([] : List V)) : Hp) = H0 at *
    refine ⟨_, rfl, a, rfl, ⟨_, s0.tup hq⟩, ?_⟩
    refine for_tup (xs := rs.map (·.1)) (fun j σ H' => ∃ (v2 : Option V) (ks : List (Addr × List Str)), σ = [some (.ref a), some (.ref st), v2] ∧ Same H H' ∧ H' st = some (.lst (ks.map fun r => V.ref r.1)) ∧ (∀ r ∈ ks, SqT K H r.1 (r.2.map V.str)) ∧ (ks.map (·.2)) = ((rs.take j).map fun r => keyT (fstT r.2)) ∧ (∀ r ∈ rs.take j, rowT r.2 = true) ∧ (ks.map (·.2)).Nodup)
      ⟨_, [], rfl, s0, hst0, (fun r hr => nomatch hr), rfl, (fun r hr => by simp at hr), List.nodup_nil⟩ (fun j σ H' _ h => by obtain ⟨_, _, _, sm, _⟩ := h; exact sm.tup hq) ?_ ?_
    · rintro j x σ H1 hx' ⟨v2, ks, rfl, s1, hst1, hks, ek, hrw, ndk⟩
      rw [List.getElem?_map] at hx'
      obtain ⟨r, hr', rfl⟩ : ∃ r, rs[j]? = some r ∧ r.1 = x := by
        cases hh : rs[j]? with
        | none => rw [hh] at hx'; cases hx'
        | some y => rw [hh] at hx'; injection hx' with hx'; exact ⟨y, rfl, hx'⟩
      have hrm := List.mem_of_getElem? hr'
      have thr := (hrs r hrm).same s1
      refine ⟨r.1, r.2, rfl, thr, fun H2 s2 => ?_⟩
      have s12 := s1.trans s2
      have hst2 := s2 _ _ hst1
      cases hrow : rowT r.2 with
      | false =>
        refine iteT ?_
        have := q H2 s12
        rw [areT_no (List.mem_map.mpr ⟨r, hrm, rfl⟩) hrow] at this
        exact this
      | true =>
        obtain ⟨qs, e1, e2, e3⟩ := rows_keys (rs := [r]) (fun z hz => by rw [List.mem_singleton.mp hz]; exact hrs r hrm) (fun z hz => by rw [List.mem_singleton.mp hz]; exact hrow)
        obtain ⟨⟨p0, y0, a0, u0⟩, rfl⟩ : ∃ q0, qs = [q0] := by
          cases qs with
          | nil => simp at e1
          | cons q0 r0 => cases r0 with
            | nil => exact ⟨q0, rfl⟩
            | cons _ _ => simp at e1
        obtain ⟨hp0, ha0⟩ := e2 _ (List.mem_singleton.mpr rfl)
        have er : V.ref p0 = r.1 := by simpa using e1
        have eu : u0 = keyT (fstT r.2) := by simpa using e3
        dsimp only at hp0 ha0
        refine iteF ⟨r.1, rfl, p0, [.ref a0, y0], 0, .ref a0, er.symm, rfl, s12.tup hp0, rfl, ?_⟩
        have htk : rs.take (j + 1) = rs.take j ++ [r] := by rw [List.take_add_one, hr']; rfl
        refine ⟨_, rfl, st, (ks.map (·.2)).map tupD, tupD u0, _, ⟨a0, _, rfl, s12.tup ha0, dat_strs' _⟩, rfl, .inl (SqL.of hst2), ?_, ?_, _, rfl, ?_⟩
        · rw [List.map_map]
          exact are_map fun z hz => ⟨z.1, _, rfl, s12.tup (hks z hz), dat_strs' _⟩
        · have := deeps_map (f := tupD) (n := 1) (L := ks.map (·.2)) fun u _ => by show Dat.deeps _ + 1 ≤ 1; rw [deeps0']; exact Nat.le_refl _
          omega
        have hz : ks.length ≤ 1000 := by
          have := congrArg List.length ek
          rw [List.length_map, List.length_map, List.length_take] at this
          omega
        show if ((ks.map (·.2)).map tupD).any (fun d => Dat.beq d (tupD u0)) = true then _ else _
        rw [any_keys]
        by_cases hk : u0 ∈ ks.map (·.2)
        · refine iteY hk ?_
          have := q H2 s12
          rw [areT_dup (fun nd => ?_)] at this
          · exact this
          · have sub : ((rs.take (j + 1)).map fun r => keyT (fstT r.2)).Nodup := by
              rw [List.map_map] at nd
              exact List.Nodup.sublist ((List.take_sublist _ _).map _) nd
            rw [htk, List.map_append, List.nodup_append, ← ek] at sub
            exact sub.2.2 _ hk _ (List.mem_singleton.mpr rfl) eu
        · refine iteN hk ?_
          refine ⟨.ref st, rfl, .inl ⟨rfl, _, SqL.of hst2⟩, r.1, rfl, p0, [.ref a0, y0], 0, .ref a0, er.symm, rfl, s12.tup hp0, rfl, st, _, .ref a0, rfl, rfl, hst2, bigl _ (by rw [List.length_map]; omega), ?_⟩
          refine ⟨_, ks ++ [(a0, u0)], rfl, fun b o eb => ?_, by rw [upd_same, List.map_append]; rfl, fun z hz' => ?_, ?_, ?_, ?_⟩
          · rw [upd_ne (ne_of_none eb nst)]
            exact s12 b o eb
          · rcases List.mem_append.mp hz' with hz' | hz'
            · exact hks z hz'
            · rw [List.mem_singleton.mp hz']; exact ha0
          · rw [htk, List.map_append, List.map_append, ek, eu]
            rfl
          · rw [htk]
            intro z hz'
            rcases List.mem_append.mp hz' with hz' | hz'
            · exact hrw z hz'
            · rw [List.mem_singleton.mp hz']; exact hrow
          · rw [List.map_append, List.nodup_append]
            refine ⟨ndk, by simp, fun y hy z hz' e => hk ?_⟩
            have : z = u0 := by simpa using hz'
            rw [← this, ← e]
            exact hy
    · rintro σ H1 ⟨v2, ks, rfl, s1, hst1, hks, ek, hrw, ndk⟩
      rw [List.length_map, List.take_length] at ek hrw
      have := q H1 s1
      rw [areT_yes (fun t ht => by obtain ⟨r, hr', rfl⟩ := List.mem_map.mp ht; exact hrw r hr') (by rw [List.map_map]; exact ek ▸ ndk)] at this
      exact this
theorem scLText : FnScope ["_law_rows"] ["_law_rows"] (defScope sLText) := ⟨rfl, rfl, rfl, by decide +kernel, rfl, by decide +kernel, by decide +kernel⟩
theorem ndC0 : (["_law_one", "_law_other"] : List Str).Nodup := by decide +kernel
theorem ok_ltext {k : Nat} (F : Fun K "_law_text" "_law_text" sLText f fd) : FnOk P w K mg base CX0 (k + 1) f fd ["_law_rows"] spRText := by
  refine F.ok scLText (fun vs H Q E h => ?_) (fun cdv A outer s H vs Q E hr h => ?_)
  · obtain ⟨p, R, rfl, _⟩ := h
    rfl
  obtain ⟨p, R, rfl, ⟨rs, hp, hin, rfl⟩, hg, hl, q⟩ := h
  refine ⟨_, (pss_one (ps_ret (pe_bm PySem.F.plainAttrs_str PySem.F.slot_str_join PySem.F.type_str_join mt_join pe_str (pa_cons (pe_compF (te := (tOp rAddS (tOp rAddS (tOp rAddS (tBM K "str" (rJoinT K) (tC (.str "/")) (tCons (tVar 0) tNil)) (tC (.str " "))) (tBM K "str" (rJoinT K) (tC (.str "/")) (tCons (tVar 1) tNil))) (tC (.str "\n")))) (xs := ["_law_one", "_law_other"]) (ys := []) (js := []) (g := (gTup K 2 (gCons (gName 0) (gCons (gName 1) gNil)))) rfl (by decide +kernel) (by decide +kernel) rfl (by decide +kernel) trivial
      (pi_tup (pv 0)) (fun _ _ _ _ _ => (pg_tup rfl (pgs_cons (pg_name (i := 0) ndC0 rfl (Or.inl rfl) (.inr rfl)) (pgs_cons (pg_name (i := 1) ndC0 rfl (Or.inl rfl) (.inr rfl)) pgs_nil)))) (fun _ _ _ _ _ => pts_nil) (fun _ _ _ _ _ => (pe_op op_addS (pe_op op_addS (pe_op op_addS (pe_bm PySem.F.plainAttrs_str PySem.F.slot_str_join PySem.F.type_str_join mt_joinT pe_str (pa_cons (pv 0) pa_nil)) pe_str) (pe_bm PySem.F.plainAttrs_str PySem.F.slot_str_join PySem.F.type_str_join mt_joinT pe_str (pa_cons (pv 1) pa_nil))) pe_str))) pa_nil)))), ?_⟩
  rw [List.length_map] at hl
  refine ⟨rfl, _, rfl, p, rfl, ⟨_, SqT.of hp⟩, fun D hD => ?_⟩
  refine compF_gen2 (rs := rs) (fun x => x.1) (fun x => .ref x.2.1) (fun x => .ref x.2.2.1) (fun x => .str (lnX x.2.2.2 ++ "\n")) (fun _ => true) D hD (tells_tup (SqT.of hp)) (fun x hx => (hin x hx).1) (bigl _ (by omega)) ?_ ?_ ?_
  · intro r H1 R hr' _ hR
    exact hR H1 (Same.refl H1)
  · intro x H1 R hx _ s1 hR
    have hgx := hg x.2.2.2 (List.mem_map.mpr ⟨x, hx, rfl⟩)
    obtain ⟨_, ha, hb⟩ := (hin x hx).ts s1.ts
    have l1 := adX_len hgx.1
    have l2 := adX_len hgx.2
    refine ⟨rfl, _, rfl, _, x.2.1, x.2.2.2.1, rfl, rfl, SqT.of ha, join_room (okA_small hgx.1).1 (okA_small hgx.1).2, ?_⟩
    refine ⟨_, _, rfl, rfl, big _ (by rw [len_blank]; show (adX x.2.2.2.1).length + 1 ≤ _; omega), ?_⟩
    refine ⟨rfl, _, rfl, _, x.2.2.1, x.2.2.2.2, rfl, rfl, SqT.of hb, join_room (okA_small hgx.2).1 (okA_small hgx.2).2, ?_⟩
    refine ⟨_, _, rfl, rfl, big _ (by rw [app_length, len_blank]; show (adX x.2.2.2.1).length + 1 + (adX x.2.2.2.2).length ≤ _; omega), ?_⟩
    refine ⟨_, _, rfl, rfl, big _ (by rw [app_length, app_length, len_blank, len_feed]; show (adX x.2.2.2.1).length + 1 + (adX x.2.2.2.2).length + 1 ≤ _; omega), ?_⟩
    exact hR H1 (Same.refl H1)
  · intro H1 s1 hD1
    rw [List.filter_eq_self.mpr (fun _ _ => rfl)] at hD1
    refine ⟨_, D, (rs.map (·.2.2.2)).map (fun r => lnX r ++ ("\n" : Str)), rfl, rfl, SqL.of (by rw [hD1, List.map_map, List.map_map]; rfl), ?_, q H1 s1⟩
    have e0 : (("" : Str).length) = 0 := rfl
    have := sum_le _ 106 (lns_len hg)
    rw [e0, Nat.mul_zero]
    rw [List.length_map, List.length_map] at this
    omega
end
end LW
namespace LW
open PySem L2 Mi Co
theorem names5 : ∀ z ∈ (["a", "b-2", "news", "x", "old-news"] : List Str), isName z = true ∧ z.length ≤ 8 := by decide +kernel
def two (x : Str) : Prop := (Txt.split x " ").length = 2
def pr (x : Str) : Rl := (Txt.split ((Txt.split x " ").getD 0 "") "/", Txt.split ((Txt.split x " ").getD 1 "") "/")
theorem two_is {x : Str} (h : two x) : ∃ a b, Txt.split x " " = [a, b] ∧ pr x = (Txt.split a "/", Txt.split b "/") := by
  unfold two at h
  cases hh : Txt.split x " " with
  | nil => rw [hh] at h; simp at h
  | cons a r => cases r with
    | nil => rw [hh] at h; simp at h
    | cons b r => cases r with
      | nil => exact ⟨a, b, rfl, by unfold pr; rw [hh]; rfl⟩
      | cons _ _ => rw [hh] at h; simp at h
theorem rdR_yes {x : Str} (h : two x) (h1 : okA (pr x).1 = true) (h2 : okA (pr x).2 = true) : rdR x = some (pr x) := by
  obtain ⟨a, b, e, ep⟩ := two_is h
  rw [ep] at h1 h2 ⊢
  rw [rdR_two e]
  unfold rdA
  rw [if_pos h1, if_pos h2]
  rfl
theorem rdR_no {x : Str} (h : two x) (h1 : ¬ (okA (pr x).1 = true ∧ okA (pr x).2 = true)) : rdR x = none := by
  obtain ⟨a, b, e, ep⟩ := two_is h
  rw [ep] at h1
  rw [rdR_two e]
  unfold rdA
  by_cases c1 : okA (Txt.split a "/") = true
  · by_cases c2 : okA (Txt.split b "/") = true
    · exact absurd ⟨c1, c2⟩ h1
    · rw [if_pos c1, if_neg c2]; rfl
  · rw [if_neg c1]; rfl
theorem rdL_yes : ∀ {ls : List Str}, (∀ x ∈ ls, two x) → GoodR (ls.map pr) → rdL ls = some (ls.map pr)
  | [], _, _ => rfl
  | x :: ls, h, g => by
    unfold rdL
    have gx := g (pr x) (by rw [List.map_cons]; exact List.mem_cons_self ..)
    rw [rdR_yes (h x (List.mem_cons_self ..)) gx.1 gx.2, rdL_yes (fun y hy => h y (List.mem_cons_of_mem _ hy)) fun r hr => g r (by rw [List.map_cons]; exact List.mem_cons_of_mem _ hr)]
    rfl
theorem rdL_no {ls : List Str} (h : ∀ x ∈ ls, two x) (g : ¬ GoodR (ls.map pr)) : rdL ls = none ∧ areT (.tup ((ls.map pr).map rlD)) = false := by
  obtain ⟨r, hr, hn⟩ : ∃ r ∈ ls.map pr, ¬ (okA r.1 = true ∧ okA r.2 = true) := by
    by_cases z : ∃ r ∈ ls.map pr, ¬ (okA r.1 = true ∧ okA r.2 = true)
    · exact z
    · exact absurd (fun r hr => by
        by_cases y : okA r.1 = true ∧ okA r.2 = true
        · exact y
        · exact absurd ⟨r, hr, y⟩ z) g
  obtain ⟨x, hx, rfl⟩ := List.mem_map.mp hr
  refine ⟨rdL_none hx (rdR_no (h x hx) hn), areT_no (t := rlD (pr x)) (List.mem_map.mpr ⟨pr x, hr, rfl⟩) ?_⟩
  rw [rowT_rl]
  cases h1 : okA (pr x).1 with
  | false => rfl
  | true => cases h2 : okA (pr x).2 with
    | false => rfl
    | true => exact absurd ⟨h1, h2⟩ hn
theorem isTh_rlG {K : PySem.W.Frag} {H : Hp} {x : Rx} (h : RlH H x) (h1 : x.2.2.2.1.length ≤ 1000 ∧ ∀ t ∈ x.2.2.2.1, t.length ≤ 1000) (h2 : x.2.2.2.2.length ≤ 1000 ∧ ∀ t ∈ x.2.2.2.2, t.length ≤ 1000) : IsTh K H (rlD x.2.2.2) (.ref x.1) :=
  ⟨x.1, _, rfl, SqT.of h.1, (show 2 ≤ 1000 by decide), _, _, rfl, isTh_ad (SqT.of h.2.1) h1.1 h1.2, _, _, rfl, isTh_ad (SqT.of h.2.2) h2.1 h2.2, rfl⟩
def ShortR (R : List Rl) : Prop := ∀ r ∈ R, (r.1.length ≤ 1000 ∧ ∀ t ∈ r.1, t.length ≤ 1000) ∧ (r.2.length ≤ 1000 ∧ ∀ t ∈ r.2, t.length ≤ 1000)
theorem isTh_rlsG {K : PySem.W.Frag} {H : Hp} {p : Addr} {rs : List Rx} (hp : SqT K H p (rrefs rs)) (hin : RlsIn H rs) (hg : ShortR (rs.map (·.2.2.2))) (hl : rs.length ≤ 1000) : IsTh K H (.tup ((rs.map (·.2.2.2)).map rlD)) (.ref p) := by
  refine ⟨p, _, rfl, hp, by unfold rrefs; rw [List.length_map]; exact hl, ?_⟩
  rw [List.map_map]
  exact AreTh.of _ _ rs fun x hx => isTh_rlG (hin x hx) (hg _ (List.mem_map.mpr ⟨x, hx, rfl⟩)).1 (hg _ (List.mem_map.mpr ⟨x, hx, rfl⟩)).2
theorem split_short {x y z : Str} (hx : x.length ≤ 990) (hy : y ∈ Txt.split x z) (w : Str) : (Txt.split y w).length ≤ 1000 ∧ ∀ t ∈ Txt.split y w, t.length ≤ 1000 := by
  have h1 := split_part x z y hy
  have h2 := split_len y w
  exact ⟨by omega, fun t ht => by have := split_part y w t ht; omega⟩
theorem pr_short {x : Str} (hx : x.length ≤ 990) (h : two x) : ((pr x).1.length ≤ 1000 ∧ ∀ t ∈ (pr x).1, t.length ≤ 1000) ∧ ((pr x).2.length ≤ 1000 ∧ ∀ t ∈ (pr x).2, t.length ≤ 1000) := by
  obtain ⟨a, b, e, ep⟩ := two_is h
  rw [ep]
  exact ⟨split_short hx (by rw [e]; exact List.mem_cons_self ..) _, split_short hx (by rw [e]; exact List.mem_cons_of_mem _ (List.mem_cons_self ..)) _⟩
section
variable {P : Program} {w : World} {K : PySem.W.Frag} {mg : Str → Option Value} {base : Heap} {f : Addr} {fd : FuncData}
theorem scDAddr : FnScope ["_law_script", "_law_town", "_law_names"] ["_law_script", "_law_town"] (defScope sDAddr) := ⟨rfl, rfl, rfl, by decide +kernel, rfl, by decide +kernel, by decide +kernel⟩
theorem ndE0 : (["_law_j", "_law_script", "_law_town", "_law_names"] : List Str).Nodup := by decide +kernel
theorem ok_daddr {k : Nat} (F : Fun K "_law_address" "_law_address" sDAddr f fd) (G : Blt mg) (hDraw : Has P w K mg base "_law_draw" k ["_law_script", "_law_town", "_law_many"] (spDraw K)) (hPick : Has P w K mg base "_law_pick" k ["_law_script", "_law_town", "_law_some"] (spPick K)) :
    FnOk P w K mg base CX0 (k + 1) f fd ["_law_script", "_law_town"] (spDAddr K) := by
  refine F.ok scDAddr (fun vs H Q E h => ?_) (fun cdv A outer s H vs Q E hr h => ?_)
  · obtain ⟨a, t, ns, zs, rfl, _⟩ := h
    rfl
  obtain ⟨a, t, ns, zs, rfl, hS, h63, hT, hz, q⟩ := h
  refine ⟨_, (pss_cons (ps_set (i := 2) scDAddr.nd rfl (Or.inr rfl) (pe_lst (pa_cons pe_str (pa_cons pe_str (pa_cons pe_str (pa_cons pe_str (pa_cons pe_str pa_nil)))))))
    (pss_one (ps_ret (pe_callTy call_tuple_of rfl G.tuple boot_tuple (pa_cons (pe_compF (te := (tCall (spPick K) [] E0 (tCons (tVar 1) (tCons (tVar 2) (tCons (tVar 3) tNil))))) (xs := ["_law_j"]) (ys := ["_law_script", "_law_town", "_law_names"]) (js := [0, 1, 2]) rfl (by decide +kernel) (by decide +kernel) rfl (by decide +kernel) ⟨rfl, .inl rfl, rfl, rfl, .inl rfl, rfl, rfl, .inl rfl, rfl, trivial⟩
      (pi_range1 rfl G.range (pa_cons (pe_op op_add pe_int (pe_callH hDraw hr rfl (pa_cons (pv 0) (pa_cons (pv 1) (pa_cons pe_int pa_nil))))) pa_nil)) (fun _ _ _ _ _ => (pg_name (i := 0) ndE0 rfl (Or.inl rfl) (.inr rfl))) (fun _ _ _ _ _ => pts_nil) (fun _ _ _ _ _ => (pe_callH hPick hr rfl (pa_cons (pv 1) (pa_cons (pv 2) (pa_cons (pv 3) pa_nil)))))) pa_nil))))), ?_⟩
  refine ⟨big _ (show 5 ≤ 100000 by decide), fun l nl => ?_⟩
  have s0 := Same.new nl (.lst ((["a", "b-2", "news", "x", "old-news"] : List Str).map V.str))
  have hl0 : (upd H l (.lst ((["a", "b-2", "news", "x", "old-news"] : List Str).map V.str)) : Hp) l = some (.lst ((["a", "b-2", "news", "x", "old-news"] : List Str).map V.str)) := upd_same
  have hlt : l ≠ t := (ne_of_none hT nl).symm
  have hS0 := hS.same s0
  have hT0 := s0 _ _ hT
  refine ⟨_, rfl, _, rfl, a, t, ns, zs, _, rfl, hS0, h63, hT0, by omega, by decide, fun n1 H1 hn0 hn1 hT1 st1 => ?_⟩
  have hS1 := hS0.stp hT0 st1
  refine ⟨_, _, rfl, rfl, 1 + n1, rfl, by omega, by omega, fun D hD => ?_⟩
  refine compF_drawsL (n := (1 + n1).toNat) ["a", "b-2", "news", "x", "old-news"] D hD hS1 hT1 (st1 _ _ hlt hl0) hlt (by omega) (by simp; omega) (fun x H5 R5 zs5 hS5 hT5 hl5 hz5 hR5 => ?_) fun u zs2 H2 hul hmem hT2 hl2 st2 hD2 => ?_
  · exact ⟨_, rfl, _, rfl, _, rfl, a, t, ns, zs5, hS5, h63, hT5, by omega, .inl ⟨l, _, rfl, hl5, hlt, by decide, fun x H6 hx hT6 st6 => by obtain ⟨z, hz, rfl⟩ := List.mem_map.mp hx; exact hR5 z H6 hz hT6 st6⟩⟩
  refine ⟨D, _, rfl, .inl ⟨SqL.of hD2, fun tb ntb => ?_⟩⟩
  have s3 := Same.new ntb (.tup (u.map V.str))
  exact q tb u zs2 _ (s3 _ _ hT2) (by rw [hl2]; simp; omega) ((s0.stp.trans (st1.trans st2)).trans (s3.stp (t := t))) upd_same (okA_iff.mpr ⟨by omega, by omega, fun t ht => (names5 t (hmem t ht)).1⟩) fun t ht => (names5 t (hmem t ht)).2
theorem scLRead : FnScope ["_law_text_here", "_law_lines", "_law_rows", "_law_line", "_law_words"] ["_law_text_here"] (defScope sLRead) := ⟨rfl, rfl, rfl, by decide +kernel, rfl, by decide +kernel, by decide +kernel⟩
theorem ok_lread {k : Nat} (F : Fun K "_law_read" "_law_read" sLRead f fd) (G : Blt mg) (hLAre : Has P w K mg base "_law_are" k ["_law_thing"] (spAre K)) : FnOk P w K mg base CX0 (k + 1) f fd ["_law_text_here"] spLRead := by
  refine F.ok scLRead (fun vs H Q E h => ?_) (fun cdv A outer s H vs Q E hr h => ?_)
  · obtain ⟨x, rfl, _⟩ := h
    rfl
  obtain ⟨x, rfl, hx, h19, qy, qn⟩ := h
  refine ⟨_, (pss_cons (ps_set (i := 1) scLRead.nd rfl (Or.inl rfl) (pe_bm PySem.F.plainAttrs_str PySem.F.slot_str_split PySem.F.type_str_split mt_split1 (pv 0) (pa_cons pe_str pa_nil)))
    (pss_cons (ps_set (i := 2) scLRead.nd rfl (Or.inl rfl) (pe_lst pa_nil))
    (pss_cons (ps_for PassesOwn.never rfl (pi_list (pe_slice sl_list (pv 1) po_none (po_some (pe_un un_neg pe_int)))) (pg_name (i := 3) scLRead.nd rfl (Or.inl rfl))
      (pss_cons (ps_set (i := 4) scLRead.nd rfl (Or.inl rfl) (pe_bm PySem.F.plainAttrs_str PySem.F.slot_str_split PySem.F.type_str_split mt_split1 (pv 3) (pa_cons pe_str pa_nil)))
      (pss_cons (ps_if (pt_cmpR op_ne (pe_callB call_len_seq rfl G.len PySem.boot_len (pa_cons (pv 4) pa_nil)) pe_int (nomark _)) (pss_one (ps_ret pe_non)) pss_nil)
      (pss_one (ps_expr (pe_bm PySem.F.plainAttrs_list PySem.F.slot_list_append PySem.F.type_list_append mt_append (pv 2) (pa_cons (pe_tup (pa_cons (pe_callTy call_tuple_of rfl G.tuple boot_tuple (pa_cons (pe_bm PySem.F.plainAttrs_str PySem.F.slot_str_split PySem.F.type_str_split mt_split1 (pe_ix ix_list (pv 4) pe_int fun _ _ => rfl) (pa_cons pe_str pa_nil)) pa_nil)) (pa_cons (pe_callTy call_tuple_of rfl G.tuple boot_tuple (pa_cons (pe_bm PySem.F.plainAttrs_str PySem.F.slot_str_split PySem.F.type_str_split mt_split1 (pe_ix ix_list (pv 4) pe_int fun _ _ => rfl) (pa_cons pe_str pa_nil)) pa_nil)) pa_nil))) pa_nil)))))))
    (pss_cons (ps_if (PW.pt (pw_or (pt_cmpR op_ne (pe_ix ix_list (pv 1) (pe_un un_neg pe_int) fun _ _ => rfl) pe_str (nomark _)) (pw_or1 (pt_not (pt_val (pe_callH hLAre hr rfl (pa_cons (pe_callTy call_tuple_of rfl G.tuple boot_tuple (pa_cons (pv 2) pa_nil)) pa_nil))))))) (pss_one (ps_ret pe_non)) pss_nil)
    (pss_one (ps_ret (pe_callTy call_tuple_of rfl G.tuple boot_tuple (pa_cons (pv 2) pa_nil)))))))), ?_⟩
  have ne := split_ne x "\n"
  obtain ⟨ls, l, e⟩ : ∃ ls l, Txt.split x "\n" = ls ++ [l] := ⟨_, _, (List.dropLast_concat_getLast ne).symm⟩
  refine ⟨_, rfl, rfl, x, _, rfl, rfl, rfl, by omega, fun D hD => ?_⟩
  have s0 := Same.new hD (.lst ((Txt.split x "\n").map V.str))
  have hD0 : (upd H D (.lst ((Txt.split x "\n").map V.str)) : Hp) D = some (.lst (ls.map V.str ++ [.str l])) := by rw [upd_same, e, List.map_append]; rfl
  generalize (upd H D (.lst ((Txt.split x "\n").map V.str)) : Hp) = H0 at *
  refine ⟨big _ (show 0 ≤ 100000 by decide), fun st nst => ?_⟩
  have s1 := Same.new nst (.lst ([] : List V))
  have hst1 : (upd H0 st (.lst ([] : List V)) : Hp) st = some (.lst []) := upd_same
  have hD1 := s1 _ _ hD0
  have hDst : D ≠ st := fun z => by rw [z, nst] at hD0; cases hD0
  generalize (upd H0 st (.lst ([] : List V)) : Hp) = H1 at *
  refine ⟨_, rfl, 1, rfl, -1, rfl, D, _, rfl, SqL.of hD1, fun p np => ?_⟩
  have s2 := Same.new np (.lst (cutV (ls.map V.str ++ [.str l]) none (some (-1))))
  have hp2 : (upd H1 p (.lst (cutV (ls.map V.str ++ [.str l]) none (some (-1)))) : Hp) p = some (.lst (ls.map V.str)) := by rw [upd_same, cut_last]
  generalize (upd H1 p (.lst (cutV (ls.map V.str ++ [.str l]) none (some (-1)))) : Hp) = H2 at *
  have hpst : p ≠ st := fun z => by rw [z] at np; rw [np] at hst1; cases hst1
  have hlast : (Txt.split x "\n").getLast? = some l := by rw [e]; simp
  have hdl : (Txt.split x "\n").dropLast = ls := by rw [e, List.dropLast_concat]
  have hll : ls.length ≤ 18 := by rw [e, List.length_append, List.length_singleton] at h19; omega
  have hls : ∀ y ∈ ls, y.length ≤ 990 := fun y hy => Nat.le_trans (split_part x "\n" y (by rw [e]; exact List.mem_append_left _ hy)) hx
  have s02 := (s0.trans s1).trans s2
  have nsH : H st = none := by
    cases z : H st with
    | none => rfl
    | some o => rw [s0 _ _ z] at nst; cases nst
  refine ⟨p, rfl, ⟨_, SqL.of hp2⟩, ?_⟩
  refine for_list (xs := ls.map V.str) (fun j σ H' => ∃ (v3 v4 : Option V) (rs : List Rx), σ = [some (.str x), some (.ref D), some (.ref st), v3, v4] ∧ Stp st H2 H' ∧ H' st = some (.lst (rrefs rs)) ∧ RlsIn H' rs ∧ rs.map (·.2.2.2) = (ls.take j).map pr ∧ ∀ y ∈ ls.take j, two y)
    ⟨_, _, [], rfl, (Same.refl _).stp, s2 _ _ hst1, (fun z hz => nomatch hz), rfl, fun y hy => by simp at hy⟩ (fun j σ H' _ h => by obtain ⟨_, _, _, _, stp, _⟩ := h; exact SqL.of (stp _ _ hpst hp2)) ?_ ?_
  · rintro j v σ H3 hv ⟨v3, v4, rs, rfl, stp3, hst3, hin3, er3, htw3⟩
    rw [List.getElem?_map] at hv
    obtain ⟨y, hy, rfl⟩ : ∃ y, ls[j]? = some y ∧ V.str y = v := by
      cases hh : ls[j]? with
      | none => rw [hh] at hv; cases hv
      | some y => rw [hh] at hv; injection hv with hv; exact ⟨y, rfl, hv⟩
    have hym := List.mem_of_getElem? hy
    have hyl := hls y hym
    have htk : ls.take (j + 1) = ls.take j ++ [y] := by rw [List.take_add_one, hy]; rfl
    have sH3 : Same H H3 := fun b o eb => stp3 b o (ne_of_none eb nsH) (s02 b o eb)
    refine ⟨_, rfl, rfl, y, _, rfl, rfl, rfl, by omega, fun wl nw => ?_⟩
    have s4 := Same.new nw (.lst ((Txt.split y " ").map V.str))
    have hw4 : (upd H3 wl (.lst ((Txt.split y " ").map V.str)) : Hp) wl = some (.lst ((Txt.split y " ").map V.str)) := upd_same
    generalize (upd H3 wl (.lst ((Txt.split y " ").map V.str)) : Hp) = H4 at *
    refine ⟨_, rfl, wl, _, rfl, .inl (SqL.of hw4), rfl, _, rfl, ?_⟩
    by_cases h2 : two y
    · obtain ⟨a1, a2, e2, ep⟩ := two_is h2
      rw [e2] at hw4
      have hm1 : a1 ∈ Txt.split y " " := by rw [e2]; exact List.mem_cons_self ..
      have hm2 : a2 ∈ Txt.split y " " := by rw [e2]; exact List.mem_cons_of_mem _ (List.mem_cons_self ..)
      have la := split_part y " " a1 hm1
      have lb := split_part y " " a2 hm2
      have hst4 := s4 _ _ hst3
      refine ifN (by rw [List.length_map, h2]; rfl) ⟨.ref st, rfl, .inl ⟨rfl, _, SqL.of hst4⟩, ?_⟩
      refine ⟨_, rfl, wl, _, 0, .str a1, rfl, rfl, SqL.of hw4, rfl, rfl, a1, _, rfl, rfl, rfl, by omega, fun l5 nl5 => ?_⟩
      have s5 := Same.new nl5 (.lst ((Txt.split a1 "/").map V.str))
      have hl5 : (upd H4 l5 (.lst ((Txt.split a1 "/").map V.str)) : Hp) l5 = some (.lst ((Txt.split a1 "/").map V.str)) := upd_same
      generalize (upd H4 l5 (.lst ((Txt.split a1 "/").map V.str)) : Hp) = H5 at *
      refine ⟨l5, _, rfl, .inl ⟨SqL.of hl5, fun t6 nt6 => ?_⟩⟩
      have s6 := Same.new nt6 (.tup ((Txt.split a1 "/").map V.str))
      have ht6 : (upd H5 t6 (.tup ((Txt.split a1 "/").map V.str)) : Hp) t6 = some (.tup ((Txt.split a1 "/").map V.str)) := upd_same
      generalize (upd H5 t6 (.tup ((Txt.split a1 "/").map V.str)) : Hp) = H6 at *
      refine ⟨_, rfl, wl, _, 1, .str a2, rfl, rfl, SqL.of ((s5.trans s6) _ _ hw4), rfl, rfl, a2, _, rfl, rfl, rfl, by omega, fun l7 nl7 => ?_⟩
      have s7 := Same.new nl7 (.lst ((Txt.split a2 "/").map V.str))
      have hl7 : (upd H6 l7 (.lst ((Txt.split a2 "/").map V.str)) : Hp) l7 = some (.lst ((Txt.split a2 "/").map V.str)) := upd_same
      generalize (upd H6 l7 (.lst ((Txt.split a2 "/").map V.str)) : Hp) = H7 at *
      refine ⟨l7, _, rfl, .inl ⟨SqL.of hl7, fun t8 nt8 => ?_⟩⟩
      have s8 := Same.new nt8 (.tup ((Txt.split a2 "/").map V.str))
      have ht8 : (upd H7 t8 (.tup ((Txt.split a2 "/").map V.str)) : Hp) t8 = some (.tup ((Txt.split a2 "/").map V.str)) := upd_same
      generalize (upd H7 t8 (.tup ((Txt.split a2 "/").map V.str)) : Hp) = H8 at *
      refine ⟨big _ (show 2 ≤ 100000 by decide), fun t9 nt9 => ?_⟩
      have s9 := Same.new nt9 (.tup [V.ref t6, V.ref t8])
      have ht9 : (upd H8 t9 (.tup [V.ref t6, V.ref t8]) : Hp) t9 = some (.tup [V.ref t6, V.ref t8]) := upd_same
      generalize (upd H8 t9 (.tup [V.ref t6, V.ref t8]) : Hp) = H9 at *
      have s39 := s4.trans (s5.trans (s6.trans (s7.trans (s8.trans s9))))
      have hst9 := s39 _ _ hst3
      have t10 : TS' H9 (upd H9 st (.lst (rrefs rs ++ [V.ref t9]))) := TS'.lst hst9
      have hrl : rs.length ≤ 18 := by
        have := congrArg List.length er3
        rw [List.length_map, List.length_map, List.length_take] at this
        omega
      refine ⟨st, _, .ref t9, rfl, rfl, hst9, bigl _ (by unfold rrefs; rw [List.length_map]; omega), ?_⟩
      refine ⟨_, _, rs ++ [(t9, t6, t8, pr y)], rfl, fun b o hb eb => ?_, by rw [upd_same]; unfold rrefs; rw [List.map_append]; rfl, fun z hz => ?_, ?_, fun z hz => ?_⟩
      · rw [upd_ne hb]
        exact s39 b o (stp3 b o hb eb)
      · rcases List.mem_append.mp hz with hz | hz
        · exact ((hin3.ts s39.ts).ts t10) z hz
        · rw [List.mem_singleton.mp hz, ep]
          exact ⟨t10 _ _ ht9, t10 _ _ ((s7.trans (s8.trans s9)) _ _ ht6), t10 _ _ (s9 _ _ ht8)⟩
      · rw [htk, List.map_append, List.map_append, er3]
        rfl
      · rw [htk] at hz
        rcases List.mem_append.mp hz with hz | hz
        · exact htw3 z hz
        · rw [List.mem_singleton.mp hz]; exact h2
    · refine ifY (fun z => h2 ?_) ?_
      · injection z with z
        rw [List.length_map] at z
        unfold two
        omega
      · refine qn ?_ H4 (sH3.trans s4)
        unfold rdT
        rw [hdl, rdL_none hym (rdR_not2 h2)]
        split <;> rfl
  · rintro σ H3 ⟨v3, v4, rs, rfl, stp3, hst3, hin3, er3, htw3⟩
    rw [List.length_map, List.take_length] at er3 htw3
    have sH3 : Same H H3 := fun b o eb => stp3 b o (ne_of_none eb nsH) (s02 b o eb)
    have hD3 := stp3 _ _ hDst (s2 _ _ hD1)
    have hrl : rs.length ≤ 18 := by
      have := congrArg List.length er3
      rw [List.length_map, List.length_map] at this
      omega
    refine ⟨_, rfl, 1, rfl, D, _, -1, .str l, rfl, rfl, SqL.of hD3, at_last _ _, rfl, _, rfl, ?_⟩
    by_cases hl : l = ""
    · subst hl
      refine ifN rfl ⟨_, rfl, st, _, rfl, .inl ⟨SqL.of hst3, fun t4 nt4 => ?_⟩⟩
      have s4 := Same.new nt4 (.tup (rrefs rs))
      have ht4 : (upd H3 t4 (.tup (rrefs rs)) : Hp) t4 = some (.tup (rrefs rs)) := upd_same
      generalize (upd H3 t4 (.tup (rrefs rs)) : Hp) = H4 at *
      have hin4 := hin3.ts s4.ts
      have shR : ShortR (rs.map (·.2.2.2)) := fun r hr' => by
        rw [er3] at hr'
        obtain ⟨y, hy, rfl⟩ := List.mem_map.mp hr'
        exact pr_short (hls y hy) (htw3 y hy)
      refine ⟨.ref t4, _, rfl, isTh_rlsG (SqT.of ht4) hin4 shR (by omega), (fun ts e' _ => by injection e' with e'; rw [← e', List.length_map, List.length_map]; exact hrl), fun H5 s5 => ⟨_, rfl, ?_⟩⟩
      rw [er3]
      have sH5 := (sH3.trans s4).trans s5
      by_cases g : GoodR (ls.map pr)
      · rw [areT_rls g]
        have hrt := rdT_some (x := x) (by rw [hdl]; exact rdL_yes htw3 g) hlast
        by_cases nd : ((ls.map pr).map (·.1)).Nodup
        · refine ifN nd ⟨_, rfl, st, _, rfl, .inl ⟨SqL.of ((s4.trans s5) _ _ hst3), fun t6 nt6 => ?_⟩⟩
          have s6 := Same.new nt6 (.tup (rrefs rs))
          exact qy _ t6 _ (by rw [hrt, if_pos nd]) (sH5.trans s6) ⟨rs, upd_same, (hin4.ts s5.ts).ts s6.ts, er3⟩
        · exact ifY nd (qn (by rw [hrt, if_neg nd]) H5 sH5)
      · obtain ⟨n1, n2⟩ := rdL_no htw3 g
        rw [n2]
        refine iteT (qn ?_ H5 sH5)
        unfold rdT
        rw [hdl, n1]
        split <;> rfl
    · refine ifY (fun z => hl (by injection z)) (qn ?_ H3 sH3)
      unfold rdT
      rw [if_neg (by rw [hlast]; intro z; exact hl (Option.some.inj z))]
end
end LW
namespace LW
open PySem L2 Mi Co
def Sm (x : Str) : Prop := ∀ c ∈ x.cps.toList, c < 16 ^ 8
theorem Sm.app {a b : Str} (h1 : Sm a) (h2 : Sm b) : Sm (a ++ b) := fun c hc => by
  rw [app_cps, List.mem_append] at hc
  exact hc.elim (h1 c) (h2 c)
theorem Sm.join {sep : Str} {ws : List Str} (h1 : Sm sep) (h2 : ∀ t ∈ ws, Sm t) : Sm (Str.join sep ws) := fun c hc => by
  rcases join_has sep c ws hc with h | ⟨t, ht, h⟩
  · exact h1 c h
  · exact h2 t ht c h
theorem sm_ws : ∀ c ∈ WSL, c < 16 ^ 8 := by decide
theorem sm_ad {u : List Str} (h : okA u = true) : Sm (adX u) := fun c hc => by
  rcases adX_signs h hc with z | z | z
  · exact sm_ws c z
  · rw [z]; decide
  · rw [z]; decide
theorem sm_blank : Sm " " := by unfold Sm; decide +kernel
theorem sm_feed : Sm "\n" := by unfold Sm; decide +kernel
theorem sm_nil : Sm "" := fun c hc => by
  have e : (("" : Str).cps.toList) = [] := rfl
  rw [e] at hc
  simp at hc
theorem sm_ln {r : Rl} (h1 : okA r.1 = true) (h2 : okA r.2 = true) : Sm (lnX r) := ((sm_ad h1).app sm_blank).app (sm_ad h2)
structure RT (x : Str) : Prop where
  len : x.length ≤ 990
  sm : Sm x
  few : (Txt.split x "\n").length ≤ 19
theorem slice_fromN (w : Str) (k : Nat) : L (Txt.slice w (some (k : Int)) none) = (L w).drop k := by
  have small : ∀ m : Nat, m ≤ w.length → L (Txt.slice w (some (m : Int)) none) = (L w).drop m := fun m h => by
    have := StrLaws.sliceText_from (x := w) (i := (m : Int)) ⟨by omega, by have := len_L w; unfold L at this; omega⟩
    have e : Txt.slice w (some (m : Int)) none = StrLaws.sliceText w (some (m : Int)) none := rfl
    rw [e, this]
    show ((L w).drop ((m : Int)).toNat).take (((L w).length : Int) - (m : Int)).toNat = _
    have e1 : ((m : Int)).toNat = m := by omega
    rw [e1, List.take_of_length_le (by rw [List.length_drop, len_L]; omega)]
  by_cases h : k ≤ w.length
  · exact small k h
  · have e : Txt.slice w (some (k : Int)) none = Txt.slice w (some (w.length : Int)) none := by
      show StrLaws.sliceText w (some (k : Int)) none = StrLaws.sliceText w (some (w.length : Int)) none
      unfold StrLaws.sliceText
      have e1 : Builtin.Str.strSliceIndices (some (k : Int)) none 1 w.length = Builtin.Str.strSliceIndices (some (w.length : Int)) none 1 w.length := by
        have a1 : ¬ ((k : Int) < 0) := by omega
        have a2 : ¬ ((w.length : Int) < 0) := by omega
        have a3 : max (0 : Int) (min (k : Int) (w.length : Int)) = (w.length : Int) := by omega
        have a4 : max (0 : Int) (min (w.length : Int) (w.length : Int)) = (w.length : Int) := by omega
        simp [Builtin.Str.strSliceIndices, a1, a2, a3, a4]
      rw [e1]
    rw [e, small _ (Nat.le_refl _), List.drop_of_length_le (by rw [len_L]; omega), List.drop_of_length_le (by rw [len_L]; omega)]
structure Q3 (x : Str) (n c : Nat) : Prop where
  len : x.length ≤ n
  sm : Sm x
  cnt : x.cps.toList.count 10 ≤ c
theorem Q3.app {a b : Str} {n m c d : Nat} (h1 : Q3 a n c) (h2 : Q3 b m d) : Q3 (a ++ b) (n + m) (c + d) :=
  ⟨by have := h1.len; have := h2.len; rw [app_length]; omega, h1.sm.app h2.sm, by have := h1.cnt; have := h2.cnt; rw [app_cps, List.count_append]; omega⟩
theorem Q3.sub {a b : Str} {n c : Nat} (h : Q3 b n c) (s : a.cps.toList.Sublist b.cps.toList) : Q3 a n c :=
  ⟨by have h1 := s.length_le; have h2 := h.len; have h3 := len_L a; have h4 := len_L b; unfold L at h3 h4; omega, fun x hx => h.sm x (s.subset hx), Nat.le_trans (s.count_le _) h.cnt⟩
theorem Q3.to {x : Str} {n c : Nat} (h : Q3 x n c) (k : Nat) : Q3 (Txt.slice x none (some (k : Int))) n c := h.sub (by have := slice_take x k; unfold L at this; rw [this]; exact List.take_sublist _ _)
theorem Q3.from {x : Str} {n c : Nat} (h : Q3 x n c) (k : Nat) : Q3 (Txt.slice x (some (k : Int)) none) n c := h.sub (by have := slice_fromN x k; unfold L at this; rw [this]; exact List.drop_sublist _ _)
theorem cnt_join : ∀ (ws : List Str), ws ≠ [] → (∀ t ∈ ws, (10 : Nat) ∉ t.cps.toList) → (Str.join ⟨#[10]⟩ ws).cps.toList.count 10 + 1 = ws.length
  | [], h, _ => absurd rfl h
  | [t], _, h => by
    show t.cps.toList.count 10 + 1 = 1
    rw [List.count_eq_zero.mpr (h t (List.mem_singleton.mpr rfl))]
  | t :: u :: r, _, h => by
    have ih := cnt_join (u :: r) (by simp) fun x hx => h x (List.mem_cons_of_mem _ hx)
    rw [join_cons, app_cps, app_cps, List.count_append, List.count_append, List.count_eq_zero.mpr (h t (List.mem_cons_self ..)), List.length_cons]
    show 0 + [10].count 10 + _ + 1 = _
    have : [10].count 10 = 1 := by decide
    rw [this]
    omega
theorem split_cnt (x : Str) : (Txt.split x "\n").length = x.cps.toList.count 10 + 1 := by
  rw [feed_eq]
  have := cnt_join (Txt.split x ⟨#[10]⟩) (split_ne _ _) (StrLaws.split_free x 10)
  rw [StrLaws.join_split] at this
  omega
theorem Q3.rt {x : Str} {n c : Nat} (h : Q3 x n c) (hn : n ≤ 990) (hc : c ≤ 18) : RT x := ⟨Nat.le_trans h.len hn, h.sm, by rw [split_cnt]; have := h.cnt; omega⟩
def Short8 (R : List Rl) : Prop := ∀ r ∈ R, (∀ t ∈ r.1, t.length ≤ 8) ∧ ∀ t ∈ r.2, t.length ≤ 8
theorem ad8 {u : List Str} (h : okA u = true) (h8 : ∀ t ∈ u, t.length ≤ 8) : (adX u).length ≤ 36 := by
  obtain ⟨_, h2, _⟩ := okA_iff.mp h
  have := join_len1 "/" (by decide +kernel) u 8 h8
  unfold adX
  rw [txt_join]
  have : u.length * 9 ≤ 4 * 9 := Nat.mul_le_mul_right _ h2
  omega
theorem ln8 {R : List Rl} (g : GoodR R) (s : Short8 R) : ∀ t ∈ R.map lnX, t.length ≤ 73 := fun t ht => by
  obtain ⟨r, hr, rfl⟩ := List.mem_map.mp ht
  have a := ad8 (g r hr).1 (s r hr).1
  have b := ad8 (g r hr).2 (s r hr).2
  show (lnX r).length ≤ 73
  unfold lnX
  rw [app_length, app_length, len_blank]
  omega
theorem sm_lns {R : List Rl} (g : GoodR R) : ∀ t ∈ R.map lnX, Sm t := fun t ht => by
  obtain ⟨r, hr, rfl⟩ := List.mem_map.mp ht
  exact sm_ln (g r hr).1 (g r hr).2
theorem rw_lines {R : List Rl} (g : GoodR R) : Txt.split (rwX R) "\n" = R.map lnX ++ [("" : Str)] := by
  rw [rwX_eq]
  exact split_lines _ g.no
theorem q3_rw {R : List Rl} (g : GoodR R) (s : Short8 R) (hl : R.length ≤ 6) : Q3 (rwX R) 444 6 := by
  refine ⟨?_, ?_, ?_⟩
  · rw [rwX_eq]
    have := join0_len ((R.map lnX).map (· ++ ("\n" : Str))) 74 fun t ht => by
      obtain ⟨u, hu, rfl⟩ := List.mem_map.mp ht
      have := ln8 g s u hu
      rw [app_length, len_feed]
      omega
    rw [List.length_map, List.length_map] at this
    omega
  · rw [rwX_eq]
    exact Sm.join sm_nil fun t ht => by
      obtain ⟨u, hu, rfl⟩ := List.mem_map.mp ht
      exact (sm_lns g u hu).app sm_feed
  · have := split_cnt (rwX R)
    rw [rw_lines g, List.length_append, List.length_map, List.length_singleton] at this
    omega
theorem q3_const {x : Str} {n c : Nat} (h : (decide (x.length ≤ n) && x.cps.toList.all (fun c => decide (c < 16 ^ 8)) && decide (x.cps.toList.count 10 ≤ c)) = true) : Q3 x n c := by
  simp only [Bool.and_eq_true, decide_eq_true_eq, List.all_eq_true] at h
  exact ⟨h.1.1, h.1.2, h.2⟩
theorem q3_part {x y : Str} {n c : Nat} (h : Q3 x n c) (hy : y ∈ Txt.split x "\n") : Q3 y n 0 := by
  refine ⟨Nat.le_trans (split_part x _ y hy) h.len, fun z hz => h.sm z (split_signs hy hz), ?_⟩
  rw [feed_eq] at hy
  rw [List.count_eq_zero.mpr (StrLaws.split_free x 10 y hy)]
  exact Nat.le_refl _
theorem q3_tail {R : List Rl} (g : GoodR R) (s : Short8 R) (hl : R.length ≤ 6) : Q3 (Txt.join "\n" ((R.map lnX ++ [("" : Str)]).drop 1)) 444 6 := by
  have hw : ∀ t ∈ (R.map lnX ++ [("" : Str)]).drop 1, t.length ≤ 73 ∧ Sm t ∧ (10 : Nat) ∉ t.cps.toList := fun t ht => by
    rcases List.mem_append.mp (List.mem_of_mem_drop ht) with ht | ht
    · exact ⟨ln8 g s t ht, sm_lns g t ht, g.no t ht⟩
    · rw [List.mem_singleton.mp ht]
      exact ⟨by show (0 : Nat) ≤ 73; omega, sm_nil, by have e : (("" : Str).cps.toList) = [] := rfl; rw [e]; simp⟩
  have hll : ((R.map lnX ++ [("" : Str)]).drop 1).length ≤ 6 := by rw [List.length_drop, List.length_append, List.length_map, List.length_singleton]; omega
  rw [txt_join]
  refine ⟨?_, Sm.join sm_feed fun t ht => (hw t ht).2.1, ?_⟩
  · have := join_len1 "\n" len_feed _ 73 fun t ht => (hw t ht).1
    omega
  · by_cases hne : (R.map lnX ++ [("" : Str)]).drop 1 = []
    · rw [hne]
      show ([] : List Nat).count 10 ≤ 6
      simp
    · have := cnt_join _ hne fun t ht => (hw t ht).2.2
      rw [feed_eq]
      omega
theorem told_some {H : Hp} {x : Str} {R : List Rl} {Q : VK} {E : XK} (rt : RT x) (e : rdT x = some R) (h : ∀ p H', Same H H' → RlsAt H' p R → Q (.ref p) H') : spTold [.str x] H Q E :=
  ⟨x, rfl, rt.len, rt.sm, rt.few, (fun R' p H' e' s hp => by rw [e] at e'; obtain rfl := Option.some.inj e'; exact h p H' s hp), fun e' => by rw [e] at e'; cases e'⟩
theorem told_none {H : Hp} {x : Str} {Q : VK} {E : XK} (rt : RT x) (e : rdT x = none) (h : ∀ H', Same H H' → Q (.str "refused") H') : spTold [.str x] H Q E :=
  ⟨x, rfl, rt.len, rt.sm, rt.few, (fun R' p H' e' s hp => by rw [e] at e'; cases e'), fun _ H' s => h H' s⟩
theorem lread_some {H : Hp} {x : Str} {R : List Rl} {Q : VK} {E : XK} (rt : RT x) (e : rdT x = some R) (h : ∀ p H', Same H H' → RlsAt H' p R → Q (.ref p) H') : spLRead [.str x] H Q E :=
  ⟨x, rfl, rt.len, rt.few, (fun R' p H' e' s hp => by rw [e] at e'; obtain rfl := Option.some.inj e'; exact h p H' s hp), fun e' => by rw [e] at e'; cases e'⟩
theorem lread_none {H : Hp} {x : Str} {Q : VK} {E : XK} (rt : RT x) (e : rdT x = none) (h : ∀ H', Same H H' → Q .non H') : spLRead [.str x] H Q E :=
  ⟨x, rfl, rt.len, rt.few, (fun R' p H' e' s hp => by rw [e] at e'; cases e'), fun _ H' s => h H' s⟩
theorem alike_rls {K : PySem.W.Frag} {H : Hp} {a b : Addr} {R : List Rl} (h1 : RlsAt H a R) (h2 : RlsAt H b R) (hl : R.length ≤ 1000) (g : GoodR R) : Alike K H 3 (.ref a) (.ref b) := by
  obtain ⟨qs, ha, hqs, e1⟩ := h1
  obtain ⟨ps, hb, hps, e2⟩ := h2
  have l1 : qs.length = R.length := by rw [← e1, List.length_map]
  have l2 : ps.length = R.length := by rw [← e2, List.length_map]
  refine .inr ⟨a, b, _, _, rfl, rfl, SqT.of ha, SqT.of hb, by unfold rrefs; rw [List.length_map, List.length_map]; omega, by unfold rrefs; rw [List.length_map]; omega, fun i u v hu' hv' => ?_⟩
  unfold rrefs at hu' hv'
  rw [List.getElem?_map] at hu' hv'
  cases h3 : qs[i]? with
  | none => rw [h3] at hu'; cases hu'
  | some q =>
    cases h4 : ps[i]? with
    | none => rw [h4] at hv'; cases hv'
    | some p =>
      rw [h3] at hu'
      rw [h4] at hv'
      cases hu'
      cases hv'
      have e3 : q.2.2.2 = p.2.2.2 := by
        have a1 : R[i]? = some q.2.2.2 := by rw [← e1, List.getElem?_map, h3]; rfl
        have a2 : R[i]? = some p.2.2.2 := by rw [← e2, List.getElem?_map, h4]; rfl
        rw [a1] at a2
        exact Option.some.inj a2
      obtain ⟨k1, k2, k3⟩ := hqs q (List.mem_of_getElem? h3)
      obtain ⟨m1, m2, m3⟩ := hps p (List.mem_of_getElem? h4)
      rw [← e3] at m2 m3
      have gq := g q.2.2.2 (by rw [← e1]; exact List.mem_map.mpr ⟨q, List.mem_of_getElem? h3, rfl⟩)
      refine .inr ⟨q.1, p.1, _, _, rfl, rfl, SqT.of k1, SqT.of m1, rfl, (show 2 ≤ 1000 by decide), fun j x y hx hy => ?_⟩
      match j with
      | 0 => cases hx; cases hy; exact alike_strs' (SqT.of k2) (SqT.of m2) (okA_len gq.1).1
      | 1 => cases hx; cases hy; exact alike_strs' (SqT.of k3) (SqT.of m3) (okA_len gq.2).1
      | _ + 2 => cases hx
theorem same_at {K : PySem.W.Frag} {H : Hp} {x y : V} {Q : VK} {E : XK} (h : Alike K H 3 x y) (q : ∀ H', Same H H' → Q (.bl true) H') : spSame K 4 [x, y] H Q E := ⟨x, y, rfl, h, q⟩
theorem al_str {K : PySem.W.Frag} {H : Hp} (x : Str) : Alike K H 3 (.str x) (.str x) := .inl (.inr (.inr (.inr ⟨x, rfl, rfl⟩)))
theorem al_bl {K : PySem.W.Frag} {H : Hp} (b : Bool) : Alike K H 3 (.bl b) (.bl b) := .inl (.inr (.inl ⟨b, rfl, rfl⟩))
end LW
namespace LW
open PySem L2 Mi Co
theorem Q3.from1 {x : Str} {n c : Nat} (h : Q3 x n c) (k : Nat) : Q3 (Txt.slice x (some ((k : Int) + 1)) none) n c := by
  have := h.from (k + 1)
  rw [show ((k + 1 : Nat) : Int) = (k : Int) + 1 by omega] at this
  exact this
def SIGNS : List Str := ["a", " ", "/", "-", "\n", "A", "9"]
theorem signs_chk : (SIGNS.all fun x => decide (x.length ≤ 1) && x.cps.toList.all (fun c => decide (c < 16 ^ 8)) && decide (x.cps.toList.count 10 ≤ 1)) = true := by decide +kernel
theorem signs_ok {z : Str} (h : z ∈ SIGNS) : Q3 z 1 1 := q3_const (List.all_eq_true.mp signs_chk z h)
theorem at_first {α : Type} (x : α) (xs : List α) : atI (x :: xs) 0 = some x := by
  have e : ixN (x :: xs).length 0 = some 0 := by
    unfold ixN
    rw [if_pos (by decide), if_pos (by rw [List.length_cons]; omega)]
    rfl
  unfold atI
  rw [e]
  rfl
theorem rdT_facts {x : Str} {R : List Rl} (rt : RT x) (h : rdT x = some R) : GoodR R ∧ R.length ≤ 1000 := by
  unfold rdT at h
  split at h
  · cases h1 : rdL (Txt.split x "\n").dropLast with
    | none => rw [h1] at h; cases h
    | some R' =>
      rw [h1] at h
      have h' : (if (R'.map (·.1)).Nodup then some R' else none) = some R := h
      split at h'
      · obtain rfl := Option.some.inj h'
        refine ⟨rdL_good h1, ?_⟩
        have := rdL_len h1
        rw [List.length_dropLast] at this
        have := rt.few
        omega
      · cases h'
  · cases h
theorem areTh_rls {K : PySem.W.Frag} {H : Hp} {rs : List Rx} (hin : RlsIn H rs) (hg : GoodR (rs.map (·.2.2.2))) : AreTh K H ((rs.map (·.2.2.2)).map rlD) (rrefs rs) := by
  rw [List.map_map]
  exact AreTh.of _ _ rs fun x hx => isTh_rl (hin x hx) (hg _ (List.mem_map.mpr ⟨x, hx, rfl⟩)).1 (hg _ (List.mem_map.mpr ⟨x, hx, rfl⟩)).2
theorem th_cat {K : PySem.W.Frag} {H : Hp} {e : Addr} {rs : List Rx} {R : List Rl} {vs : List V} {ts : List Thing} (he : H e = some (.tup (rrefs rs ++ vs))) (hin : RlsIn H rs) (eR : rs.map (·.2.2.2) = R) (hg : GoodR R) (hl : R.length ≤ 6) (hv : vs.length ≤ 6) (hts : AreTh K H ts vs) : IsTh K H (.tup (R.map rlD ++ ts)) (.ref e) := by
  subst eR
  refine ⟨e, _, rfl, SqT.of he, ?_, (areTh_rls hin hg).app hts⟩
  rw [List.length_map] at hl
  unfold rrefs
  rw [List.length_append, List.length_map]
  omega
def Few (t : Thing) : Prop := ∀ ts, t = .tup ts → ts.length ≤ 18
theorem few_cat {R : List Rl} {ts : List Thing} (hl : R.length ≤ 6) (ht : ts.length ≤ 6) : Few (.tup (R.map rlD ++ ts)) := fun us e => by
  injection e with e
  rw [← e, List.length_append, List.length_map]
  omega
theorem are_at {K : PySem.W.Frag} {H : Hp} {v : V} {t : Thing} {Q : VK} {E : XK} (h : IsTh K H t v) (f : Few t) (q : ∀ H', Same H H' → Q (.bl (areT t)) H') : spAre K [v] H Q E := ⟨v, t, rfl, h, (fun ts e _ => f ts e), q⟩
theorem isTh_str {K : PySem.W.Frag} {H : Hp} {x : Str} (h : x.length ≤ 1000) : IsTh K H (.txt x) (.str x) := ⟨rfl, h⟩
theorem isTh_strs {K : PySem.W.Frag} {H : Hp} {a : Addr} (u : List Str) (h : H a = some (.tup (u.map V.str))) (hl : u.length ≤ 1000) (hs : ∀ t ∈ u, t.length ≤ 1000) : IsTh K H (adD u) (.ref a) := isTh_ad (SqT.of h) hl hs
section
variable {P : Program} {w : World} {K : PySem.W.Frag} {mg : Str → Option Value} {base : Heap} {f : Addr} {fd : FuncData}
theorem scLaw : FnScope ["_law_script", "_law_town", "_law_k", "_law_rows", "_law_j", "_law_row", "_law_text_here", "_law_at", "_law_sign", "_law_texts", "_law_lines", "_law_thing", "_law_things"] ["_law_script"] (defScope sLaw) := ⟨rfl, rfl, rfl, by decide +kernel, rfl, by decide +kernel, by decide +kernel⟩
theorem ndL0 : (["_law_one", "_law_other"] : List Str).Nodup := by decide +kernel
theorem ok_law {k : Nat} (F : Fun K "law" "law" sLaw f fd) (G : Blt mg) (hDraw : Has P w K mg base "_law_draw" k ["_law_script", "_law_town", "_law_many"] (spDraw K)) (hPick : Has P w K mg base "_law_pick" k ["_law_script", "_law_town", "_law_some"] (spPick K)) (hDAddr : Has P w K mg base "_law_address" k ["_law_script", "_law_town"] (spDAddr K))
    (hLText : Has P w K mg base "_law_text" k ["_law_rows"] spRText) (hRText : Has P w K mg base "rows_text" k ["rows"] spRText) (hSame : Has P w K mg base "_law_same" k ["_law_told_here", "_law_due"] (spSame K 4)) (hTold : Has P w K mg base "_law_told" k ["_law_text_here"] spTold) (hOr : Has P w K mg base "_law_or" k ["_law_due"] spOr)
    (hLRead : Has P w K mg base "_law_read" k ["_law_text_here"] spLRead) (hAre : Has P w K mg base "are_rows" k ["thing"] (spAre K)) (hLAre : Has P w K mg base "_law_are" k ["_law_thing"] (spAre K)) :
    FnOk P w K mg base CX0 (k + 1) f fd ["_law_script"] (spLaw K) := by
  refine F.ok scLaw (fun vs H Q E h => ?_) (fun cdv A outer s H vs Q E hr h => ?_)
  · obtain ⟨a, ns, rfl, _⟩ := h
    rfl
  obtain ⟨a, ns, rfl, hS, h63, q⟩ := h
  refine ⟨_, (pss_cons (ps_set (i := 1) scLaw.nd rfl (Or.inl rfl) (pe_lst pa_nil))
    (pss_cons (ps_for PassesOwn.never rfl (pi_range1 rfl G.range (pa_cons pe_int pa_nil)) (pg_name (i := 2) scLaw.nd rfl (Or.inl rfl))
      (pss_cons (ps_set (i := 3) scLaw.nd rfl (Or.inl rfl) (pe_tup pa_nil))
      (pss_cons (ps_for PassesOwn.never rfl (pi_range1 rfl G.range (pa_cons (pe_callH hDraw hr rfl (pa_cons (pv 0) (pa_cons (pv 1) (pa_cons pe_int pa_nil)))) pa_nil)) (pg_name (i := 4) scLaw.nd rfl (Or.inl rfl))
        (pss_cons (ps_set (i := 5) scLaw.nd rfl (Or.inl rfl) (pe_tup (pa_cons (pe_callH hDAddr hr rfl (pa_cons (pv 0) (pa_cons (pv 1) pa_nil))) (pa_cons (pe_callH hDAddr hr rfl (pa_cons (pv 0) (pa_cons (pv 1) pa_nil))) pa_nil))))
        (pss_one (ps_if (pt_cmpR (op_notInD (hu8 hr)) (pe_ix ix_tup (pv 5) pe_int fun _ _ => rfl) (pe_compF (te := (tVar 0)) (xs := ["_law_one", "_law_other"]) (ys := []) (js := []) (g := (gTup K 2 (gCons (gName 0) (gCons (gName 1) gNil)))) rfl (by decide +kernel) (by decide +kernel) rfl (by decide +kernel) trivial
      (pi_tup (pv 3)) (fun _ _ _ _ _ => (pg_tup rfl (pgs_cons (pg_name (i := 0) ndL0 rfl (Or.inl rfl) (.inr rfl)) (pgs_cons (pg_name (i := 1) ndL0 rfl (Or.inl rfl) (.inr rfl)) pgs_nil)))) (fun _ _ _ _ _ => pts_nil) (fun _ _ _ _ _ => (pv 0))) (by with_unfolding_all rfl)) (pss_one (ps_set (i := 3) scLaw.nd rfl (Or.inl rfl) (pe_op op_catH (pv 3) (pe_tup (pa_cons (pv 5) pa_nil))))) pss_nil))))
      (pss_cons (ps_set (i := 6) scLaw.nd rfl (Or.inl rfl) (pe_callH hLText hr rfl (pa_cons (pv 3) pa_nil)))
      (pss_cons (ps_if (PW.pt (pw_or (pt_not (pt_val (pe_callH hSame hr rfl (pa_cons (pe_callH hRText hr rfl (pa_cons (pv 3) pa_nil)) (pa_cons (pv 6) pa_nil))))) (pw_or1 (pt_not (pt_val (pe_callH hSame hr rfl (pa_cons (pe_callH hTold hr rfl (pa_cons (pv 6) pa_nil)) (pa_cons (pv 3) pa_nil)))))))) pss_never pss_nil)
      (pss_cons (ps_set (i := 7) scLaw.nd rfl (Or.inl rfl) (pe_callH hDraw hr rfl (pa_cons (pv 0) (pa_cons (pv 1) (pa_cons (pe_op op_add (pe_callB call_len_str rfl G.len PySem.boot_len (pa_cons (pv 6) pa_nil)) pe_int) pa_nil)))))
      (pss_cons (ps_set (i := 8) scLaw.nd rfl (Or.inl rfl) (pe_callH hPick hr rfl (pa_cons (pv 0) (pa_cons (pv 1) (pa_cons (pe_lst (pa_cons pe_str (pa_cons pe_str (pa_cons pe_str (pa_cons pe_str (pa_cons pe_str (pa_cons pe_str (pa_cons pe_str pa_nil)))))))) pa_nil)))))
      (pss_cons (ps_set (i := 9) scLaw.nd rfl (Or.inl rfl) (pe_lst (pa_cons (pe_op op_add_str (pe_op op_add_str (pe_slice sl_str (pv 6) po_none (po_some (pv 7))) (pv 8)) (pe_slice sl_str (pv 6) (po_some (pv 7)) po_none)) (pa_cons (pe_op op_add_str (pe_slice sl_str (pv 6) po_none (po_some (pv 7))) (pe_slice sl_str (pv 6) (po_some (pe_op op_add (pv 7) pe_int)) po_none)) (pa_cons (pe_op op_add_str (pe_op op_add_str (pe_slice sl_str (pv 6) po_none (po_some (pv 7))) (pv 8)) (pe_slice sl_str (pv 6) (po_some (pe_op op_add (pv 7) pe_int)) po_none)) pa_nil)))))
      (pss_cons (ps_set (i := 10) scLaw.nd rfl (Or.inl rfl) (pe_bm PySem.F.plainAttrs_str PySem.F.slot_str_split PySem.F.type_str_split mt_split1 (pv 6) (pa_cons pe_str pa_nil)))
      (pss_cons (ps_set (i := 9) scLaw.nd rfl (Or.inl rfl) (pe_op op_cat (pv 9) (pe_lst (pa_cons (pe_op op_add_str (pv 6) pe_str) (pa_cons (pe_op op_add_str (pe_op op_add_str (pv 6) (pe_ix ix_list (pv 10) pe_int fun _ _ => rfl)) pe_str) (pa_cons (pe_bm PySem.F.plainAttrs_str PySem.F.slot_str_join PySem.F.type_str_join mt_join pe_str (pa_cons (pe_slice sl_list (pv 10) (po_some pe_int) po_none) pa_nil)) (pa_cons pe_str (pa_cons pe_str (pa_cons pe_str (pa_cons pe_str pa_nil))))))))))
      (pss_cons (ps_for PassesOwn.never rfl (pi_list (pv 9)) (pg_name (i := 11) scLaw.nd rfl (Or.inl rfl))
        (pss_one (ps_if (pt_not (pt_val (pe_callH hSame hr rfl (pa_cons (pe_callH hTold hr rfl (pa_cons (pv 11) pa_nil)) (pa_cons (pe_callH hOr hr rfl (pa_cons (pe_callH hLRead hr rfl (pa_cons (pv 11) pa_nil)) pa_nil)) pa_nil))))) pss_never pss_nil)))
      (pss_cons (ps_set (i := 12) scLaw.nd rfl (Or.inl rfl) (pe_lst (pa_cons (pv 3) (pa_cons (pe_callTy call_list_of rfl G.list boot_list (pa_cons (pv 3) pa_nil)) (pa_cons (pe_op op_catH (pv 3) (pe_slice sl_tupH (pv 3) po_none (po_some pe_int))) (pa_cons (pe_op op_catH (pv 3) (pe_tup (pa_cons (pe_tup (pa_cons (pe_tup (pa_cons pe_str pa_nil)) (pa_cons pe_str pa_nil))) pa_nil))) (pa_cons (pe_op op_catH (pv 3) (pe_tup (pa_cons (pe_tup (pa_cons (pe_tup (pa_cons pe_str pa_nil)) pa_nil)) pa_nil))) (pa_cons pe_non (pa_cons pe_int (pa_cons (pe_tup (pa_cons pe_str (pa_cons pe_str pa_nil))) pa_nil))))))))))
      (pss_one (ps_for PassesOwn.never rfl (pi_list (pe_op op_cat (pv 12) (pe_lst (pa_cons (pe_op op_catH (pv 3) (pe_tup (pa_cons (pe_tup (pa_cons (pe_tup (pa_cons pe_str pa_nil)) (pa_cons (pe_tup (pa_cons pe_str pa_nil)) pa_nil))) pa_nil))) (pa_cons (pe_tup (pa_cons (pv 3) pa_nil)) (pa_cons (pe_tup (pa_cons (pe_tup (pa_cons (pe_op op_mulT (pe_tup (pa_cons pe_str pa_nil)) pe_int) (pa_cons (pe_tup (pa_cons pe_str pa_nil)) pa_nil))) pa_nil)) pa_nil)))))) (pg_name (i := 11) scLaw.nd rfl (Or.inl rfl))
        (pss_one (ps_if (pt_not (pt_val (pe_callH hSame hr rfl (pa_cons (pe_callH hAre hr rfl (pa_cons (pv 11) pa_nil)) (pa_cons (pe_callH hLAre hr rfl (pa_cons (pv 11) pa_nil)) pa_nil))))) pss_never pss_nil))))))))))))))))
    (pss_one (ps_ret pe_bl)))), ?_⟩
  refine ⟨big _ (by simp), fun t nt => ?_⟩
  have s0 := Same.new nt (.lst ([] : List V))
  have ht : (upd H t (.lst ([] : List V)) : Hp) t = some (.lst []) := upd_same
  refine ⟨8, rfl, by decide, by decide, ?_⟩
  refine for_range (n := 8) (fun i σ H' => ∃ v2 v3 v4 v5 v6 v7 v8 v9 v10 v11 v12 : Option V, σ = [some (.ref a), some (.ref t), v2, v3, v4, v5, v6, v7, v8, v9, v10, v11, v12] ∧ St1 K a t ns (80 * i) H')
    ⟨_, _, _, _, _, _, _, _, _, _, _, rfl, ⟨[], ht, by simp⟩, hS.same s0⟩ ?_ (fun σ H' _ => q H')
  rintro i σ H1 hi ⟨v2, v3, v4, v5, v6, v7, v8, v9, v10, v11, v12, rfl, hW1⟩
  refine ⟨big _ (by simp), fun p0 np0 => ?_⟩
  have s2 := Same.new np0 (.tup ([] : List V))
  have hp0 : (upd H1 p0 (.tup ([] : List V)) : Hp) p0 = some (.tup []) := upd_same
  generalize (upd H1 p0 (.tup ([] : List V)) : Hp) = H2 at *
  have hW2 := hW1.same s2
  obtain ⟨zs2, hz2, hy2⟩ := hW2.1
  refine ⟨_, rfl, _, rfl, a, t, ns, zs2, 7, rfl, hW2.2, h63, hz2, by omega, by decide, fun mm H3 hm0 hm1 hT3 st3 => ?_⟩
  obtain ⟨hW3, ts3⟩ := hW2.drawn (m := 80 * i + 1) hz2 hT3 (by rw [List.length_append, List.length_singleton]; omega) st3
  refine ⟨mm, rfl, by omega, by omega, ?_⟩
  refine for_range (n := mm.toNat) (fun j σ H' => ∃ (v4 v5 : Option V) (p : Addr) (R : List Rl), σ = [some (.ref a), some (.ref t), some (.int (0 + (i : Int))), some (.ref p), v4, v5, v6, v7, v8, v9, v10, v11, v12] ∧ St1 K a t ns (80 * i + 1 + 10 * j) H' ∧ RlsAt H' p R ∧ GoodR R ∧ Short8 R ∧ (R.map (·.1)).Nodup ∧ R.length ≤ j)
    ⟨_, _, p0, [], rfl, hW3, ⟨[], ts3 _ _ hp0, (fun x hx => nomatch hx), rfl⟩, (fun r hr => nomatch hr), (fun r hr => nomatch hr), List.nodup_nil, Nat.le_refl _⟩ ?_ ?_
  · rintro j σ H4 hj ⟨v4, v5, p, R, rfl, hW4, hR4, g4, s84, nd4, hl4⟩
    obtain ⟨zs4, hz4, hy4⟩ := hW4.1
    refine ⟨_, rfl, _, rfl, a, t, ns, zs4, rfl, hW4.2, h63, hz4, by omega, fun q1 u1 zs5 H5 hT5 hl5 st5 hq5 ok5 s85 => ?_⟩
    obtain ⟨hW5, ts5⟩ := hW4.drawn (m := 80 * i + 1 + 10 * j + 5) hz4 hT5 (by omega) st5
    refine ⟨_, rfl, _, rfl, a, t, ns, zs5, rfl, hW5.2, h63, hT5, by omega, fun q2 u2 zs6 H6 hT6 hl6 st6 hq6 ok6 s86 => ?_⟩
    obtain ⟨hW6, ts6⟩ := hW5.drawn (m := 80 * i + 1 + 10 * j + 10) hT5 hT6 (by omega) st6
    refine ⟨big _ (show 2 ≤ 100000 by decide), fun q3 nq3 => ?_⟩
    have s7 := Same.new nq3 (.tup [V.ref q1, V.ref q2])
    have h7 : (upd H6 q3 (.tup [V.ref q1, V.ref q2]) : Hp) q3 = some (.tup [V.ref q1, V.ref q2]) := upd_same
    generalize (upd H6 q3 (.tup [V.ref q1, V.ref q2]) : Hp) = H7 at *
    have hR7 := (hR4.ts (ts5.trans ts6)).same s7
    have hq17 : TupA H7 q1 u1 := s7 _ _ (ts6 _ _ hq5)
    have hq27 : TupA H7 q2 u2 := s7 _ _ hq6
    obtain ⟨rs, hp7, hin7, eR⟩ := id hR7
    have lrs : rs.length = R.length := by rw [← eR, List.length_map]
    refine ⟨_, rfl, q3, [.ref q1, .ref q2], 0, .ref q1, rfl, rfl, SqT.of h7, rfl, ?_⟩
    refine ⟨_, rfl, p, rfl, ⟨_, SqT.of hp7⟩, fun D hD => ?_⟩
    refine compF_gen2 (rs := rs) (fun x => x.1) (fun x => .ref x.2.1) (fun x => .ref x.2.2.1) (fun x => .ref x.2.1) (fun _ => true) D hD (tells_tup (SqT.of hp7)) (fun x hx => (hin7 x hx).1) (bigl _ (by omega)) ?_ ?_ ?_
    · intro r H8 Rr hr' _ hR
      exact hR H8 (Same.refl H8)
    · intro x H8 Rr hx _ s8 hR
      exact ⟨_, rfl, hR H8 (Same.refl H8)⟩
    · intro H8 s8 hD8
      rw [List.filter_eq_self.mpr (fun _ _ => rfl)] at hD8
      have hR8 := hR7.same s8
      have eD : rs.map (fun x => x.2.2.2.1) = R.map (·.1) := by rw [← eR, List.map_map]; rfl
      refine ⟨D, (rs.map (fun x => x.2.2.2.1)).map tupD, tupD u1, _, str_dat (s8 _ _ hq17), rfl, .inl (SqL.of hD8), ?_, ?_, _, rfl, ?_⟩
      · rw [List.map_map]
        exact are_map fun z hz => str_dat (s8 _ _ (hin7 z hz).2.1)
      · have := deeps_map (f := tupD) (n := 1) (L := rs.map (fun x => x.2.2.2.1)) fun u _ => by show Dat.deeps _ + 1 ≤ 1; rw [deeps0']; exact Nat.le_refl _
        omega
      show if (!((rs.map (fun x => x.2.2.2.1)).map tupD).any (fun d => Dat.beq d (tupD u1))) = true then _ else _
      rw [any_keys, eD]
      have hW8 : St1 K a t ns (80 * i + 1 + 10 * (j + 1)) H8 := ((hW6.same s7).same s8).up (by omega)
      by_cases hk : u1 ∈ R.map (·.1)
      · exact ifN hk ⟨_, _, p, R, rfl, hW8, hR8, g4, s84, nd4, by omega⟩
      · refine ifY hk ⟨_, rfl, _, rfl, big _ (show 1 ≤ 100000 by decide), fun c nc => ?_⟩
        have s9 := Same.new nc (.tup [V.ref q3])
        have h9 : (upd H8 c (.tup [V.ref q3]) : Hp) c = some (.tup [V.ref q3]) := upd_same
        generalize (upd H8 c (.tup [V.ref q3]) : Hp) = H9 at *
        refine ⟨p, c, _, _, rfl, rfl, s9 _ _ (s8 _ _ hp7), h9, big _ (by unfold rrefs; rw [List.length_map, List.length_singleton]; omega), fun p' H10 s10 hp10 => ?_⟩
        have s810 := s9.trans s10
        refine ⟨_, _, p', R ++ [(u1, u2)], rfl, hW8.same s810, ⟨rs ++ [(q3, q1, q2, (u1, u2))], by rw [hp10]; unfold rrefs; rw [List.map_append]; rfl, fun z hz => ?_, by rw [List.map_append, eR]; rfl⟩, fun r hr' => ?_, fun r hr' => ?_, ?_, by rw [List.length_append, List.length_singleton]; omega⟩
        · rcases List.mem_append.mp hz with hz | hz
          · exact (hin7.ts (s8.trans s810).ts) z hz
          · rw [List.mem_singleton.mp hz]
            exact ⟨(s8.trans s810) _ _ h7, (s8.trans s810) _ _ hq17, (s8.trans s810) _ _ hq27⟩
        · rcases List.mem_append.mp hr' with hr' | hr'
          · exact g4 r hr'
          · rw [List.mem_singleton.mp hr']; exact ⟨ok5, ok6⟩
        · rcases List.mem_append.mp hr' with hr' | hr'
          · exact s84 r hr'
          · rw [List.mem_singleton.mp hr']; exact ⟨s85, s86⟩
        · rw [List.map_append, List.nodup_append]
          refine ⟨nd4, by simp, fun y hy z hz e => hk ?_⟩
          have : z = u1 := by simpa using hz
          rw [← this, ← e]
          exact hy
  rintro σ H4 ⟨v4, v5, p, R, rfl, hW4, hR4, g4, s84, nd4, hl4⟩
  have hRl : R.length ≤ 6 := by omega
  have qT := q3_rw g4 s84 hRl
  have hTl := qT.len
  have rtT := qT.rt (by decide) (by decide)
  refine ⟨_, rfl, p, R, rfl, hR4, g4, by omega, fun H5 s5 => ?_⟩
  refine ⟨_, rfl, p, R, rfl, hR4.same s5, g4, by omega, fun H6 s6 => ?_⟩
  refine ⟨_, rfl, ?_⟩
  dsimp only [tNil, List.cons_append, List.nil_append, List.append_nil]
  refine same_at (al_str _) fun H7 s7 => ⟨_, rfl, iteF ?_⟩
  have s47 := s5.trans (s6.trans s7)
  refine ⟨_, rfl, ?_⟩
  dsimp only [tNil, List.cons_append, List.nil_append, List.append_nil]
  refine told_some rtT (rdT_yes g4 nd4) fun q8 H8 s8 hq8 => ⟨_, rfl, ?_⟩
  dsimp only [tNil, List.cons_append, List.nil_append, List.append_nil]
  refine same_at (alike_rls hq8 (hR4.same (s47.trans s8)) (by omega) g4) fun H9 s9 => ⟨_, rfl, iteF ?_⟩
  have s49 := (s47.trans s8).trans s9
  have hW9 := hW4.same s49
  have hR9 := hR4.same s49
  obtain ⟨zs9, hz9, hy9⟩ := hW9.1
  refine ⟨_, rfl, _, rfl, _, rfl, _, rfl, big _ (by omega), _, _, rfl, rfl, a, t, ns, zs9, _, rfl, hW9.2, h63, hz9, by omega, by omega, fun r1 H10 hr0 hr1 hT10 st10 => ?_⟩
  obtain ⟨k1, rfl⟩ := Int.eq_ofNat_of_zero_le hr0
  obtain ⟨hW10, ts10⟩ := hW9.drawn (m := 80 * i + 70) hz9 hT10 (by rw [List.length_append, List.length_singleton]; omega) st10
  refine ⟨_, rfl, _, rfl, big _ (show 7 ≤ 100000 by decide), fun l11 nl11 => ?_⟩
  have s11 := Same.new nl11 (.lst [V.str "a", V.str " ", V.str "/", V.str "-", V.str "\n", V.str "A", V.str "9"])
  have h11 : (upd H10 l11 (.lst [V.str "a", V.str " ", V.str "/", V.str "-", V.str "\n", V.str "A", V.str "9"]) : Hp) l11 = some (.lst (SIGNS.map V.str)) := upd_same
  have hlt : l11 ≠ t := (ne_of_none hT10 nl11).symm
  generalize (upd H10 l11 (.lst [V.str "a", V.str " ", V.str "/", V.str "-", V.str "\n", V.str "A", V.str "9"]) : Hp) = H11 at *
  have hW11 := hW10.same s11
  have hT11 := s11 _ _ hT10
  refine ⟨a, t, ns, _, hW11.2, h63, hT11, by rw [List.length_append, List.length_singleton]; omega, .inl ⟨l11, _, rfl, h11, hlt, by decide, fun x H12 hx hT12 st12 => ?_⟩⟩
  obtain ⟨zz, hzz, rfl⟩ := List.mem_map.mp hx
  obtain ⟨hW12, ts12⟩ := hW11.drawn (m := 80 * i + 80) hT11 hT12 (by simp only [List.length_append, List.length_singleton]; omega) st12
  have hR12 := ((hR9.ts ts10).same s11).ts ts12
  have qS := signs_ok hzz
  have hzl := qS.len
  have a1 := (qT.to k1).len
  have a2 := (qT.from k1).len
  have a3 := (qT.from1 k1).len
  obtain ⟨T, hTeq⟩ : ∃ T, T = rwX R := ⟨_, rfl⟩
  rw [← hTeq] at qT hTl a1 a2 a3 rtT ⊢
  -- three texts
  refine ⟨_, rfl, _, rfl, (k1 : Int), rfl, _, rfl, big _ (by omega), _, rfl, _, _, rfl, rfl, big _ (by omega), _, rfl, _, rfl, (k1 : Int), rfl, _, rfl, big _ (by omega), _, _, rfl, rfl, big _ (by rw [app_length]; omega), ?_⟩
  refine ⟨_, rfl, _, rfl, (k1 : Int), rfl, _, rfl, big _ (by omega), _, rfl, _, rfl, _, _, rfl, rfl, _, rfl, _, rfl, big _ (by omega), _, _, rfl, rfl, big _ (by omega), ?_⟩
  refine ⟨_, rfl, _, rfl, (k1 : Int), rfl, _, rfl, big _ (by omega), _, rfl, _, _, rfl, rfl, big _ (by omega), _, rfl, _, rfl, _, _, rfl, rfl, _, rfl, _, rfl, big _ (by omega), _, _, rfl, rfl, big _ (by rw [app_length]; omega), ?_⟩
  refine ⟨big _ (show 3 ≤ 100000 by decide), fun l13 nl13 => ?_⟩
  have x1 : Q3 (Txt.slice T none (some (k1 : Int)) ++ zz ++ Txt.slice T (some (k1 : Int)) none) (444 + 1 + 444) (6 + 1 + 6) := ((qT.to k1).app qS).app (qT.from k1)
  have x2 : Q3 (Txt.slice T none (some (k1 : Int)) ++ Txt.slice T (some ((k1 : Int) + 1)) none) (444 + 444) (6 + 6) := (qT.to k1).app (qT.from1 k1)
  have x3 : Q3 (Txt.slice T none (some (k1 : Int)) ++ zz ++ Txt.slice T (some ((k1 : Int) + 1)) none) (444 + 1 + 444) (6 + 1 + 6) := ((qT.to k1).app qS).app (qT.from1 k1)
  generalize (Txt.slice T none (some (k1 : Int)) ++ zz ++ Txt.slice T (some (k1 : Int)) none) = t1 at *
  generalize (Txt.slice T none (some (k1 : Int)) ++ Txt.slice T (some ((k1 : Int) + 1)) none) = t2 at *
  generalize (Txt.slice T none (some (k1 : Int)) ++ zz ++ Txt.slice T (some ((k1 : Int) + 1)) none) = t3 at *
  have s13 := Same.new nl13 (.lst [V.str t1, V.str t2, V.str t3])
  have h13 : (upd H12 l13 (.lst [V.str t1, V.str t2, V.str t3]) : Hp) l13 = some (.lst [V.str t1, V.str t2, V.str t3]) := upd_same
  generalize (upd H12 l13 (.lst [V.str t1, V.str t2, V.str t3]) : Hp) = H13 at *
  -- its lines
  refine ⟨_, rfl, rfl, T, _, rfl, rfl, rfl, by omega, fun l14 nl14 => ?_⟩
  have eL : Txt.split T "\n" = R.map lnX ++ [("" : Str)] := by rw [hTeq]; exact rw_lines g4
  obtain ⟨y0, rest, eY⟩ : ∃ y0 rest, R.map lnX ++ [("" : Str)] = y0 :: rest := by
    cases hh : R.map lnX ++ [("" : Str)] with
    | nil => simp at hh
    | cons y0 rest => exact ⟨y0, rest, rfl⟩
  have qY : Q3 y0 444 0 := q3_part qT (by rw [eL, eY]; exact List.mem_cons_self ..)
  have hyl := qY.len
  have s14 := Same.new nl14 (.lst ((Txt.split T "\n").map V.str))
  have h14 : (upd H13 l14 (.lst ((Txt.split T "\n").map V.str)) : Hp) l14 = some (.lst ((y0 :: rest).map V.str)) := by rw [upd_same, eL, eY]
  generalize (upd H13 l14 (.lst ((Txt.split T "\n").map V.str)) : Hp) = H14 at *
  have x4 : Q3 (T ++ "\n") (444 + 1) (6 + 1) := qT.app (q3_const (by decide +kernel))
  have x5 : Q3 (T ++ y0 ++ "\n") (444 + 444 + 1) (6 + 0 + 1) := (qT.app qY).app (q3_const (by decide +kernel))
  have x6 : Q3 (Txt.join "\n" rest) 444 6 := by
    have := q3_tail g4 s84 hRl
    rw [eY] at this
    exact this
  refine ⟨_, rfl, _, rfl, _, _, rfl, rfl, big _ (by rw [len_feed]; omega), ?_⟩
  refine ⟨_, rfl, _, rfl, l14, _, 0, .str y0, rfl, rfl, SqL.of h14, at_first _ _, _, _, rfl, rfl, big _ (by omega), _, _, rfl, rfl, big _ (by rw [app_length, len_feed]; omega), ?_⟩
  refine ⟨rfl, _, rfl, 1, rfl, l14, _, rfl, SqL.of h14, fun l15 nl15 => ?_⟩
  have e15 : cutV ((y0 :: rest).map V.str) (some (1 : Int)) none = rest.map V.str := cut_fromS (y0 :: rest) 1
  have s15 := Same.new nl15 (.lst (cutV ((y0 :: rest).map V.str) (some (1 : Int)) none))
  have h15 : (upd H14 l15 (.lst (cutV ((y0 :: rest).map V.str) (some (1 : Int)) none)) : Hp) l15 = some (.lst (rest.map V.str)) := by rw [upd_same, e15]
  generalize (upd H14 l15 (.lst (cutV ((y0 :: rest).map V.str) (some (1 : Int)) none)) : Hp) = H15 at *
  have hrest : ∀ t ∈ rest, t.length ≤ 444 := fun t ht => (q3_part qT (by rw [eL, eY]; exact List.mem_cons_of_mem _ ht)).len
  have hrl : rest.length ≤ 6 := by
    have := congrArg List.length eY
    rw [List.length_append, List.length_map, List.length_singleton, List.length_cons] at this
    omega
  refine ⟨_, l15, rest, rfl, rfl, SqL.of h15, by have := sum_le rest 444 hrest; rw [len_feed]; omega, ?_⟩
  refine ⟨big _ (show 7 ≤ 100000 by decide), fun l16 nl16 => ?_⟩
  have s16 := Same.new nl16 (.lst [V.str (T ++ "\n"), V.str (T ++ y0 ++ "\n"), V.str (Txt.join "\n" rest), V.str "a b", V.str "a b\n", V.str "a  b\n", V.str ""])
  have h16 : (upd H15 l16 (.lst [V.str (T ++ "\n"), V.str (T ++ y0 ++ "\n"), V.str (Txt.join "\n" rest), V.str "a b", V.str "a b\n", V.str "a  b\n", V.str ""]) : Hp) l16 = some (.lst [V.str (T ++ "\n"), V.str (T ++ y0 ++ "\n"), V.str (Txt.join "\n" rest), V.str "a b", V.str "a b\n", V.str "a  b\n", V.str ""]) := upd_same
  generalize (upd H15 l16 (.lst [V.str (T ++ "\n"), V.str (T ++ y0 ++ "\n"), V.str (Txt.join "\n" rest), V.str "a b", V.str "a b\n", V.str "a  b\n", V.str ""]) : Hp) = H16 at *
  refine ⟨l13, l16, _, _, rfl, rfl, (s14.trans (s15.trans s16)) _ _ h13, h16, big _ (show 10 ≤ 100000 by decide), fun l17 nl17 => ?_⟩
  obtain ⟨TS, hTS⟩ : ∃ TS : List Str, TS = [t1, t2, t3, T ++ "\n", T ++ y0 ++ "\n", Txt.join "\n" rest, "a b", "a b\n", "a  b\n", ""] := ⟨_, rfl⟩
  have rtS : ∀ x ∈ TS, RT x := fun x hx => by
    rw [hTS] at hx
    simp only [List.mem_cons, List.not_mem_nil, or_false] at hx
    rcases hx with rfl | rfl | rfl | rfl | rfl | rfl | rfl | rfl | rfl | rfl
    · exact x1.rt (by decide) (by decide)
    · exact x2.rt (by decide) (by decide)
    · exact x3.rt (by decide) (by decide)
    · exact x4.rt (by decide) (by decide)
    · exact x5.rt (by decide) (by decide)
    · exact x6.rt (by decide) (by decide)
    · exact (q3_const (n := 9) (c := 9) (by decide +kernel) : Q3 "a b" 9 9).rt (by decide) (by decide)
    · exact (q3_const (n := 9) (c := 9) (by decide +kernel) : Q3 "a b\n" 9 9).rt (by decide) (by decide)
    · exact (q3_const (n := 9) (c := 9) (by decide +kernel) : Q3 "a  b\n" 9 9).rt (by decide) (by decide)
    · exact (q3_const (n := 9) (c := 9) (by decide +kernel) : Q3 "" 9 9).rt (by decide) (by decide)
  have s17 := Same.new nl17 (.lst ([V.str t1, V.str t2, V.str t3] ++ [V.str (T ++ "\n"), V.str (T ++ y0 ++ "\n"), V.str (Txt.join "\n" rest), V.str "a b", V.str "a b\n", V.str "a  b\n", V.str ""]))
  have h17 : (upd H16 l17 (.lst ([V.str t1, V.str t2, V.str t3] ++ [V.str (T ++ "\n"), V.str (T ++ y0 ++ "\n"), V.str (Txt.join "\n" rest), V.str "a b", V.str "a b\n", V.str "a  b\n", V.str ""])) : Hp) l17 = some (.lst (TS.map V.str)) := by rw [upd_same, hTS]; rfl
  generalize (upd H16 l17 (.lst ([V.str t1, V.str t2, V.str t3] ++ [V.str (T ++ "\n"), V.str (T ++ y0 ++ "\n"), V.str (Txt.join "\n" rest), V.str "a b", V.str "a b\n", V.str "a  b\n", V.str ""])) : Hp) = H17 at *
  have s1217 := s13.trans (s14.trans (s15.trans (s16.trans s17)))
  refine ⟨_, rfl, l17, rfl, ⟨_, SqL.of h17⟩, ?_⟩
  refine for_list (xs := TS.map V.str) (fun j σ H' => ∃ v11 : Option V, σ = [some (.ref a), some (.ref t), some (.int (0 + (i : Int))), some (.ref p), v4, v5, some (.str T), some (.int (k1 : Int)), some (.str zz), some (.ref l17), some (.ref l14), v11, v12] ∧ Same H17 H')
    ⟨_, rfl, Same.refl _⟩ (fun j σ H' _ h => by obtain ⟨_, _, sm⟩ := h; exact SqL.of (sm _ _ h17)) ?_ ?_
  · rintro j x σ Ha hx ⟨v11, rfl, sa⟩
    obtain ⟨b, hb, rfl⟩ := List.mem_map.mp (List.mem_of_getElem? hx)
    have rtb := rtS b hb
    refine ⟨_, rfl, ?_⟩
    dsimp only [tNil, List.cons_append, List.nil_append, List.append_nil]
    cases hrd : rdT b with
    | some Rb =>
      obtain ⟨gb, lb⟩ := rdT_facts rtb hrd
      refine told_some rtb hrd fun qb Hb sb hqb => ⟨_, rfl, ?_⟩
      dsimp only [tNil, List.cons_append, List.nil_append, List.append_nil]
      refine lread_some rtb hrd fun qc Hc sc hqc => ?_
      refine .inr ⟨qc, rfl, fun Hd sd => ?_⟩
      dsimp only [tNil, List.cons_append, List.nil_append, List.append_nil]
      exact same_at (alike_rls (hqb.same (sc.trans sd)) (hqc.same sd) lb gb) fun He se => ⟨_, rfl, iteF ⟨_, rfl, sa.trans (sb.trans (sc.trans (sd.trans se)))⟩⟩
    | none =>
      refine told_none rtb hrd fun Hb sb => ⟨_, rfl, ?_⟩
      dsimp only [tNil, List.cons_append, List.nil_append, List.append_nil]
      refine lread_none rtb hrd fun Hc sc => ?_
      refine .inl ⟨rfl, fun Hd sd => ?_⟩
      dsimp only [tNil, List.cons_append, List.nil_append, List.append_nil]
      exact same_at (al_str _) fun He se => ⟨_, rfl, iteF ⟨_, rfl, sa.trans (sb.trans (sc.trans (sd.trans se)))⟩⟩
  rintro σ Ha ⟨v11', rfl, sa⟩
  have hRa := (hR12.same s1217).same sa
  have hWa := (hW12.same s1217).same sa
  obtain ⟨rs, hpa, hina, eR⟩ := id hRa
  have lrs : rs.length = R.length := by rw [← eR, List.length_map]
  have lref : (rrefs rs).length = rs.length := List.length_map ..
  -- things that are rows, or none
  refine ⟨_, rfl, _, rfl, p, _, rfl, .inr (SqT.of hpa), fun c0 nc0 => ?_⟩
  have SB0 := Same.new nc0 (.lst (rrefs rs))
  have hc0 : (upd Ha c0 (.lst (rrefs rs)) : Hp) c0 = some (.lst (rrefs rs)) := upd_same
  generalize (upd Ha c0 (.lst (rrefs rs)) : Hp) = B0 at *
  refine ⟨_, rfl, _, rfl, 1, rfl, p, _, rfl, SB0 _ _ hpa, fun c1 B1 SB1 hc1 => ?_⟩
  have e1 : cutV (rrefs rs) none (some (1 : Int)) = rrefs (rs.take 1) := by
    have := cut_to (rrefs rs) 1
    unfold rrefs at this ⊢
    rw [List.map_take]
    exact this
  rw [e1] at hc1
  have l1 : (rrefs (rs.take 1)).length ≤ 1 := by unfold rrefs; rw [List.length_map, List.length_take]; omega
  refine ⟨p, c1, _, _, rfl, rfl, (SB0.trans SB1) _ _ hpa, hc1, big _ (by omega), fun c2 B2 SB2 hc2 => ?_⟩
  have SA2 := SB0.trans (SB1.trans SB2)
  have gR1 : GoodR ((rs.take 1).map (·.2.2.2)) := fun r hr' => by
    rw [List.map_take, eR] at hr'
    exact g4 r (List.mem_of_mem_take hr')
  have T2 : IsTh K B2 (.tup (R.map rlD ++ ((rs.take 1).map (·.2.2.2)).map rlD)) (.ref c2) := th_cat hc2 (hina.ts SA2.ts) eR g4 hRl (by omega) (areTh_rls (fun z hz => (hina.ts SA2.ts) z (List.mem_of_mem_take hz)) gR1)
  -- a row of an address and a text
  refine ⟨_, rfl, big _ (show 1 ≤ 100000 by decide), fun d1 nd1 => ?_⟩
  have SB3 := Same.new nd1 (.tup [V.str "a"])
  have hd1 : (upd B2 d1 (.tup [V.str "a"]) : Hp) d1 = some (.tup [V.str "a"]) := upd_same
  generalize (upd B2 d1 (.tup [V.str "a"]) : Hp) = B3 at *
  refine ⟨big _ (show 2 ≤ 100000 by decide), fun d2 nd2 => ?_⟩
  have SB4 := Same.new nd2 (.tup [V.ref d1, V.str "b"])
  have hd2 : (upd B3 d2 (.tup [V.ref d1, V.str "b"]) : Hp) d2 = some (.tup [V.ref d1, V.str "b"]) := upd_same
  generalize (upd B3 d2 (.tup [V.ref d1, V.str "b"]) : Hp) = B4 at *
  refine ⟨big _ (show 1 ≤ 100000 by decide), fun d3 nd3 => ?_⟩
  have SB5 := Same.new nd3 (.tup [V.ref d2])
  have hd3 : (upd B4 d3 (.tup [V.ref d2]) : Hp) d3 = some (.tup [V.ref d2]) := upd_same
  generalize (upd B4 d3 (.tup [V.ref d2]) : Hp) = B5 at *
  have SA5 := SA2.trans (SB3.trans (SB4.trans SB5))
  refine ⟨p, d3, _, _, rfl, rfl, SA5 _ _ hpa, hd3, big _ (by rw [List.length_singleton]; omega), fun c3 B6 SB6 hc3 => ?_⟩
  have SA6 := SA5.trans SB6
  have T3 : IsTh K B6 (.tup (R.map rlD ++ [.tup [adD ["a"], .txt "b"]])) (.ref c3) := th_cat hc3 (hina.ts SA6.ts) eR g4 hRl (by simp) ⟨_, _, rfl, ⟨d2, _, rfl, SqT.of ((SB5.trans SB6) _ _ hd2), (show 2 ≤ 1000 by decide), _, _, rfl, isTh_strs ["a"] ((SB4.trans (SB5.trans SB6)) _ _ hd1) (by decide) (by decide +kernel), _, _, rfl, isTh_str (by decide +kernel), rfl⟩, rfl⟩
  -- a row of one address
  refine ⟨_, rfl, big _ (show 1 ≤ 100000 by decide), fun f1 nf1 => ?_⟩
  have SB7 := Same.new nf1 (.tup [V.str "a"])
  have hf1 : (upd B6 f1 (.tup [V.str "a"]) : Hp) f1 = some (.tup [V.str "a"]) := upd_same
  generalize (upd B6 f1 (.tup [V.str "a"]) : Hp) = B7 at *
  refine ⟨big _ (show 1 ≤ 100000 by decide), fun f2 nf2 => ?_⟩
  have SB8 := Same.new nf2 (.tup [V.ref f1])
  have hf2 : (upd B7 f2 (.tup [V.ref f1]) : Hp) f2 = some (.tup [V.ref f1]) := upd_same
  generalize (upd B7 f2 (.tup [V.ref f1]) : Hp) = B8 at *
  refine ⟨big _ (show 1 ≤ 100000 by decide), fun f3 nf3 => ?_⟩
  have SB9 := Same.new nf3 (.tup [V.ref f2])
  have hf3 : (upd B8 f3 (.tup [V.ref f2]) : Hp) f3 = some (.tup [V.ref f2]) := upd_same
  generalize (upd B8 f3 (.tup [V.ref f2]) : Hp) = B9 at *
  have SA9 := SA6.trans (SB7.trans (SB8.trans SB9))
  refine ⟨p, f3, _, _, rfl, rfl, SA9 _ _ hpa, hf3, big _ (by rw [List.length_singleton]; omega), fun c4 B10 SB10 hc4 => ?_⟩
  have SA10 := SA9.trans SB10
  have T4 : IsTh K B10 (.tup (R.map rlD ++ [.tup [adD ["a"]]])) (.ref c4) := th_cat hc4 (hina.ts SA10.ts) eR g4 hRl (by simp) ⟨_, _, rfl, ⟨f2, _, rfl, SqT.of ((SB9.trans SB10) _ _ hf2), (show 1 ≤ 1000 by decide), _, _, rfl, isTh_strs ["a"] ((SB8.trans (SB9.trans SB10)) _ _ hf1) (by decide) (by decide +kernel), rfl⟩, rfl⟩
  -- two texts
  refine ⟨big _ (show 2 ≤ 100000 by decide), fun g1 ng1 => ?_⟩
  have SB11 := Same.new ng1 (.tup [V.str "a", V.str "b"])
  have hg1 : (upd B10 g1 (.tup [V.str "a", V.str "b"]) : Hp) g1 = some (.tup [V.str "a", V.str "b"]) := upd_same
  generalize (upd B10 g1 (.tup [V.str "a", V.str "b"]) : Hp) = B11 at *
  refine ⟨big _ (show 8 ≤ 100000 by decide), fun lt nlt => ?_⟩
  have SB12 := Same.new nlt (.lst [V.ref p, V.ref c0, V.ref c2, V.ref c3, V.ref c4, V.non, V.int 7, V.ref g1])
  have hlt8 : (upd B11 lt (.lst [V.ref p, V.ref c0, V.ref c2, V.ref c3, V.ref c4, V.non, V.int 7, V.ref g1]) : Hp) lt = some (.lst [V.ref p, V.ref c0, V.ref c2, V.ref c3, V.ref c4, V.non, V.int 7, V.ref g1]) := upd_same
  generalize (upd B11 lt (.lst [V.ref p, V.ref c0, V.ref c2, V.ref c3, V.ref c4, V.non, V.int 7, V.ref g1]) : Hp) = B12 at *
  have SA12 := SA10.trans (SB11.trans SB12)
  -- three more
  refine ⟨_, rfl, _, rfl, big _ (show 1 ≤ 100000 by decide), fun k1' nk1 => ?_⟩
  have SB13 := Same.new nk1 (.tup [V.str "A"])
  have hk1 : (upd B12 k1' (.tup [V.str "A"]) : Hp) k1' = some (.tup [V.str "A"]) := upd_same
  generalize (upd B12 k1' (.tup [V.str "A"]) : Hp) = B13 at *
  refine ⟨big _ (show 1 ≤ 100000 by decide), fun k2 nk2 => ?_⟩
  have SB14 := Same.new nk2 (.tup [V.str "b"])
  have hk2 : (upd B13 k2 (.tup [V.str "b"]) : Hp) k2 = some (.tup [V.str "b"]) := upd_same
  generalize (upd B13 k2 (.tup [V.str "b"]) : Hp) = B14 at *
  refine ⟨big _ (show 2 ≤ 100000 by decide), fun k3 nk3 => ?_⟩
  have SB15 := Same.new nk3 (.tup [V.ref k1', V.ref k2])
  have hk3 : (upd B14 k3 (.tup [V.ref k1', V.ref k2]) : Hp) k3 = some (.tup [V.ref k1', V.ref k2]) := upd_same
  generalize (upd B14 k3 (.tup [V.ref k1', V.ref k2]) : Hp) = B15 at *
  refine ⟨big _ (show 1 ≤ 100000 by decide), fun k4 nk4 => ?_⟩
  have SB16 := Same.new nk4 (.tup [V.ref k3])
  have hk4 : (upd B15 k4 (.tup [V.ref k3]) : Hp) k4 = some (.tup [V.ref k3]) := upd_same
  generalize (upd B15 k4 (.tup [V.ref k3]) : Hp) = B16 at *
  have SA16 := SA12.trans (SB13.trans (SB14.trans (SB15.trans SB16)))
  refine ⟨p, k4, _, _, rfl, rfl, SA16 _ _ hpa, hk4, big _ (by rw [List.length_singleton]; omega), fun c5 B17 SB17 hc5 => ?_⟩
  have SA17 := SA16.trans SB17
  have T8 : IsTh K B17 (.tup (R.map rlD ++ [.tup [adD ["A"], adD ["b"]]])) (.ref c5) := th_cat hc5 (hina.ts SA17.ts) eR g4 hRl (by simp) ⟨_, _, rfl, ⟨k3, _, rfl, SqT.of ((SB16.trans SB17) _ _ hk3), (show 2 ≤ 1000 by decide), _, _, rfl, isTh_strs ["A"] ((SB14.trans (SB15.trans (SB16.trans SB17))) _ _ hk1) (by decide) (by decide +kernel), _, _, rfl, isTh_strs ["b"] ((SB15.trans (SB16.trans SB17)) _ _ hk2) (by decide) (by decide +kernel), rfl⟩, rfl⟩
  refine ⟨_, rfl, big _ (show 1 ≤ 100000 by decide), fun m1 nm1 => ?_⟩
  have SB18 := Same.new nm1 (.tup [V.ref p])
  have hm1 : (upd B17 m1 (.tup [V.ref p]) : Hp) m1 = some (.tup [V.ref p]) := upd_same
  generalize (upd B17 m1 (.tup [V.ref p]) : Hp) = B18 at *
  refine ⟨big _ (show 1 ≤ 100000 by decide), fun n1 nn1 => ?_⟩
  have SB19 := Same.new nn1 (.tup [V.str "a"])
  have hn1 : (upd B18 n1 (.tup [V.str "a"]) : Hp) n1 = some (.tup [V.str "a"]) := upd_same
  generalize (upd B18 n1 (.tup [V.str "a"]) : Hp) = B19 at *
  refine ⟨n1, _, 5, rfl, rfl, SqT.of hn1, (fun z => by cases z), by decide, by decide, by decide, fun n2 nn2 => ?_⟩
  have e5 : (List.replicate (5 : Int).toNat [V.str "a"]).flatten = (["a", "a", "a", "a", "a"] : List Str).map V.str := by rfl
  have SB20 := Same.new nn2 (.tup (List.replicate (5 : Int).toNat [V.str "a"]).flatten)
  have hn2 : (upd B19 n2 (.tup (List.replicate (5 : Int).toNat [V.str "a"]).flatten) : Hp) n2 = some (.tup ((["a", "a", "a", "a", "a"] : List Str).map V.str)) := by rw [upd_same, e5]
  generalize (upd B19 n2 (.tup (List.replicate (5 : Int).toNat [V.str "a"]).flatten) : Hp) = B20 at *
  refine ⟨big _ (show 1 ≤ 100000 by decide), fun n3 nn3 => ?_⟩
  have SB21 := Same.new nn3 (.tup [V.str "b"])
  have hn3 : (upd B20 n3 (.tup [V.str "b"]) : Hp) n3 = some (.tup [V.str "b"]) := upd_same
  generalize (upd B20 n3 (.tup [V.str "b"]) : Hp) = B21 at *
  refine ⟨big _ (show 2 ≤ 100000 by decide), fun n4 nn4 => ?_⟩
  have SB22 := Same.new nn4 (.tup [V.ref n2, V.ref n3])
  have hn4 : (upd B21 n4 (.tup [V.ref n2, V.ref n3]) : Hp) n4 = some (.tup [V.ref n2, V.ref n3]) := upd_same
  generalize (upd B21 n4 (.tup [V.ref n2, V.ref n3]) : Hp) = B22 at *
  refine ⟨big _ (show 1 ≤ 100000 by decide), fun n5 nn5 => ?_⟩
  have SB23 := Same.new nn5 (.tup [V.ref n4])
  have hn5 : (upd B22 n5 (.tup [V.ref n4]) : Hp) n5 = some (.tup [V.ref n4]) := upd_same
  generalize (upd B22 n5 (.tup [V.ref n4]) : Hp) = B23 at *
  refine ⟨big _ (show 3 ≤ 100000 by decide), fun l24 nl24 => ?_⟩
  have SB24 := Same.new nl24 (.lst [V.ref c5, V.ref m1, V.ref n5])
  have h24 : (upd B23 l24 (.lst [V.ref c5, V.ref m1, V.ref n5]) : Hp) l24 = some (.lst [V.ref c5, V.ref m1, V.ref n5]) := upd_same
  generalize (upd B23 l24 (.lst [V.ref c5, V.ref m1, V.ref n5]) : Hp) = B24 at *
  have S1724 := SB18.trans (SB19.trans (SB20.trans (SB21.trans (SB22.trans (SB23.trans SB24)))))
  have S1224 := (SB13.trans (SB14.trans (SB15.trans (SB16.trans SB17)))).trans S1724
  refine ⟨lt, l24, _, _, rfl, rfl, S1224 _ _ hlt8, h24, big _ (show 11 ≤ 100000 by decide), fun l25 nl25 => ?_⟩
  have SB25 := Same.new nl25 (.lst ([V.ref p, V.ref c0, V.ref c2, V.ref c3, V.ref c4, V.non, V.int 7, V.ref g1] ++ [V.ref c5, V.ref m1, V.ref n5]))
  have h25 : (upd B24 l25 (.lst ([V.ref p, V.ref c0, V.ref c2, V.ref c3, V.ref c4, V.non, V.int 7, V.ref g1] ++ [V.ref c5, V.ref m1, V.ref n5])) : Hp) l25 = some (.lst ([V.ref p, V.ref c0, V.ref c2, V.ref c3, V.ref c4, V.non, V.int 7, V.ref g1] ++ [V.ref c5, V.ref m1, V.ref n5])) := upd_same
  generalize (upd B24 l25 (.lst ([V.ref p, V.ref c0, V.ref c2, V.ref c3, V.ref c4, V.non, V.int 7, V.ref g1] ++ [V.ref c5, V.ref m1, V.ref n5])) : Hp) = B25 at *
  have S1725 := S1724.trans SB25
  have S1225 := S1224.trans SB25
  have SA25 := SA12.trans S1225
  have T1 : IsTh K B25 (.tup (R.map rlD)) (.ref p) := by
    have := isTh_rls (K := K) (H := B25) (SqT.of (SA25 _ _ hpa)) (hina.ts SA25.ts) (by rw [eR]; exact g4) (by omega)
    rw [eR] at this
    exact this
  have fR : Few (.tup (R.map rlD)) := fun us e => by injection e with e; rw [← e, List.length_map]; omega
  have s1025 := (SB11.trans SB12).trans S1225
  have T9 : IsTh K B25 (.tup [.tup (R.map rlD)]) (.ref m1) := ⟨m1, _, rfl, SqT.of (((SB19.trans (SB20.trans (SB21.trans (SB22.trans (SB23.trans SB24))))).trans SB25) _ _ hm1), (show 1 ≤ 1000 by decide), _, _, rfl, T1, rfl⟩
  have T10 : IsTh K B25 (.tup [.tup [adD ["a", "a", "a", "a", "a"], adD ["b"]]]) (.ref n5) := ⟨n5, _, rfl, SqT.of ((SB24.trans SB25) _ _ hn5), (show 1 ≤ 1000 by decide), _, _, rfl, ⟨n4, _, rfl, SqT.of ((SB23.trans (SB24.trans SB25)) _ _ hn4), (show 2 ≤ 1000 by decide), _, _, rfl, isTh_strs ["a", "a", "a", "a", "a"] ((SB21.trans (SB22.trans (SB23.trans (SB24.trans SB25)))) _ _ hn2) (by decide) (by decide +kernel), _, _, rfl, isTh_strs ["b"] ((SB22.trans (SB23.trans (SB24.trans SB25))) _ _ hn3) (by decide) (by decide +kernel), rfl⟩, rfl⟩
  have T7 : IsTh K B25 (adD ["a", "b"]) (.ref g1) := isTh_strs ["a", "b"] ((SB12.trans S1225) _ _ hg1) (by decide) (by decide +kernel)
  have s225 : Same B2 B25 := (SB3.trans (SB4.trans (SB5.trans SB6))).trans ((SB7.trans (SB8.trans (SB9.trans SB10))).trans s1025)
  have s625 : Same B6 B25 := (SB7.trans (SB8.trans (SB9.trans SB10))).trans s1025
  have s025 : Same B0 B25 := (SB1.trans SB2).trans s225
  obtain ⟨ths, hths⟩ : ∃ ths : List (V × Thing), ths = [(V.ref p, .tup (R.map rlD)), (V.ref c0, .oth), (V.ref c2, .tup (R.map rlD ++ ((rs.take 1).map (·.2.2.2)).map rlD)), (V.ref c3, .tup (R.map rlD ++ [.tup [adD ["a"], .txt "b"]])), (V.ref c4, .tup (R.map rlD ++ [.tup [adD ["a"]]])), (V.non, .oth), (V.int 7, .oth), (V.ref g1, adD ["a", "b"]), (V.ref c5, .tup (R.map rlD ++ [.tup [adD ["A"], adD ["b"]]])), (V.ref m1, .tup [.tup (R.map rlD)]), (V.ref n5, .tup [.tup [adD ["a", "a", "a", "a", "a"], adD ["b"]]])] := ⟨_, rfl⟩
  have allT : ∀ r ∈ ths, IsTh K B25 r.2 r.1 ∧ Few r.2 := fun r hr' => by
    rw [hths] at hr'
    simp only [List.mem_cons, List.not_mem_nil, or_false] at hr'
    rcases hr' with rfl | rfl | rfl | rfl | rfl | rfl | rfl | rfl | rfl | rfl | rfl
    · exact ⟨T1, fR⟩
    · exact ⟨.inr (.inr (.inr ⟨c0, _, rfl, s025 _ _ hc0⟩)), fun _ e => nomatch e⟩
    · exact ⟨T2.same s225, few_cat hRl (by rw [List.length_map, List.length_map, List.length_take]; omega)⟩
    · exact ⟨T3.same s625, few_cat hRl (by simp)⟩
    · exact ⟨T4.same s1025, few_cat hRl (by simp)⟩
    · exact ⟨.inl rfl, fun _ e => nomatch e⟩
    · exact ⟨.inr (.inl ⟨7, rfl⟩), fun _ e => nomatch e⟩
    · exact ⟨T7, fun us e => by injection e with e; rw [← e]; decide⟩
    · exact ⟨T8.same S1725, few_cat hRl (by simp)⟩
    · exact ⟨T9, fun us e => by injection e with e; rw [← e]; exact (show 1 ≤ 18 by decide)⟩
    · exact ⟨T10, fun us e => by injection e with e; rw [← e]; decide⟩
  have h25' : B25 l25 = some (.lst (ths.map (·.1))) := by rw [h25, hths]; rfl
  refine ⟨l25, rfl, ⟨_, SqL.of h25'⟩, ?_⟩
  refine for_list (xs := ths.map (·.1)) (fun j σ H' => ∃ v11 : Option V, σ = [some (.ref a), some (.ref t), some (.int (0 + (i : Int))), some (.ref p), v4, v5, some (.str T), some (.int (k1 : Int)), some (.str zz), some (.ref l17), some (.ref l14), v11, some (.ref lt)] ∧ Same B25 H')
    ⟨_, rfl, Same.refl _⟩ (fun j σ H' _ h => by obtain ⟨_, _, sm⟩ := h; exact SqL.of (sm _ _ h25')) ?_ ?_
  · rintro j x σ Hb hx ⟨v11, rfl, sb⟩
    obtain ⟨r, hr', rfl⟩ := List.mem_map.mp (List.mem_of_getElem? hx)
    obtain ⟨th, fw⟩ := allT r hr'
    refine ⟨_, rfl, ?_⟩
    dsimp only [tNil, List.cons_append, List.nil_append, List.append_nil]
    refine are_at (th.same sb) fw fun Hc sc => ⟨_, rfl, ?_⟩
    dsimp only [tNil, List.cons_append, List.nil_append, List.append_nil]
    refine are_at ((th.same sb).same sc) fw fun Hd sd => ?_
    exact same_at (al_bl _) fun He se => ⟨_, rfl, iteF ⟨_, rfl, sb.trans (sc.trans (sd.trans se))⟩⟩
  rintro σ Hb ⟨v11'', rfl, sb⟩
  exact ⟨_, _, _, _, _, _, _, _, _, _, _, rfl, (hWa.same (SA25.trans sb)).up (by omega)⟩
end
end LW
namespace LW
open PySem L2 Mi Co
theorem all_mk {l : PySem.W.OpenLaw} {w : World} {K : PySem.W.Frag} {h : Heap} {mg : Str → Option Value} {fa f1 f2 f3 f4 f5 f6 f7 f8 f9 f10 f11 f12 f13 f14 f15 f16 f17 f18 f19 f20 f21 f22 f23 : Addr} (X : K.In h) (G0 : h.Ns mainGlobals mg) (hfa : mg "law" = some (.ref fa))
    {od1 an1 od2 an2 od3 an3 od4 an4 od5 an5 od6 an6 od7 an7 od8 an8 od9 an9 od10 an10 od11 an11 od12 an12 od13 an13 od14 an14 od15 an15 od16 an16 od17 an17 od18 an18 od19 an19 od20 an20 od21 an21 od22 an22 od23 an23 : Option Addr} {sl1 sl2 sl3 sl4 sl5 sl6 sl7 sl8 sl9 sl10 sl11 sl12 sl13 sl14 sl15 sl16 sl17 sl18 sl19 sl20 sl21 sl22 sl23 : Array (Option Value)} {oc1 kV1 dc1 pm1 cd1 ct1 oc2 kV2 dc2 pm2 cd2 ct2 oc3 kV3 dc3 pm3 cd3 ct3 oc4 kV4 dc4 pm4 cd4 ct4 oc5 kV5 dc5 pm5 cd5 ct5 oc6 kV6 dc6 pm6 cd6 ct6 oc7 kV7 dc7 pm7 cd7 ct7 oc8 kV8 dc8 pm8 cd8 ct8 oc9 kV9 dc9 pm9 cd9 ct9 oc10 kV10 dc10 pm10 cd10 ct10 oc11 kV11 dc11 pm11 cd11 ct11 oc12 kV12 dc12 pm12 cd12 ct12 oc13 kV13 dc13 pm13 cd13 ct13 oc14 kV14 dc14 pm14 cd14 ct14 oc15 kV15 dc15 pm15 cd15 ct15 oc16 kV16 dc16 pm16 cd16 ct16 oc17 kV17 dc17 pm17 cd17 ct17 oc18 kV18 dc18 pm18 cd18 ct18 oc19 kV19 dc19 pm19 cd19 ct19 oc20 kV20 dc20 pm20 cd20 ct20 oc21 kV21 dc21 pm21 cd21 ct21 oc22 kV22 dc22 pm22 cd22 ct22 oc23 kV23 dc23 pm23 cd23 ct23 : Value} {t1 t2 t3 : Tok} {C1 : Addr}
    (a1 : PySem.W.nsIn K mainGlobals "is_word" = some (some (.ref f1))) (l1 : K.lookup f1 = some ⟨oc1, od1, .func (PySem.W.fnOf "is_word" "is_word" (defArgs sWord) (defBody sWord) (defScope sWord) .none kV1 dc1 pm1 an1 cd1 ct1), sl1⟩) (c1 : PySem.W.codeIn K cd1 "is_word" = true) (k1 : PySem.W.keepIn K (.ref f1) = true)
    (a2 : PySem.W.nsIn K mainGlobals "is_name" = some (some (.ref f2))) (l2 : K.lookup f2 = some ⟨oc2, od2, .func (PySem.W.fnOf "is_name" "is_name" (defArgs sName) (defBody sName) (defScope sName) .none kV2 dc2 pm2 an2 cd2 ct2), sl2⟩) (c2 : PySem.W.codeIn K cd2 "is_name" = true) (k2 : PySem.W.keepIn K (.ref f2) = true)
    (a3 : PySem.W.nsIn K mainGlobals "is_address" = some (some (.ref f3))) (l3 : K.lookup f3 = some ⟨oc3, od3, .func (PySem.W.fnOf "is_address" "is_address" (defArgs sAddr) (defBody sAddr) (defScope sAddr) .none kV3 dc3 pm3 an3 cd3 ct3), sl3⟩) (c3 : PySem.W.codeIn K cd3 "is_address" = true) (k3 : PySem.W.keepIn K (.ref f3) = true)
    (a4 : PySem.W.nsIn K mainGlobals "address_text" = some (some (.ref f4))) (l4 : K.lookup f4 = some ⟨oc4, od4, .func (PySem.W.fnOf "address_text" "address_text" (defArgs sText) (defBody sText) (defScope sText) .none kV4 dc4 pm4 an4 cd4 ct4), sl4⟩) (c4 : PySem.W.codeIn K cd4 "address_text" = true) (k4 : PySem.W.keepIn K (.ref f4) = true)
    (a5 : PySem.W.nsIn K mainGlobals "read_address" = some (some (.ref f5))) (l5 : K.lookup f5 = some ⟨oc5, od5, .func (PySem.W.fnOf "read_address" "read_address" (defArgs sRead) (defBody sRead) (defScope sRead) .none kV5 dc5 pm5 an5 cd5 ct5), sl5⟩) (c5 : PySem.W.codeIn K cd5 "read_address" = true) (k5 : PySem.W.keepIn K (.ref f5) = true)
    (a6 : PySem.W.nsIn K mainGlobals "row_line" = some (some (.ref f6))) (l6 : K.lookup f6 = some ⟨oc6, od6, .func (PySem.W.fnOf "row_line" "row_line" (defArgs sLine) (defBody sLine) (defScope sLine) .none kV6 dc6 pm6 an6 cd6 ct6), sl6⟩) (c6 : PySem.W.codeIn K cd6 "row_line" = true) (k6 : PySem.W.keepIn K (.ref f6) = true)
    (a7 : PySem.W.nsIn K mainGlobals "rows_text" = some (some (.ref f7))) (l7 : K.lookup f7 = some ⟨oc7, od7, .func (PySem.W.fnOf "rows_text" "rows_text" (defArgs sRText) (defBody sRText) (defScope sRText) .none kV7 dc7 pm7 an7 cd7 ct7), sl7⟩) (c7 : PySem.W.codeIn K cd7 "rows_text" = true) (k7 : PySem.W.keepIn K (.ref f7) = true)
    (a8 : PySem.W.nsIn K mainGlobals "is_row" = some (some (.ref f8))) (l8 : K.lookup f8 = some ⟨oc8, od8, .func (PySem.W.fnOf "is_row" "is_row" (defArgs sRow) (defBody sRow) (defScope sRow) .none kV8 dc8 pm8 an8 cd8 ct8), sl8⟩) (c8 : PySem.W.codeIn K cd8 "is_row" = true) (k8 : PySem.W.keepIn K (.ref f8) = true)
    (a9 : PySem.W.nsIn K mainGlobals "are_rows" = some (some (.ref f9))) (l9 : K.lookup f9 = some ⟨oc9, od9, .func (PySem.W.fnOf "are_rows" "are_rows" (defArgs sAre) (defBody sAre) (defScope sAre) .none kV9 dc9 pm9 an9 cd9 ct9), sl9⟩) (c9 : PySem.W.codeIn K cd9 "are_rows" = true) (k9 : PySem.W.keepIn K (.ref f9) = true)
    (a10 : PySem.W.nsIn K mainGlobals "read_row" = some (some (.ref f10))) (l10 : K.lookup f10 = some ⟨oc10, od10, .func (PySem.W.fnOf "read_row" "read_row" (defArgs sRdRow) (defBody sRdRow) (defScope sRdRow) .none kV10 dc10 pm10 an10 cd10 ct10), sl10⟩) (c10 : PySem.W.codeIn K cd10 "read_row" = true) (k10 : PySem.W.keepIn K (.ref f10) = true)
    (a11 : PySem.W.nsIn K mainGlobals "read_rows" = some (some (.ref f11))) (l11 : K.lookup f11 = some ⟨oc11, od11, .func (PySem.W.fnOf "read_rows" "read_rows" (defArgs sRdRows) (defBody sRdRows) (defScope sRdRows) .none kV11 dc11 pm11 an11 cd11 ct11), sl11⟩) (c11 : PySem.W.codeIn K cd11 "read_rows" = true) (k11 : PySem.W.keepIn K (.ref f11) = true)
    (a12 : PySem.W.nsIn K mainGlobals "_law_same" = some (some (.ref f12))) (l12 : K.lookup f12 = some ⟨oc12, od12, .func (PySem.W.fnOf "_law_same" "_law_same" (defArgs sSame) (defBody sSame) (defScope sSame) .none kV12 dc12 pm12 an12 cd12 ct12), sl12⟩) (c12 : PySem.W.codeIn K cd12 "_law_same" = true) (k12 : PySem.W.keepIn K (.ref f12) = true)
    (a13 : PySem.W.nsIn K mainGlobals "_law_or" = some (some (.ref f13))) (l13 : K.lookup f13 = some ⟨oc13, od13, .func (PySem.W.fnOf "_law_or" "_law_or" (defArgs sOr) (defBody sOr) (defScope sOr) .none kV13 dc13 pm13 an13 cd13 ct13), sl13⟩) (c13 : PySem.W.codeIn K cd13 "_law_or" = true) (k13 : PySem.W.keepIn K (.ref f13) = true)
    (a14 : PySem.W.nsIn K mainGlobals "_law_draw" = some (some (.ref f14))) (l14 : K.lookup f14 = some ⟨oc14, od14, .func (PySem.W.fnOf "_law_draw" "_law_draw" (defArgs sDraw) (defBody sDraw) (defScope sDraw) .none kV14 dc14 pm14 an14 cd14 ct14), sl14⟩) (c14 : PySem.W.codeIn K cd14 "_law_draw" = true) (k14 : PySem.W.keepIn K (.ref f14) = true)
    (a15 : PySem.W.nsIn K mainGlobals "_law_pick" = some (some (.ref f15))) (l15 : K.lookup f15 = some ⟨oc15, od15, .func (PySem.W.fnOf "_law_pick" "_law_pick" (defArgs sPick) (defBody sPick) (defScope sPick) .none kV15 dc15 pm15 an15 cd15 ct15), sl15⟩) (c15 : PySem.W.codeIn K cd15 "_law_pick" = true) (k15 : PySem.W.keepIn K (.ref f15) = true)
    (a16 : PySem.W.nsIn K mainGlobals "_law_is_name" = some (some (.ref f16))) (l16 : K.lookup f16 = some ⟨oc16, od16, .func (PySem.W.fnOf "_law_is_name" "_law_is_name" (defArgs sLName) (defBody sLName) (defScope sLName) .none kV16 dc16 pm16 an16 cd16 ct16), sl16⟩) (c16 : PySem.W.codeIn K cd16 "_law_is_name" = true) (k16 : PySem.W.keepIn K (.ref f16) = true)
    (a17 : PySem.W.nsIn K mainGlobals "_law_told" = some (some (.ref f17))) (l17 : K.lookup f17 = some ⟨oc17, od17, .func (PySem.W.fnOf "_law_told" "_law_told" (defArgs sTold) (defBody sTold) (defScope sTold) .none kV17 dc17 pm17 an17 cd17 ct17), sl17⟩) (c17 : PySem.W.codeIn K cd17 "_law_told" = true) (k17 : PySem.W.keepIn K (.ref f17) = true)
    (a18 : PySem.W.nsIn K mainGlobals "_law_is_address" = some (some (.ref f18))) (l18 : K.lookup f18 = some ⟨oc18, od18, .func (PySem.W.fnOf "_law_is_address" "_law_is_address" (defArgs sLAddr) (defBody sLAddr) (defScope sLAddr) .none kV18 dc18 pm18 an18 cd18 ct18), sl18⟩) (c18 : PySem.W.codeIn K cd18 "_law_is_address" = true) (k18 : PySem.W.keepIn K (.ref f18) = true)
    (a19 : PySem.W.nsIn K mainGlobals "_law_are" = some (some (.ref f19))) (l19 : K.lookup f19 = some ⟨oc19, od19, .func (PySem.W.fnOf "_law_are" "_law_are" (defArgs sLAre) (defBody sLAre) (defScope sLAre) .none kV19 dc19 pm19 an19 cd19 ct19), sl19⟩) (c19 : PySem.W.codeIn K cd19 "_law_are" = true) (k19 : PySem.W.keepIn K (.ref f19) = true)
    (a20 : PySem.W.nsIn K mainGlobals "_law_text" = some (some (.ref f20))) (l20 : K.lookup f20 = some ⟨oc20, od20, .func (PySem.W.fnOf "_law_text" "_law_text" (defArgs sLText) (defBody sLText) (defScope sLText) .none kV20 dc20 pm20 an20 cd20 ct20), sl20⟩) (c20 : PySem.W.codeIn K cd20 "_law_text" = true) (k20 : PySem.W.keepIn K (.ref f20) = true)
    (a21 : PySem.W.nsIn K mainGlobals "_law_read" = some (some (.ref f21))) (l21 : K.lookup f21 = some ⟨oc21, od21, .func (PySem.W.fnOf "_law_read" "_law_read" (defArgs sLRead) (defBody sLRead) (defScope sLRead) .none kV21 dc21 pm21 an21 cd21 ct21), sl21⟩) (c21 : PySem.W.codeIn K cd21 "_law_read" = true) (k21 : PySem.W.keepIn K (.ref f21) = true)
    (a22 : PySem.W.nsIn K mainGlobals "_law_address" = some (some (.ref f22))) (l22 : K.lookup f22 = some ⟨oc22, od22, .func (PySem.W.fnOf "_law_address" "_law_address" (defArgs sDAddr) (defBody sDAddr) (defScope sDAddr) .none kV22 dc22 pm22 an22 cd22 ct22), sl22⟩) (c22 : PySem.W.codeIn K cd22 "_law_address" = true) (k22 : PySem.W.keepIn K (.ref f22) = true)
    (a23 : PySem.W.nsIn K mainGlobals "law" = some (some (.ref f23))) (l23 : K.lookup f23 = some ⟨oc23, od23, .func (PySem.W.fnOf "law" "law" (defArgs sLaw) (defBody sLaw) (defScope sLaw) .none kV23 dc23 pm23 an23 cd23 ct23), sl23⟩) (c23 : PySem.W.codeIn K cd23 "law" = true) (k23 : PySem.W.keepIn K (.ref f23) = true)
    (w1 : PySem.W.nsIn K mainGlobals "WORD_SIGNS" = some (some (.str "abcdefghijklmnopqrstuvwxyz0123456789" t1)))
    (w2 : PySem.W.nsIn K mainGlobals "LONGEST_NAME" = some (some (.int 12 t2)))
    (w3 : PySem.W.nsIn K mainGlobals "MOST_NAMES" = some (some (.int 4 t3)))
    (x1 : PySem.W.nsIn K mainGlobals "NoText" = some (some (.ref C1))) (y1 : PySem.W.excIn K C1 VE "ValueError.__new__" = true)
    (z1 : PySem.W.nsIn K mainGlobals "len" = some none)
    (z2 : PySem.W.nsIn K mainGlobals "all" = some none)
    (z3 : PySem.W.nsIn K mainGlobals "isinstance" = some none)
    (z4 : PySem.W.nsIn K mainGlobals "str" = some none)
    (z5 : PySem.W.nsIn K mainGlobals "int" = some none)
    (z6 : PySem.W.nsIn K mainGlobals "bool" = some none)
    (z7 : PySem.W.nsIn K mainGlobals "tuple" = some none)
    (z8 : PySem.W.nsIn K mainGlobals "list" = some none)
    (z9 : PySem.W.nsIn K mainGlobals "range" = some none)
    (z10 : PySem.W.nsIn K mainGlobals "zip" = some none)
    (z11 : PySem.W.nsIn K mainGlobals "any" = some none)
    (z12 : PySem.W.nsIn K mainGlobals "sorted" = some none)
    (z13 : PySem.W.nsIn K mainGlobals "dict" = some none)
    (z14 : PySem.W.nsIn K mainGlobals "enumerate" = some none)
    (z15 : PySem.W.nsIn K mainGlobals "set" = some none)
    : ∃ fd : FuncData, (∀ (s : Shared) (v : Value), BindsTo s fd ⟨[v], []⟩ [("_law_script", v)]) ∧ ∀ base : Heap, K.In base → base.Ns mainGlobals mg → FnOk l.prog w K mg base CX0 8 fa fd ["_law_script"] (spLaw K) := by
  have e := hfa.symm.trans (PySem.W.mg_of X G0 a23)
  cases e
  have F1 := fun_mk (st := sWord) l1 c1 k1
  have F2 := fun_mk (st := sName) l2 c2 k2
  have F3 := fun_mk (st := sAddr) l3 c3 k3
  have F4 := fun_mk (st := sText) l4 c4 k4
  have F5 := fun_mk (st := sRead) l5 c5 k5
  have F6 := fun_mk (st := sLine) l6 c6 k6
  have F7 := fun_mk (st := sRText) l7 c7 k7
  have F8 := fun_mk (st := sRow) l8 c8 k8
  have F9 := fun_mk (st := sAre) l9 c9 k9
  have F10 := fun_mk (st := sRdRow) l10 c10 k10
  have F11 := fun_mk (st := sRdRows) l11 c11 k11
  have F12 := fun_mk (st := sSame) l12 c12 k12
  have F13 := fun_mk (st := sOr) l13 c13 k13
  have F14 := fun_mk (st := sDraw) l14 c14 k14
  have F15 := fun_mk (st := sPick) l15 c15 k15
  have F16 := fun_mk (st := sLName) l16 c16 k16
  have F17 := fun_mk (st := sTold) l17 c17 k17
  have F18 := fun_mk (st := sLAddr) l18 c18 k18
  have F19 := fun_mk (st := sLAre) l19 c19 k19
  have F20 := fun_mk (st := sLText) l20 c20 k20
  have F21 := fun_mk (st := sLRead) l21 c21 k21
  have F22 := fun_mk (st := sDAddr) l22 c22 k22
  have F23 := fun_mk (st := sLaw) l23 c23 k23
  have b1 := F1.binds (ps := ["text"]) fun _ _ _ _ _ _ us hl => match us, hl with | [_], _ => rfl
  have b2 := F2.binds (ps := ["thing"]) fun _ _ _ _ _ _ us hl => match us, hl with | [_], _ => rfl
  have b3 := F3.binds (ps := ["thing"]) fun _ _ _ _ _ _ us hl => match us, hl with | [_], _ => rfl
  have b4 := F4.binds (ps := ["address"]) fun _ _ _ _ _ _ us hl => match us, hl with | [_], _ => rfl
  have b5 := F5.binds (ps := ["text"]) fun _ _ _ _ _ _ us hl => match us, hl with | [_], _ => rfl
  have b6 := F6.binds (ps := ["row"]) fun _ _ _ _ _ _ us hl => match us, hl with | [_], _ => rfl
  have b7 := F7.binds (ps := ["rows"]) fun _ _ _ _ _ _ us hl => match us, hl with | [_], _ => rfl
  have b8 := F8.binds (ps := ["thing"]) fun _ _ _ _ _ _ us hl => match us, hl with | [_], _ => rfl
  have b9 := F9.binds (ps := ["thing"]) fun _ _ _ _ _ _ us hl => match us, hl with | [_], _ => rfl
  have b10 := F10.binds (ps := ["line"]) fun _ _ _ _ _ _ us hl => match us, hl with | [_], _ => rfl
  have b11 := F11.binds (ps := ["text"]) fun _ _ _ _ _ _ us hl => match us, hl with | [_], _ => rfl
  have b12 := F12.binds (ps := ["_law_told_here", "_law_due"]) fun _ _ _ _ _ _ us hl => match us, hl with | [_, _], _ => rfl
  have b13 := F13.binds (ps := ["_law_due"]) fun _ _ _ _ _ _ us hl => match us, hl with | [_], _ => rfl
  have b14 := F14.binds (ps := ["_law_script", "_law_town", "_law_many"]) fun _ _ _ _ _ _ us hl => match us, hl with | [_, _, _], _ => rfl
  have b15 := F15.binds (ps := ["_law_script", "_law_town", "_law_some"]) fun _ _ _ _ _ _ us hl => match us, hl with | [_, _, _], _ => rfl
  have b16 := F16.binds (ps := ["_law_thing"]) fun _ _ _ _ _ _ us hl => match us, hl with | [_], _ => rfl
  have b17 := F17.binds (ps := ["_law_text_here"]) fun _ _ _ _ _ _ us hl => match us, hl with | [_], _ => rfl
  have b18 := F18.binds (ps := ["_law_thing"]) fun _ _ _ _ _ _ us hl => match us, hl with | [_], _ => rfl
  have b19 := F19.binds (ps := ["_law_thing"]) fun _ _ _ _ _ _ us hl => match us, hl with | [_], _ => rfl
  have b20 := F20.binds (ps := ["_law_rows"]) fun _ _ _ _ _ _ us hl => match us, hl with | [_], _ => rfl
  have b21 := F21.binds (ps := ["_law_text_here"]) fun _ _ _ _ _ _ us hl => match us, hl with | [_], _ => rfl
  have b22 := F22.binds (ps := ["_law_script", "_law_town"]) fun _ _ _ _ _ _ us hl => match us, hl with | [_, _], _ => rfl
  have G : Blt mg := ⟨PySem.W.mg_none_of X G0 z1, PySem.W.mg_none_of X G0 z2, PySem.W.mg_none_of X G0 z3, PySem.W.mg_none_of X G0 z4, PySem.W.mg_none_of X G0 z5, PySem.W.mg_none_of X G0 z6, PySem.W.mg_none_of X G0 z7, PySem.W.mg_none_of X G0 z8, PySem.W.mg_none_of X G0 z9, PySem.W.mg_none_of X G0 z10, PySem.W.mg_none_of X G0 z11, PySem.W.mg_none_of X G0 z12, PySem.W.mg_none_of X G0 z13, PySem.W.mg_none_of X G0 z14⟩
  have Z_set : mg "set" = none := PySem.W.mg_none_of X G0 z15
  have W_WORD_SIGNS : ∃ t, mg "WORD_SIGNS" = some (.str "abcdefghijklmnopqrstuvwxyz0123456789" t) := ⟨_, PySem.W.mg_of X G0 w1⟩
  have W_LONGEST_NAME : ∃ t, mg "LONGEST_NAME" = some (.int 12 t) := ⟨_, PySem.W.mg_of X G0 w2⟩
  have W_MOST_NAMES : ∃ t, mg "MOST_NAMES" = some (.int 4 t) := ⟨_, PySem.W.mg_of X G0 w3⟩
  refine ⟨PySem.W.fnOf "law" "law" (defArgs sLaw) (defBody sLaw) (defScope sLaw) .none kV23 dc23 pm23 an23 cd23 ct23, fun s v => .of_eq rfl, fun base kb nb => ?_⟩
  have O_NoText : PyProof.Rows.OwnCls "NoText" C1 VE "ValueError.__new__" mg base := own_mk kb (PySem.W.mg_of X G0 x1) y1
  have H_is_word : Has l.prog w K mg base "is_word" 1 ["text"] spWord := ⟨f1, _, ok_word (k := 0) F1 G W_WORD_SIGNS, b1, k1, (PySem.W.mg_of X G0 a1)⟩
  have H_is_name : Has l.prog w K mg base "is_name" 2 ["thing"] (spNameV K) := ⟨f2, _, ok_name F2 G W_LONGEST_NAME H_is_word, b2, k2, (PySem.W.mg_of X G0 a2)⟩
  have H_is_address : Has l.prog w K mg base "is_address" 3 ["thing"] (spAddr K) := ⟨f3, _, ok_addr F3 G W_MOST_NAMES H_is_name, b3, k3, (PySem.W.mg_of X G0 a3)⟩
  have H_address_text : Has l.prog w K mg base "address_text" 1 ["address"] (spText K) := ⟨f4, _, ok_text (k := 0) F4, b4, k4, (PySem.W.mg_of X G0 a4)⟩
  have H_read_address : HasE l.prog w K mg base "read_address" 4 ["text"] (spRead K C1) := ⟨f5, _, ok_read F5 G O_NoText H_is_address, b5, k5, (PySem.W.mg_of X G0 a5)⟩
  have H_row_line : Has l.prog w K mg base "row_line" 2 ["row"] spLine := ⟨f6, _, ok_line F6 H_address_text, b6, k6, (PySem.W.mg_of X G0 a6)⟩
  have H_rows_text : Has l.prog w K mg base "rows_text" 3 ["rows"] spRText := ⟨f7, _, ok_rtext F7 H_row_line, b7, k7, (PySem.W.mg_of X G0 a7)⟩
  have H_is_row : Has l.prog w K mg base "is_row" 4 ["thing"] (spRow K) := ⟨f8, _, ok_row F8 G H_is_address, b8, k8, (PySem.W.mg_of X G0 a8)⟩
  have H_are_rows : Has l.prog w K mg base "are_rows" 5 ["thing"] (spAre K) := ⟨f9, _, ok_are F9 G Z_set H_is_row, b9, k9, (PySem.W.mg_of X G0 a9)⟩
  have H_read_row : HasE l.prog w K mg base "read_row" 5 ["line"] (spRdRow C1) := ⟨f10, _, ok_rdrow F10 G O_NoText H_read_address, b10, k10, (PySem.W.mg_of X G0 a10)⟩
  have H_read_rows : HasE l.prog w K mg base "read_rows" 6 ["text"] (spRdRows C1) := ⟨f11, _, ok_rdrows F11 G O_NoText H_read_row H_are_rows, b11, k11, (PySem.W.mg_of X G0 a11)⟩
  have H__law_same : Has l.prog w K mg base "_law_same" 4 ["_law_told_here", "_law_due"] (spSame K 4) := ⟨f12, _, ok_same F12 G b12 k12 (PySem.W.mg_of X G0 a12) 4, b12, k12, (PySem.W.mg_of X G0 a12)⟩
  have H__law_or : Has l.prog w K mg base "_law_or" 1 ["_law_due"] spOr := ⟨f13, _, ok_or (k := 0) F13, b13, k13, (PySem.W.mg_of X G0 a13)⟩
  have H__law_draw : Has l.prog w K mg base "_law_draw" 1 ["_law_script", "_law_town", "_law_many"] (spDraw K) := ⟨f14, _, ok_draw (k := 0) F14 G, b14, k14, (PySem.W.mg_of X G0 a14)⟩
  have H__law_pick : Has l.prog w K mg base "_law_pick" 2 ["_law_script", "_law_town", "_law_some"] (spPick K) := ⟨f15, _, ok_pick F15 G H__law_draw, b15, k15, (PySem.W.mg_of X G0 a15)⟩
  have H__law_is_name : Has l.prog w K mg base "_law_is_name" 1 ["_law_thing"] (spNameV K) := ⟨f16, _, ok_lname (k := 0) F16 G, b16, k16, (PySem.W.mg_of X G0 a16)⟩
  have H__law_told : Has l.prog w K mg base "_law_told" 7 ["_law_text_here"] spTold := ⟨f17, _, ok_told F17 O_NoText H_read_rows, b17, k17, (PySem.W.mg_of X G0 a17)⟩
  have H__law_is_address : Has l.prog w K mg base "_law_is_address" 2 ["_law_thing"] (spAddr K) := ⟨f18, _, ok_laddr F18 G H__law_is_name, b18, k18, (PySem.W.mg_of X G0 a18)⟩
  have H__law_are : Has l.prog w K mg base "_law_are" 3 ["_law_thing"] (spAre K) := ⟨f19, _, ok_lare F19 G H__law_is_address, b19, k19, (PySem.W.mg_of X G0 a19)⟩
  have H__law_text : Has l.prog w K mg base "_law_text" 1 ["_law_rows"] spRText := ⟨f20, _, ok_ltext (k := 0) F20, b20, k20, (PySem.W.mg_of X G0 a20)⟩
  have H__law_read : Has l.prog w K mg base "_law_read" 4 ["_law_text_here"] spLRead := ⟨f21, _, ok_lread F21 G H__law_are, b21, k21, (PySem.W.mg_of X G0 a21)⟩
  have H__law_address : Has l.prog w K mg base "_law_address" 3 ["_law_script", "_law_town"] (spDAddr K) := ⟨f22, _, ok_daddr F22 G (H__law_draw.mono (by decide)) H__law_pick, b22, k22, (PySem.W.mg_of X G0 a22)⟩
  exact ok_law (k := 7) F23 G (H__law_draw.mono (by decide)) (H__law_pick.mono (by decide)) (H__law_address.mono (by decide)) (H__law_text.mono (by decide)) (H_rows_text.mono (by decide)) (H__law_same.mono (by decide)) (H__law_told.mono (by decide)) (H__law_or.mono (by decide)) (H__law_read.mono (by decide)) (H_are_rows.mono (by decide)) (H__law_are.mono (by decide))
theorem walk {l : PySem.W.OpenLaw} {q : Program} {loose : List Str} {XP : (Str → Option Value) → Heap → Prop} {YP : World → Heap → Prop} {d : DefRec} {K : Params → PySem.W.Frag} (hn : l.most = some 63) (hdf : d.params.defaults = [])
    (hY : ∀ (w : World) (h : Heap), YP w h → (K w.params).In h)
    (F : ∀ (w : World) (mg : Str → Option Value) (fa : Addr) (h : Heap), (K w.params).In h → h.Ns mainGlobals mg → mg d.name = some (.ref fa) →
      ∃ fd : FuncData, (∀ (s : Shared) (u : Value), BindsTo s fd ⟨[u], []⟩ [("_law_script", u)]) ∧ ∀ base : Heap, (K w.params).In base → base.Ns mainGlobals mg → FnOk l.prog w (K w.params) mg base CX0 8 fa fd ["_law_script"] (spLaw (K w.params))) :
    PySem.W.WalkO q loose XP YP l.row.toRowW d [] (fun f vs => PySem.call f vs) :=
  L2.walk_of (n := 63) (k := 8) (x := "_law_script") (CX := fun _ => CX0) (sp := fun w => spLaw (K w.params)) hn (by decide) hdf ⟨rfl, by decide, by decide⟩ hY F (fun _ _ a ns hl hO hS => ⟨a, ns, rfl, scr_of hO hS, hl, fun _ => rfl⟩) fun _ _ _ _ _ z => z
end LW
open PySem PySem.W PyProof.Rows
set_option maxRecDepth 100000 in
set_option maxHeartbeats 0 in
theorem PySem.Challenge.cw_pagenames_k11_whole_rows_as_texts_holds : PySem.Challenge.rw_pagenames_k11_whole_rows_as_texts.Holds := by
  w_on; o_law; k_head; (case hw => w_witness2)
  k_fill
  refine LW.walk (l := PySem.Challenge.rw_pagenames_k11_whole_rows_as_texts) rfl rfl (fun w h Y => PySem.W.kIn_of Y) ?F
  case F =>
    intro w mg fa h KX G hmg
    refine' LW.all_mk KX G hmg ?a1 ?l1 ?c1 ?k1 ?a2 ?l2 ?c2 ?k2 ?a3 ?l3 ?c3 ?k3 ?a4 ?l4 ?c4 ?k4 ?a5 ?l5 ?c5 ?k5 ?a6 ?l6 ?c6 ?k6 ?a7 ?l7 ?c7 ?k7 ?a8 ?l8 ?c8 ?k8 ?a9 ?l9 ?c9 ?k9 ?a10 ?l10 ?c10 ?k10 ?a11 ?l11 ?c11 ?k11 ?a12 ?l12 ?c12 ?k12 ?a13 ?l13 ?c13 ?k13 ?a14 ?l14 ?c14 ?k14 ?a15 ?l15 ?c15 ?k15 ?a16 ?l16 ?c16 ?k16 ?a17 ?l17 ?c17 ?k17 ?a18 ?l18 ?c18 ?k18 ?a19 ?l19 ?c19 ?k19 ?a20 ?l20 ?c20 ?k20 ?a21 ?l21 ?c21 ?k21 ?a22 ?l22 ?c22 ?k22 ?a23 ?l23 ?c23 ?k23 ?w1 ?w2 ?w3 ?x1 ?y1 ?z1 ?z2 ?z3 ?z4 ?z5 ?z6 ?z7 ?z8 ?z9 ?z10 ?z11 ?z12 ?z13 ?z14 ?z15
    (case a1 => k_is)
    (case l1 => k_is)
    (case c1 => k_is)
    (case k1 => k_is)
    (case a2 => k_is)
    (case l2 => k_is)
    (case c2 => k_is)
    (case k2 => k_is)
    (case a3 => k_is)
    (case l3 => k_is)
    (case c3 => k_is)
    (case k3 => k_is)
    (case a4 => k_is)
    (case l4 => k_is)
    (case c4 => k_is)
    (case k4 => k_is)
    (case a5 => k_is)
    (case l5 => k_is)
    (case c5 => k_is)
    (case k5 => k_is)
    (case a6 => k_is)
    (case l6 => k_is)
    (case c6 => k_is)
    (case k6 => k_is)
    (case a7 => k_is)
    (case l7 => k_is)
    (case c7 => k_is)
    (case k7 => k_is)
    (case a8 => k_is)
    (case l8 => k_is)
    (case c8 => k_is)
    (case k8 => k_is)
    (case a9 => k_is)
    (case l9 => k_is)
    (case c9 => k_is)
    (case k9 => k_is)
    (case a10 => k_is)
    (case l10 => k_is)
    (case c10 => k_is)
    (case k10 => k_is)
    (case a11 => k_is)
    (case l11 => k_is)
    (case c11 => k_is)
    (case k11 => k_is)
    (case a12 => k_is)
    (case l12 => k_is)
    (case c12 => k_is)
    (case k12 => k_is)
    (case a13 => k_is)
    (case l13 => k_is)
    (case c13 => k_is)
    (case k13 => k_is)
    (case a14 => k_is)
    (case l14 => k_is)
    (case c14 => k_is)
    (case k14 => k_is)
    (case a15 => k_is)
    (case l15 => k_is)
    (case c15 => k_is)
    (case k15 => k_is)
    (case a16 => k_is)
    (case l16 => k_is)
    (case c16 => k_is)
    (case k16 => k_is)
    (case a17 => k_is)
    (case l17 => k_is)
    (case c17 => k_is)
    (case k17 => k_is)
    (case a18 => k_is)
    (case l18 => k_is)
    (case c18 => k_is)
    (case k18 => k_is)
    (case a19 => k_is)
    (case l19 => k_is)
    (case c19 => k_is)
    (case k19 => k_is)
    (case a20 => k_is)
    (case l20 => k_is)
    (case c20 => k_is)
    (case k20 => k_is)
    (case a21 => k_is)
    (case l21 => k_is)
    (case c21 => k_is)
    (case k21 => k_is)
    (case a22 => k_is)
    (case l22 => k_is)
    (case c22 => k_is)
    (case k22 => k_is)
    (case a23 => k_is)
    (case l23 => k_is)
    (case c23 => k_is)
    (case k23 => k_is)
    (case w1 => k_is)
    (case w2 => k_is)
    (case w3 => k_is)
    (case x1 => k_is)
    (case y1 => k_exc)
    (case z1 => k_is)
    (case z2 => k_is)
    (case z3 => k_is)
    (case z4 => k_is)
    (case z5 => k_is)
    (case z6 => k_is)
    (case z7 => k_is)
    (case z8 => k_is)
    (case z9 => k_is)
    (case z10 => k_is)
    (case z11 => k_is)
    (case z12 => k_is)
    (case z13 => k_is)
    (case z14 => k_is)
    (case z15 => k_is)
