import PyProof.Rows.All
import Wide.All
import OpenK.AllK
import Wide.FinOn
import Lean
import PyProof.EqAt
import PyProof.EqKinds
import PyProof.TupleCall
import PyProof.ExcBaseAll.ValueError
import PyProof.ExcAttrAll.ValueError
import PyProof.NsDelKeeps
import PySem.Challenge.RW_dutyproof_k31_ranks_by_orders
set_option Elab.async false
set_option linter.all false
set_option maxRecDepth 100000
theorem Zf {p : Prop} (h : False) : p := h.elim
namespace L2
open PySem PySem.Spec PyProof.Rows
noncomputable abbrev Key := Sum Int Str
noncomputable def Jt4 : Key -> Value -> Bool
 | .inl k, v => Value.isInt k v
 | .inr x, v => Value.isStrOf x v
noncomputable def keyH (w : World) : Key -> Int
 | .inl k => hashInt k
 | .inr x => hashStr w x
theorem Jz : ∀ {k : Key} {v : Value}, Jt4 k v = true -> (∃ i t, k = Sum.inl i /\ v = Value.int i t) ∨ (∃ x t, k = Sum.inr x /\ v = Value.str x t)
 | .inl i, v, h => by
  obtain ⟨t, e⟩ := Value.isInt_shape (k := i) (v := v) h
  exact .inl ⟨i, t, rfl, e⟩
 | .inr x, v, h => by
  obtain ⟨t, e⟩ := Value.isStrOf_shape (x := x) (v := v) h
  exact .inr ⟨x, t, rfl, e⟩
theorem Jv7 (i : Int) (t : Tok) : Jt4 (.inl i) (.int i t) = true := by simp [Jt4, Value.isInt]
theorem Ju5 (x : Str) (t : Tok) : Jt4 (.inr x) (.str x t) = true := by simp [Jt4, Value.isStrOf]
theorem J5r (a b : Int) : decide ((Sum.inl a : Key) = Sum.inl b) = (a == b) := by
 by_cases e : a = b
 ·subst e; simp
 ·have h : ¬ (Sum.inl a : Key) = Sum.inl b := λ q => e (Sum.inl.inj q)
  rw [decide_eq_false h]
  exact (beq_eq_false_iff_ne.mpr e).symm
theorem J4h (a b : Str) : decide ((Sum.inr a : Key) = Sum.inr b) = decide (a = b) := by
 by_cases e : a = b
 ·subst e; simp
 ·have h : ¬ (Sum.inr a : Key) = Sum.inr b := λ q => e (Sum.inr.inj q)
  rw [decide_eq_false h, decide_eq_false e]
theorem J45 (a : Int) (b : Str) : decide ((Sum.inl a : Key) = Sum.inr b) = false := decide_eq_false (λ q => nomatch q)
theorem J54 (a : Str) (b : Int) : decide ((Sum.inr a : Key) = Sum.inl b) = false := decide_eq_false (λ q => nomatch q)
noncomputable def Jbn (prog : Program) (w : World) : PySem.KeyKind prog w Key where
 is := Jt4
 hash := keyH w
 inj := λ v a b ha hb => by
  rcases Jz ha with ⟨i, t, rfl, rfl⟩ | ⟨x, t, rfl, rfl⟩
  ·rcases Jz hb with ⟨j, u, rfl, e⟩ | ⟨y, u, rfl, e⟩
   ·injection e with e1 _; rw [e1]
   ·exact nomatch e
  ·rcases Jz hb with ⟨j, u, rfl, e⟩ | ⟨y, u, rfl, e⟩
   ·exact nomatch e
   ·injection e with e1 _; rw [e1]
 byValue := λ k v h => by
  rcases Jz h with ⟨i, t, rfl, rfl⟩ | ⟨x, t, rfl, rfl⟩ <;> rfl
 pyHash := λ hv h => by
  rcases Jz hv with ⟨i, t, rfl, rfl⟩ | ⟨x, t, rfl, rfl⟩
  ·exact wpAny_pyHash_int h
  ·exact wpAny_pyHash_str h
 eqBool := λ hu hv h => by
  rcases Jz hu with ⟨i, t, rfl, rfl⟩ | ⟨x, t, rfl, rfl⟩
  ·rcases Jz hv with ⟨j, u, rfl, rfl⟩ | ⟨y, u, rfl, rfl⟩
   ·rw [J5r] at h; exact wpAny_eqBool_int h
   ·rw [J45] at h; exact SeqAt.EqAt.int_str i t y u _ _ _ _ h
  ·rcases Jz hv with ⟨j, u, rfl, rfl⟩ | ⟨y, u, rfl, rfl⟩
   ·rw [J54] at h; exact SeqAt.EqAt.str_int x t j u _ _ _ _ h
   ·rw [J4h] at h; exact wpAny_eqBool_str h
 «strs» := λ k x t v h => by
  rcases Jz h with ⟨i, u, rfl, e⟩ | ⟨y, u, rfl, e⟩
  ·exact nomatch e
  ·injection e with e1 _
   subst e1
   cases v <;> rfl
theorem Jsc (prog : Program) (w : World) (i : Int) (t : Tok) : (Jbn prog w).is (.inl i) (.int i t) = true := Jv7 i t
theorem Jsm (prog : Program) (w : World) (x : Str) (t : Tok) : (Jbn prog w).is (.inr x) (.str x t) = true := Ju5 x t
end L2
namespace L2
open PySem PySem.Spec PyProof.Rows
inductive V where
 | non | bl (b : Bool) | int (i : Int) | str (x : Str) | byt (b : Array UInt8) | flt (b : UInt64) | ref (a : Addr) | ty (n : String)
 deriving DecidableEq
noncomputable def RelV : V -> Value -> Prop
 | .non, u => u = Value.none
 | .bl b, u => u = Value.bool b
 | .int i, u => ∃ t, u = Value.int i t
 | .str x, u => ∃ t, u = Value.str x t
 | .byt b, u => ∃ t, u = Value.bytes b t
 | .flt b, u => ∃ t, u = Value.float b t
 | .ref a, u => u = Value.ref a
 | .ty n, u => u = Value.type n
noncomputable abbrev Vals : List V -> List Value -> Prop := Paired RelV
theorem Vals.length {xs : List V} {us : List Value} (r : Vals xs us) : xs.length = us.length := Paired.length r
theorem Vals.get : ∀ {xs : List V} {us : List Value} {i : Nat} {x : V}, Vals xs us -> xs[i]? = some x -> ∃ u, us[i]? = some u /\ RelV x u
 | _, _, _, _, .nil, e => by simp at e
 | _, _, 0, _, .cons r _, e => by simp at e; subst e; exact ⟨_, rfl, r⟩
 | _, _, i + 1, x, .cons _ t, e => by
  obtain ⟨u, h1, h2⟩ := Vals.get (i := i) (x := x) t (by simpa using e)
  exact ⟨u, by simpa using h1, h2⟩
theorem Vals.set {x : V} {u : Value} (r : RelV x u) : ∀ {xs : List V} {us : List Value} (i : Nat), Vals xs us -> Vals (xs.set i x) (us.set i u)
 | _, _, _, .nil => .nil
 | _, _, 0, .cons _ t => .cons r t
 | _, _, i + 1, .cons q t => .cons q (Vals.set r i t)
theorem Vals.append : ∀ {xs ys : List V} {us ws : List Value}, Vals xs us -> Vals ys ws -> Vals (xs ++ ys) (us ++ ws)
 | _, _, _, _, .nil, s => s
 | _, _, _, _, .cons r t, s => .cons r (Vals.append t s)
theorem Vals.take : ∀ {xs : List V} {us : List Value} (n : Nat), Vals xs us -> Vals (xs.take n) (us.take n)
 | _, _, 0, _ => .nil
 | _, _, _ + 1, .nil => .nil
 | _, _, n + 1, .cons r t => .cons r (Vals.take n t)
theorem Vals.drop : ∀ {xs : List V} {us : List Value} (n : Nat), Vals xs us -> Vals (xs.drop n) (us.drop n)
 | _, _, 0, r => r
 | _, _, _ + 1, .nil => .nil
 | _, _, n + 1, .cons _ t => Vals.drop n t
noncomputable def RelO : Option V -> Option Value -> Prop
 | some v, some u => RelV v u
 | none, none => True
 | _, _ => False
noncomputable def KV {κ : Type} : List (κ × V) -> List (κ × Value) -> Prop := Paired λ (p : κ × V) (q : κ × Value) => p.1 = q.1 /\ RelV p.2 q.2
noncomputable def kV : Key -> V
 | .inl i => .int i
 | .inr x => .str x
inductive HO where
 /-- a list -/
 | lst (xs : List V)
 /-- a tuple (never changes) -/
 | tup (xs : List V)
 /-- a dict whose keys are ints and texts; one whose keys are tuples of ints and texts (the empty one is both) -/
 | dK (kvs : List (Key × V)) | dT (kvs : List (List Key × V))
 /-- a set of ints: its members, its size -/
 | set (S : Int -> Bool) (n : Nat)
 /-- an instance of the class at C, its dict at dx, its attributes -/
 | ins (C dx : Addr) (fs : List (Str × V))
 /-- the dict of the instance at x -/
 | own (x : Addr)
 /-- the dict of an exception -/
 | xd (fs : List (Str × V))
 /-- a bound method, f of x -/
 | met (f x : Addr)
 /-- a range object lo, lo + 1, .. below hi -/
 | rng (lo hi : Int)
 /-- a thing that is known to the object (the script; a dict while a loop walks it): read, never written while it is so -/
 | frz (o : Obj) (u : HO)
 /-- a code object's table -/
 | tbl (ps : Array Value)
 /-- any other thing, by what is true of its one object (a def of one's own: SetO a S n := HO.ext λ h => ..) -/
 | ext (φ : Heap -> Prop)
noncomputable abbrev Hp := Addr -> Option HO
noncomputable def upd (H : Hp) (a : Addr) (o : HO) : Hp := λ b => if b = a then some o else H b
theorem Jf {H : Hp} {a : Addr} {o : HO} : upd H a o a = some o := by unfold upd; rw [if_pos rfl]
theorem Jg {H : Hp} {a b : Addr} {o : HO} (h : b ≠ a) : upd H a o b = H b := by unfold upd; rw [if_neg h]
theorem Jx {H : Hp} {a b : Addr} {o : HO} (h : H a = some o) (h' : H b = none) : a ≠ b := by
 intro e; subst e; rw [h] at h'; cases h'
section
variable (P : Program) (w : World)
noncomputable def Jb5 (H : Hp) (h : Heap) (a : Addr) : HO -> Prop
 | .lst xs => xs.length <= sizeLine /\ ∃ (its : List Value) (n : Nat), Vals xs its /\ h.get? a = some { cls := .type "list", data := .seq its.toArray n }
 | .tup xs => xs.length <= sizeLine /\ ∃ its : List Value, Vals xs its /\ IsTup h a its.toArray
 | .dK kvs => kvs.length <= sizeLine /\ (a == sysModules) = false /\ ∃ vs, KV kvs vs /\ h.DictOf (Jbn P w) a vs
 | .dT kvs => kvs.length <= sizeLine /\ (a == sysModules) = false /\ ∃ xs : List (List Key × Addr × Value),
   Paired (λ (p : List Key × V) (q : List Key × Addr × Value) => p.1 = q.1 /\ H q.2.1 = some (.tup (p.1.map kV)) /\ RelV p.2 q.2.2) kvs xs /\
   ∃ o es ep, h.get? a = some o /\ o.ExactDict /\ o.data = .dict es ep /\ es.toList = xs.map (entryOfKey (tupleKind (Jbn P w))) /\ (xs.map (·.1)).Nodup
 | .set S n => h.SetOf (intKind P w) a S n
 | .ins C dx fs => H dx = some (.own a) /\ fs.length <= 1000 /\ dx ≠ a /\ h.get? a = some (W.instObj C dx) /\
   ∃ mA, h.Ns1 dx mA /\ (∀ f, RelO (fs.lookup f) (mA f)) /\ PySem.Within mA (fs.map (·.1))
 | .own _ => ∃ o, h.get? a = some o
 | .xd fs => ∃ mA, h.Ns1 a mA /\ ∀ f, RelO (fs.lookup f) (mA f)
 | .rng lo hi => ∃ t u v, h.get? a = some { cls := .type "range", data := .fields #[.int lo t, .int hi u, .int 1 v] }
 | .frz o u => h.get? a = some o /\ Jb5 H h a u
 | .tbl ps => h.get? a = some { cls := .none, data := .fields ps }
 | .met f x => h.get? a = some (W.methodObj (.ref f) (.ref x))
 | .ext φ => φ h /\ (∃ o, h.get? a = some o) /\ ∀ h1 h2 : Heap, φ h1 -> (∀ o, h1.get? a = some o -> h2.get? a = some o) -> φ h2
noncomputable def HOk (H : Hp) (h : Heap) : Prop := ∀ a o, H a = some o -> Jb5 P w H h a o
end
section
variable {P : Program} {w : World} {H H' : Hp} {h h' : Heap} {a : Addr} {o : HO}
theorem Jb5.lt (x : Jb5 P w H h a o) : a < h.objs.size := by
 cases o with
 | lst xs => obtain ⟨_, _, _, _, e⟩ := x; exact Heap.lt_size e
 | tup xs => obtain ⟨_, _, _, p⟩ := x; exact p.lt
 | dK kvs => obtain ⟨_, _, _, _, o, _, _, e, _⟩ := x; exact Heap.lt_size e
 | dT kvs => obtain ⟨_, _, _, _, o, _, _, e, _⟩ := x; exact Heap.lt_size e
 | set S n => obtain ⟨o, _, _, _, e, _⟩ := x; exact Heap.lt_size e
 | ins C dx fs => obtain ⟨_, _, _, e, _⟩ := x; exact Heap.lt_size e
 | own y => obtain ⟨_, e⟩ := x; exact Heap.lt_size e
 | xd fs => obtain ⟨_, ⟨_, _, _, e, _⟩, _⟩ := x; exact Heap.lt_size e
 | rng lo hi => obtain ⟨_, _, _, e⟩ := x; exact Heap.lt_size e
 | frz ob u => obtain ⟨e, _⟩ := x; exact Heap.lt_size e
 | tbl ps => exact Heap.lt_size (show h.get? a = some _ from x)
 | met f y => exact Heap.lt_size (show h.get? a = some _ from x)
 | ext φ => obtain ⟨_, ⟨_, e⟩, _⟩ := x; exact Heap.lt_size e
theorem Paired.mapP {α β : Type} {F G : α -> β -> Prop} : ∀ {l₁ : List α} {l₂ : List β}, Paired F l₁ l₂ -> (∀ a b, F a b -> G a b) -> Paired G l₁ l₂
 | _, _, .nil, _ => .nil
 | _, _, .cons r t, f => .cons (f _ _ r) (Paired.mapP t f)
theorem Jb5.stay (x : Jb5 P w H h a o) (k : ∀ b u, (b = a ∨ H b = some (.own a)) -> h.get? b = some u -> h'.get? b = some u)
  (ho : ∀ b, H b = some (.own a) -> H' b = some (.own a)) (ht : ∀ b xs, H b = some (.tup xs) -> H' b = some (.tup xs)) : Jb5 P w H' h' a o := by
 induction o with
 | lst xs => obtain ⟨z, its, n, r, e⟩ := x; exact ⟨z, its, n, r, k _ _ (.inl rfl) e⟩
 | tup xs => obtain ⟨z, its, r, ob, e, c⟩ := x; exact ⟨z, its, r, ob, k _ _ (.inl rfl) e, c⟩
 | dK kvs => obtain ⟨z, y, vs, r, ob, es, ep, e, c⟩ := x; exact ⟨z, y, vs, r, ob, es, ep, k _ _ (.inl rfl) e, c⟩
 | dT kvs =>
  obtain ⟨z, y, xs, r, ob, es, ep, e, c⟩ := x
  exact ⟨z, y, xs, Paired.mapP r λ p q z => ⟨z.1, ht _ _ z.2.1, z.2.2⟩, ob, es, ep, k _ _ (.inl rfl) e, c⟩
 | set S n => obtain ⟨ob, es, ep, t, e, c⟩ := x; exact ⟨ob, es, ep, t, k _ _ (.inl rfl) e, c⟩
 | ins C dx fs =>
  obtain ⟨d, z, ne, e, mA, ⟨od, es, ep, e2, c⟩, r⟩ := x
  exact ⟨ho _ d, z, ne, k _ _ (.inl rfl) e, mA, ⟨od, es, ep, k _ _ (.inr d) e2, c⟩, r⟩
 | own y => obtain ⟨ob, e⟩ := x; exact ⟨ob, k _ _ (.inl rfl) e⟩
 | xd fs => obtain ⟨mA, ⟨od, es, ep, e, c⟩, r⟩ := x; exact ⟨mA, ⟨od, es, ep, k _ _ (.inl rfl) e, c⟩, r⟩
 | rng lo hi => obtain ⟨t, u, v, e⟩ := x; exact ⟨t, u, v, k _ _ (.inl rfl) e⟩
 | frz ob u ih => obtain ⟨e, q⟩ := x; exact ⟨k _ _ (.inl rfl) e, ih q⟩
 | tbl ps =>
  have e : h.get? a = some { cls := .none, data := .fields ps } := x
  show h'.get? a = some { cls := .none, data := .fields ps }
  exact k a _ (.inl rfl) e
 | met f y =>
  have e : h.get? a = some (W.methodObj (.ref f) (.ref y)) := x
  show h'.get? a = some (W.methodObj (.ref f) (.ref y))
  exact k a _ (.inl rfl) e
 | ext φ => obtain ⟨p, ⟨o, e⟩, st⟩ := x; exact ⟨st _ _ p λ o q => k _ _ (.inl rfl) q, ⟨o, k _ _ (.inl rfl) e⟩, st⟩
theorem HOk.lt (x : HOk P w H h) (e : H a = some o) : a < h.objs.size := (x a o e).lt
theorem HOk.fresh (x : HOk P w H h) (e : h.objs.size <= a) : H a = none := by
 cases q : H a with
 | none => rfl
 | some u => exact absurd (Nat.lt_of_lt_of_le (x.lt q) e) (Nat.lt_irrefl _)
theorem HOk.kept (x : HOk P w H h) (k : ∀ b u, h.get? b = some u -> h'.get? b = some u) : HOk P w H h' := λ a o e =>
 (x a o e).stay (λ b u _ q => k b u q) (λ _ q => q) λ _ _ q => q
theorem HOk.laid (x : HOk P w H h) (k : ∀ b u, h.get? b = some u -> h'.get? b = some u) (hp : h.objs.size <= a) (new : Jb5 P w (upd H a o) h' a o) : HOk P w (upd H a o) h' := λ b u e => by
 have hn := x.fresh hp
 by_cases hb : b = a
 ·subst hb; rw [Jf] at e; cases e; exact new
 ·rw [Jg hb] at e
  exact (x b u e).stay (λ c v _ q => k c v q) (λ c q => by rw [Jg (Jx q hn)]; exact q) λ c xs q => by rw [Jg (Jx q hn)]; exact q
end
noncomputable def Rd (H : Hp) (a : Addr) (u : HO) : Prop := H a = some u ∨ ∃ o, H a = some (.frz o u)
theorem Rd.of {H : Hp} {a : Addr} {u : HO} (h : H a = some u) : Rd H a u := .inl h
theorem Rd.ok {P : Program} {w : World} {H : Hp} {h : Heap} {a : Addr} {u : HO} (r : Rd H a u) (x : HOk P w H h) : Jb5 P w H h a u := by
 rcases r with r | ⟨o, r⟩
 ·exact x a u r
 ·obtain ⟨_, q⟩ := x a _ r
  exact q
noncomputable def Mut : Option HO -> Prop
 | some (.lst _) => True
 | some (.dK _) => True
 | some (.dT _) => True
 | some (.set _ _) => True
 | some (.ins _ _ _) => True
 | some (.ext _) => True
 | _ => False
section
variable {P : Program} {w : World} {H : Hp} {h h' : Heap} {x e : Addr} {o' : HO}
theorem HOk.write (ok : HOk P w H h) (mu : Mut (H x)) (he : e = x ∨ H e = some (.own x)) (k : ∀ b u, b ≠ e -> h.get? b = some u -> h'.get? b = some u) (heo : ∃ u, h'.get? e = some u)
  (new : Jb5 P w (upd H x o') h' x o') : HOk P w (upd H x o') h' := λ b u q => by
 have nown : ∀ c y, H c = some (.own y) -> c ≠ x := λ c y r z => by subst z; rw [r] at mu; exact mu
 have ntup : ∀ c xs, H c = some (.tup xs) -> c ≠ x := λ c xs r z => by subst z; rw [r] at mu; exact mu
 by_cases hb : b = x
 ·subst hb; rw [Jf] at q; cases q; exact new
 ·rw [Jg hb] at q
  by_cases hbe : b = e
  ·have q' : H b = some (.own x) := by
    rcases he with z | z
    ·exact absurd (hbe.trans z) hb
    ·rw [hbe]; exact z
   rw [q] at q'; cases q'
   obtain ⟨v, hv⟩ := heo
   exact ⟨v, by rw [hbe]; exact hv⟩
  ·refine (ok b u q).stay (λ c v hc r => k c v ?_ r) (λ c r => by rw [Jg (nown c b r)]; exact r) λ c xs r => by rw [Jg (ntup c xs r)]; exact r
   rcases hc with rfl | hc
   ·exact hbe
   ·rintro rfl
    rcases he with z | z
    ·exact nown c b hc z
    ·rw [hc] at z; cases z; exact hb rfl
end
structure Un (fs ex : List Addr) (H H' : Hp) (h h' : Heap) : Prop where
 keep : ∀ b o, h.get? b = some o -> H b = none -> b ∉ fs -> b ∉ ex -> h'.get? b = some o
 slot : ∀ b o, h.get? b = some o -> H b = none -> b ∈ fs -> b ∉ ex -> ∃ sl, h'.get? b = some { o with slots := sl }
 free : ∀ b o, h.get? b = some o -> H b = none -> b ∉ ex -> H' b = none
 there : ∀ b o, h.get? b = some o -> b ∉ ex -> ∃ o', h'.get? b = some o'
 tups : ∀ b xs, H b = some (.tup xs) -> H' b = some (.tup xs)
 frzs : ∀ b o u, H b = some (.frz o u) -> H' b = some (.frz o u)
 tbls : ∀ b ps, H b = some (.tbl ps) -> ∃ more, H' b = some (.tbl (ps ++ more))
section
variable {fs fs' ex ex' : List Addr} {H H1 H2 : Hp} {h h1 h2 h' : Heap} {a x e : Addr} {o : HO}
theorem Un.any (u : Un fs ex H H1 h h1) {b : Addr} {ob : Obj} (q : h.get? b = some ob) (n : H b = none) (hx : b ∉ ex) : ∃ sl, h1.get? b = some { ob with slots := sl } := by
 by_cases hb : b ∈ fs
 ·exact u.slot b ob q n hb hx
 ·exact ⟨ob.slots, u.keep b ob q n hb hx⟩
theorem Un.trans (a : Un fs ex H H1 h h1) (b : Un fs ex H1 H2 h1 h2) : Un fs ex H H2 h h2 where
 keep := λ c ob q n hc hx => b.keep c ob (a.keep c ob q n hc hx) (a.free c ob q n hx) hc hx
 slot := λ c ob q n hc hx => by
  obtain ⟨sl, e1⟩ := a.slot c ob q n hc hx
  obtain ⟨sl', e2⟩ := b.slot c _ e1 (a.free c ob q n hx) hc hx
  exact ⟨sl', e2⟩
 free := λ c ob q n hx => by
  obtain ⟨o', e1⟩ := a.there c ob q hx
  exact b.free c o' e1 (a.free c ob q n hx) hx
 there := λ c ob q hx => by
  obtain ⟨o', e1⟩ := a.there c ob q hx
  exact b.there c o' e1 hx
 tups := λ c xs q => b.tups c xs (a.tups c xs q)
 frzs := λ c ob xs q => b.frzs c ob xs (a.frzs c ob xs q)
 tbls := λ c ps q => by
  obtain ⟨m1, e1⟩ := a.tbls c ps q
  obtain ⟨m2, e2⟩ := b.tbls c _ e1
  exact ⟨m1 ++ m2, by rw [e2, Array.append_assoc]⟩
theorem Un.kept (k : ∀ b u, h.get? b = some u -> h'.get? b = some u) : Un fs ex H H h h' :=
 ⟨λ b ob q _ _ _ => k b ob q, λ b ob q _ _ _ => ⟨ob.slots, k b ob q⟩, λ _ _ _ n _ => n, λ b ob q _ => ⟨ob, k b ob q⟩, λ _ _ q => q, λ _ _ _ q => q, λ _ ps q => ⟨#[], by rw [q]; simp⟩⟩
theorem Un.refl : Un fs ex H H h h := Un.kept λ _ _ q => q
theorem Un.laid (k : ∀ b u, h.get? b = some u -> h'.get? b = some u) (hp : h.objs.size <= a) (hn : H a = none) : Un fs ex H (upd H a o) h h' where
 keep := λ b u q _ _ _ => k b u q
 slot := λ b u q _ _ _ => ⟨u.slots, k b u q⟩
 free := λ b u q n _ => by rw [Jg (Nat.ne_of_lt (Nat.lt_of_lt_of_le (Heap.lt_size q) hp))]; exact n
 there := λ b u q _ => ⟨u, k b u q⟩
 tups := λ b xs q => by rw [Jg (Jx q hn)]; exact q
 frzs := λ b u xs q => by rw [Jg (Jx q hn)]; exact q
 tbls := λ b ps q => ⟨#[], by rw [Jg (Jx q hn), q]; simp⟩
theorem Un.write (mu : Mut (H x)) (he : e = x ∨ H e = some (.own x)) (k : ∀ b u, b ≠ e -> h.get? b = some u -> h'.get? b = some u) (heo : ∃ u, h'.get? e = some u) : Un fs ex H (upd H x o) h h' := by
 have hx : ∀ b, H b = none -> b ≠ x := λ b n z => by subst z; rw [n] at mu; exact mu
 have hb : ∀ b, H b = none -> b ≠ e := λ b n z => by
  subst z
  rcases he with r | r
  ·exact hx b n r
  ·rw [n] at r; cases r
 have hm : ∀ b u, H b = some u -> ¬ Mut (some u) -> b ≠ x := λ b u q nm z => by subst z; rw [q] at mu; exact nm mu
 refine ⟨λ b u q n _ _ => k b u (hb b n) q, λ b u q n _ _ => ⟨u.slots, k b u (hb b n) q⟩, λ b u q n _ => by rw [Jg (hx b n)]; exact n, λ b u q _ => ?_,
  λ b xs q => by rw [Jg (hm b _ q λ z => z)]; exact q, λ b u xs q => by rw [Jg (hm b _ q λ z => z)]; exact q, λ b ps q => ⟨#[], by rw [Jg (hm b _ q λ z => z), q]; simp⟩⟩
 by_cases hbe : b = e
 ·subst hbe; exact heo
 ·exact ⟨u, k b u hbe q⟩
theorem Un.mono (u : Un fs ex H H1 h h1) (hs : ∀ b ∈ fs, b ∈ fs') (hx : ∀ b ∈ ex, b ∈ ex') : Un fs' ex' H H1 h h1 :=
 ⟨λ b ob q n hb he => u.keep b ob q n (λ z => hb (hs b z)) λ z => he (hx b z), λ _ _ q n _ he => u.any q n λ z => he (hx _ z), λ b ob q n he => u.free b ob q n λ z => he (hx b z), λ b ob q he => u.there b ob q λ z => he (hx b z), u.tups, u.frzs, u.tbls⟩
end
noncomputable def trk (h : Heap) (H : Hp) : List Addr := (List.range h.objs.size).filter λ a => (H a).isSome
noncomputable def hidT (h : Heap) (H : Hp) : Heap := W.hideAll h (trk h H)
theorem Jxs (h : Heap) (H : Hp) : (hidT h H).objs.size = h.objs.size := W.hideAll_size _ _
theorem Jyk {h : Heap} {H : Hp} {b : Addr} {o : Obj} (e : h.get? b = some o) (n : H b = none) : (hidT h H).get? b = some o :=
 W.hideAll_get _ e λ hm => by
  have q : (H b).isSome = true := (List.mem_filter.mp hm).2
  rw [n] at q; simp at q
theorem J2s {h : Heap} {H : Hp} {b : Addr} {o : Obj} (e : (hidT h H).get? b = some o) : h.get? b = some o /\ H b = none := by
 have e' : h.get? b = some o := W.of_hideAll (trk h H) e
 refine ⟨e', ?_⟩
 cases q : H b with
 | none => rfl
 | some x =>
  have hm : b ∈ trk h H := List.mem_filter.mpr ⟨List.mem_range.mpr (Heap.lt_size e'), by simp [q]⟩
  have z : (hidT h H).get? b = none := W.hideAll_none (trk h H) hm
  rw [z] at e; cases e
noncomputable def J2h (g h : Heap) (L : Addr) : List (Addr × Obj) := (List.range h.objs.size).filterMap λ a => if a = L ∨ (g.get? a).isSome = true then none else (h.get? a).map λ o => (a, o)
noncomputable def rest (g h : Heap) (L d : Addr) : List (Addr × Obj) := (J2h g h L).filter λ p => decide (p.1 ≠ d)
end L2
namespace L2
open PySem PySem.Spec PyProof.Rows
structure Mod (K : W.Frag) (mg : Str -> Option Value) (base : Heap) : Prop where
 kin : K.In base
 glob : base.Ns mainGlobals mg
 blt : ∃ mb, base.Ns builtinsNs mb /\ ∀ x : Str, x ≠ "__name__" -> mb x = bootBuiltins x
 nolimit : base.NoLimit
structure Cx where
 prog : Program
 w : World
 K : W.Frag
 mg : Str -> Option Value
 base : Heap
 A : Around
 N : List Str
 s₀ : Shared
 H₀ : Hp
 env : Env
 outer : List Env
 stack : List Env
 ex : List Addr
 fn : Str -> Bool
 calm : Bool
 pn : List (Addr × Obj)
 xe : Value -> Shared -> Prop
noncomputable def frs (l : List Env) : List Addr := l.filterMap (·.frame)
noncomputable abbrev Cx.fs (X : Cx) : List Addr := frs X.outer
noncomputable def Vis (sc : Scope) (x : Str) : Prop := sc.names.lookup x = some .local ∨ sc.names.lookup x = some .cell ∨ sc.names.lookup x = some .free
noncomputable def Loc (sc : Scope) (x : Str) : Prop := sc.names.lookup x = some .local ∨ sc.names.lookup x = some .cell
noncomputable def Look (env : Env) (h : Heap) (m : Str -> Option Value) (x : Str) (u : Value) : Prop :=
 (env.kindOf x = some .local /\ m x = some u) ∨ ((env.kindOf x = some .cell ∨ env.kindOf x = some .free) /\ ∃ c, env.cells.lookup x = some c /\ h.IsCell c (some u))
structure Cx.Ok (X : Cx) : Prop where
 mod : Mod X.K X.mg X.base
 kind : X.env.scope.kind = .function
 glob : X.env.globals = mainGlobals
 blt : X.env.builtins = builtinsNs
 above : X.s₀.heap.objs.size <= X.env.locals
 inj : ∀ x y c, X.env.cells.lookup x = some c -> X.env.cells.lookup y = some c -> x = y
 has : ∀ x, (X.env.kindOf x = some .cell ∨ X.env.kindOf x = some .free) -> ∃ c, X.env.cells.lookup x = some c
 cab : ∀ x c, X.fn x = true -> X.env.cells.lookup x = some c -> X.s₀.heap.objs.size <= c
 hd : X.calm = true -> X.A.handled = none
 frames : X.A.frames = some X.stack
 stk : X.stack = X.outer ∨ (X.stack = X.env :: X.outer /\ X.env.frame = some X.env.locals)
 exf : ∀ b ∈ X.ex, b ≠ X.env.locals /\ ∀ x c, X.env.cells.lookup x = some c -> c ≠ b
 bs : ∀ b o, X.base.get? b = some o -> X.s₀.heap.get? b = some o /\ X.H₀ b = none
 bsz : X.base.objs.size <= X.s₀.heap.objs.size
 noex : ∀ b o, X.base.get? b = some o -> b ∉ X.ex
 exfs : ∀ b ∈ X.ex, b ∉ X.fs
 funs : X.s₀.heap.FunFrames X.base X.outer
 frf : ∀ b ∈ X.fs, X.H₀ b = none
structure Inv (X : Cx) (pins : List (Addr × Obj)) (σ : List (Option V)) (H : Hp) (s : Shared) : Prop where
 ok : X.Ok
 os : s.os = X.s₀.os
 bare : AllBare s.gens
 base : Un X.fs X.ex X.H₀ H X.s₀.heap s.heap
 loc : ∃ m, s.heap.Ns X.env.locals m /\ ∀ (i : Nat) (x : Str) (v : V), X.N[i]? = some x -> σ[i]? = some (some v) -> Vis X.env.scope x -> ∃ u, RelV v u /\ Look X.env s.heap m x u
 cell : ∀ x c, X.env.cells.lookup x = some c -> ∃ v, s.heap.IsCell c v
 free : H X.env.locals = none
 freeC : ∀ x c, X.env.cells.lookup x = some c -> H c = none
 pin : ∀ p ∈ X.pn ++ pins, s.heap.get? p.1 = some p.2 /\ H p.1 = none /\ p.1 ≠ X.env.locals /\ p.1 ∉ X.fs /\ ∀ v, p.2.data ≠ .cell v
 hok : HOk X.prog X.w H s.heap
 len : σ.length = X.N.length
section
variable {X : Cx} {pins : List (Addr × Obj)} {σ : List (Option V)} {H H' : Hp} {s : Shared} {h' : Heap}
theorem Cx.Ok.nofr (ok : X.Ok) {b : Addr} {o : Obj} (e : X.base.get? b = some o) : b ∉ X.fs := λ hb => by
 have := (ok.funs.mem hb).1
 rw [e] at this; cases this
theorem Inv.bs (I : Inv X pins σ H s) : ∀ b o, X.base.get? b = some o -> s.heap.get? b = some o /\ H b = none := λ b o e =>
 ⟨I.base.keep b o (I.ok.bs b o e).1 (I.ok.bs b o e).2 (I.ok.nofr e) (I.ok.noex b o e), I.base.free b o (I.ok.bs b o e).1 (I.ok.bs b o e).2 (I.ok.noex b o e)⟩
theorem Inv.bk (I : Inv X pins σ H s) : ∀ b o, X.base.get? b = some o -> s.heap.get? b = some o := λ b o e => (I.bs b o e).1
theorem Inv.mod (I : Inv X pins σ H s) : Mod X.K X.mg X.base := I.ok.mod
theorem Inv.kIn (I : Inv X pins σ H s) : X.K.In s.heap := I.ok.mod.kin.keeps I.bk
theorem Inv.nolimit (I : Inv X pins σ H s) : s.heap.NoLimit := I.ok.mod.nolimit.keeps I.bk
theorem Inv.fr (I : Inv X pins σ H s) : ∃ m, Fr X.base X.env.locals s.heap m :=
 let ⟨m, hn, _⟩ := I.loc
 ⟨m, hn, I.bk, Nat.le_trans I.ok.bsz I.ok.above⟩
theorem Inv.lt (I : Inv X pins σ H s) : X.env.locals < s.heap.objs.size := let ⟨_, hn, _⟩ := I.loc; hn.lt
theorem Inv.sz (I : Inv X pins σ H s) : X.s₀.heap.objs.size <= s.heap.objs.size := Nat.le_trans I.ok.above (Nat.le_of_lt I.lt)
theorem Inv.nofs (I : Inv X pins σ H s) {a : Addr} (h : s.heap.objs.size <= a) : a ∉ X.fs := λ hb => by
 obtain ⟨_, o, ho, _⟩ := I.ok.funs.mem hb
 exact absurd (Nat.lt_of_lt_of_le (Heap.lt_size ho) (Nat.le_trans I.sz h)) (Nat.lt_irrefl _)
theorem Inv.cne (I : Inv X pins σ H s) : ∀ x c, X.env.cells.lookup x = some c -> c ≠ X.env.locals := λ x c e z => by
 obtain ⟨v, o, ho, hd⟩ := I.cell x c e
 obtain ⟨m, ⟨o', es, ep, ho', hd', _⟩, _⟩ := I.loc
 rw [z, ho'] at ho; cases ho; rw [hd'] at hd; cases hd
theorem Inv.funs (I : Inv X pins σ H s) : s.heap.FunFrames X.base X.outer := by
 have all : ∀ (l : List Env), (∀ b ∈ frs l, b ∈ X.fs) -> X.s₀.heap.FunFrames X.base l -> s.heap.FunFrames X.base l := by
  intro l
  induction l with
  | nil => intro _ _; trivial
  | cons env r ih =>
   intro hs hl
   obtain ⟨hk, ⟨L, o, hf, hn, ho, hd⟩, hr⟩ := hl
   have hL : L ∈ X.fs := hs L (by unfold frs; rw [List.filterMap_cons, hf]; exact List.mem_cons_self)
   obtain ⟨sl, e⟩ := I.base.slot L o ho (I.ok.frf L hL) hL λ z => I.ok.exfs L z hL
   exact ⟨hk, ⟨L, _, hf, hn, e, hd⟩, ih (λ b hb => hs b (by unfold frs; rw [List.filterMap_cons, hf]; exact List.mem_cons_of_mem _ hb)) hr⟩
 exact all X.outer (λ _ hb => hb) I.ok.funs
theorem Inv.stack (I : Inv X pins σ H s) : s.heap.FunFrames X.base X.stack := by
 rcases I.ok.stk with e | ⟨e, hf⟩
 ·rw [e]; exact I.funs
 ·rw [e]
  obtain ⟨m, hn, _⟩ := I.loc
  refine .cons (by rw [I.ok.kind]; decide) hf hn ?_ I.funs
  exact Heap.get?_none_of_le (Nat.le_trans I.ok.bsz I.ok.above)
theorem Inv.stkSub (I : Inv X pins σ H s) : ∀ b ∈ frs X.stack, b ∈ X.env.locals :: X.fs := λ b hb => by
 rcases I.ok.stk with e | ⟨e, hf⟩
 ·rw [e] at hb; exact List.mem_cons_of_mem _ hb
 ·rw [e] at hb
  unfold frs at hb
  rw [List.filterMap_cons, hf] at hb
  exact hb
theorem Inv.stkFree (I : Inv X pins σ H s) : ∀ b ∈ frs X.stack, H b = none := λ b hb => by
 rcases List.mem_cons.mp (I.stkSub b hb) with e | hb
 ·rw [e]; exact I.free
 ·obtain ⟨_, o, ho, _⟩ := I.ok.funs.mem hb
  exact I.base.free b o ho (I.ok.frf b hb) λ z => I.ok.exfs b z hb
theorem Inv.step {g' : Array GenState} {t' : Nat} {d' : Drawn} {ch : List Addr} (I : Inv X pins σ H s)
  (hch : ∀ b ∈ ch, (b ∈ X.ex ∨ X.s₀.heap.objs.size <= b) /\ b ≠ X.env.locals /\ (∀ x c, X.env.cells.lookup x = some c -> c ≠ b) /\ ∀ p ∈ X.pn ++ pins, p.1 ≠ b)
  (keep : ∀ b o, b ≠ X.env.locals -> b ∉ X.fs -> b ∉ ch -> s.heap.get? b = some o -> H b = none -> h'.get? b = some o)
  (slot : ∀ b o, b ≠ X.env.locals -> b ∈ X.fs -> b ∉ ch -> s.heap.get? b = some o -> H b = none -> ∃ sl, h'.get? b = some { o with slots := sl }) (free : ∀ b o, b ∉ ch -> s.heap.get? b = some o -> H b = none -> H' b = none)
  (there : ∀ b o, b ∉ ch -> s.heap.get? b = some o -> ∃ o', h'.get? b = some o')
  (tups : ∀ b xs, H b = some (.tup xs) -> H' b = some (.tup xs)) (frzs : ∀ b o u, H b = some (.frz o u) -> H' b = some (.frz o u)) (tbls : ∀ b ps, H b = some (.tbl ps) -> ∃ more, H' b = some (.tbl (ps ++ more)))
  (ns : ∀ m, s.heap.Ns X.env.locals m -> h'.Ns X.env.locals m) (hok : HOk X.prog X.w H' h') (hg : AllBare g') :
  Inv X pins σ H' { s with heap := h', gens := g', drawn := d', toks := t' } := by
 have neL : ∀ b o, X.s₀.heap.get? b = some o -> b ≠ X.env.locals := λ b o e => Nat.ne_of_lt (Nat.lt_of_lt_of_le (Heap.lt_size e) I.ok.above)
 have neC : ∀ b o, X.s₀.heap.get? b = some o -> b ∉ X.ex -> b ∉ ch := λ b o e hx hb => by
  rcases (hch b hb).1 with z | z
  ·exact hx z
  ·exact absurd (Nat.lt_of_lt_of_le (Heap.lt_size e) z) (Nat.lt_irrefl _)
 have cellK : ∀ x c, X.env.cells.lookup x = some c -> ∀ v, s.heap.IsCell c v -> h'.IsCell c v := λ x c e v ⟨o, ho, hd⟩ => by
  have nch : c ∉ ch := λ z => (hch c z).2.2.1 x c e rfl
  by_cases hc : c ∈ X.fs
  ·obtain ⟨sl, q⟩ := slot c o (I.cne x c e) hc nch ho (I.freeC x c e)
   exact ⟨_, q, hd⟩
  ·exact ⟨o, keep c o (I.cne x c e) hc nch ho (I.freeC x c e), hd⟩
 refine ⟨I.ok, I.os, hg, ⟨λ b o e n hb hx => ?_, λ b o e n hb hx => ?_, λ b o e n hx => ?_, λ b o e hx => ?_, λ b xs e => tups b xs (I.base.tups b xs e), λ b o xs e => frzs b o xs (I.base.frzs b o xs e), λ b ps e => ?_⟩, ?_, λ x c e => ?_, ?_, λ x c e => ?_, λ p hp => ?_, hok, I.len⟩
 ·exact keep b o (neL b o e) hb (neC b o e hx) (I.base.keep b o e n hb hx) (I.base.free b o e n hx)
 ·obtain ⟨sl, e1⟩ := I.base.slot b o e n hb hx
  obtain ⟨sl', e2⟩ := slot b _ (neL b o e) hb (neC b o e hx) e1 (I.base.free b o e n hx)
  exact ⟨sl', e2⟩
 ·obtain ⟨o', e1⟩ := I.base.there b o e hx
  exact free b o' (neC b o e hx) e1 (I.base.free b o e n hx)
 ·obtain ⟨o', e1⟩ := I.base.there b o e hx
  exact there b o' (neC b o e hx) e1
 ·obtain ⟨m1, e1⟩ := I.base.tbls b ps e
  obtain ⟨m2, e2⟩ := tbls b _ e1
  exact ⟨m1 ++ m2, by rw [e2, Array.append_assoc]⟩
 ·obtain ⟨m, hn, hl⟩ := I.loc
  refine ⟨m, ns m hn, λ i x v e1 e2 e3 => ?_⟩
  obtain ⟨u, r, l⟩ := hl i x v e1 e2 e3
  refine ⟨u, r, ?_⟩
  rcases l with l | ⟨k, c, e, z⟩
  ·exact .inl l
  ·exact .inr ⟨k, c, e, cellK x c e _ z⟩
 ·obtain ⟨v, z⟩ := I.cell x c e
  exact ⟨v, cellK x c e v z⟩
 ·obtain ⟨m, ⟨o, _, _, ho, _⟩, _⟩ := I.loc
  exact free _ o (λ z => (hch _ z).2.1 rfl) ho I.free
 ·obtain ⟨v, o, ho, hd⟩ := I.cell x c e
  exact free c o (λ z => (hch c z).2.2.1 x c e rfl) ho (I.freeC x c e)
 ·obtain ⟨e, n, ne, nf, d⟩ := I.pin p hp
  have nch : p.1 ∉ ch := λ z => (hch p.1 z).2.2.2 p hp rfl
  exact ⟨keep p.1 p.2 ne nf nch e n, free p.1 p.2 nch e n, ne, nf, d⟩
theorem Inv.un {t' : Nat} (I : Inv X pins σ H s) (u : Un X.fs [] H H' s.heap h') (hok : HOk X.prog X.w H' h') : Inv X pins σ H' { s with heap := h', toks := t' } := by
 obtain ⟨m, ⟨o, es, ep, ho, r⟩, _⟩ := id I.loc
 obtain ⟨sl, hL⟩ := u.any ho I.free (by simp)
 exact I.step (g' := s.gens) (d' := s.drawn) (ch := []) (λ _ z => nomatch z) (λ b o _ hb _ e n => u.keep b o e n hb (by simp)) (λ b o _ hb _ e n => u.slot b o e n hb (by simp)) (λ b o _ e n => u.free b o e n (by simp)) (λ b o _ e => u.there b o e (by simp)) u.tups u.frzs u.tbls (λ m' hm => by
  obtain ⟨o', es', ep', ho', r'⟩ := hm
  rw [ho] at ho'; cases ho'
  exact ⟨_, es', ep', hL, r'⟩) hok I.bare
theorem Inv.call {g' : Array GenState} {t' : Nat} {d' : Drawn} {ch : List Addr} (I : Inv X pins σ H s) (u : Un (frs X.stack) ch H H' s.heap h') (hok : HOk X.prog X.w H' h') (hg : AllBare g')
  (hch : ∀ b ∈ ch, (b ∈ X.ex ∨ X.s₀.heap.objs.size <= b) /\ b ≠ X.env.locals /\ (∀ x c, X.env.cells.lookup x = some c -> c ≠ b) /\ ∀ p ∈ X.pn ++ pins, p.1 ≠ b) :
  Inv X pins σ H' { s with heap := h', gens := g', drawn := d', toks := t' } := by
 obtain ⟨m, ⟨o, es, ep, ho, r⟩, _⟩ := id I.loc
 obtain ⟨sl, hL⟩ := u.any ho I.free λ z => (hch _ z).2.1 rfl
 exact I.step (ch := ch) hch (λ b o hL hb hc e n => u.keep b o e n (λ z => (List.mem_cons.mp (I.stkSub b z)).elim hL hb) hc) (λ b o _ _ hc e n => u.any e n hc) (λ b o hc e n => u.free b o e n hc) (λ b o hc e => u.there b o e hc) u.tups u.frzs u.tbls (λ m' hm => by
  obtain ⟨o', es', ep', ho', r'⟩ := hm
  rw [ho] at ho'; cases ho'
  exact ⟨_, es', ep', hL, r'⟩) hok hg
theorem Inv.turned {t' : Nat} {it : Addr} (I : Inv X pins σ H s) (k : ∀ b o, b ≠ it -> s.heap.get? b = some o -> h'.get? b = some o) (hn : H it = none) (hL : it ≠ X.env.locals)
  (h1 : it ∈ X.ex ∨ X.s₀.heap.objs.size <= it) (h2 : ∀ x c, X.env.cells.lookup x = some c -> c ≠ it) (h3 : ∀ p ∈ X.pn ++ pins, p.1 ≠ it) : Inv X pins σ H { s with heap := h', toks := t' } := by
 have nit : ∀ b u, H b = some u -> b ≠ it := λ b u e z => by rw [z, hn] at e; cases e
 refine I.step (g' := s.gens) (d' := s.drawn) (ch := [it]) (λ b hb => ?_) (λ b o _ _ hc e _ => k b o (λ z => hc (by simp [z])) e) (λ b o _ _ hc e _ => ⟨o.slots, k b o (λ z => hc (by simp [z])) e⟩) (λ _ _ _ _ n => n)
  (λ b o hc e => ⟨o, k b o (λ z => hc (by simp [z])) e⟩) (λ _ _ e => e) (λ _ _ _ e => e) (λ b ps e => ⟨#[], by rw [e]; simp⟩) (λ m hm => ?_) (λ b u e => ?_) I.bare
 ·have e : b = it := by simpa using hb
  subst e
  exact ⟨h1, hL, h2, h3⟩
 ·obtain ⟨o, es, ep, ho, r⟩ := hm
  exact ⟨o, es, ep, k _ o (Ne.symm hL) ho, r⟩
 ·refine (I.hok b u e).stay (λ c v hc q => k c v ?_ q) (λ _ q => q) λ _ _ q => q
  rcases hc with z | z
  ·rw [z]; exact nit b u e
  ·exact nit c _ z
theorem Inv.tok (I : Inv X pins σ H s) (t : Nat) : Inv X pins σ H { s with toks := t } := I.un (h' := s.heap) (t' := t) Un.refl I.hok
theorem Inv.kept {t' : Nat} (I : Inv X pins σ H s) (k : ∀ b u, s.heap.get? b = some u -> h'.get? b = some u) : Inv X pins σ H { s with heap := h', toks := t' } := I.un (Un.kept k) (I.hok.kept k)
theorem Inv.laid {a : Addr} {o : HO} {t' : Nat} (I : Inv X pins σ H s) (k : ∀ b u, s.heap.get? b = some u -> h'.get? b = some u) (hp : s.heap.objs.size <= a) (new : Jb5 X.prog X.w (upd H a o) h' a o) :
  Inv X pins σ (upd H a o) { s with heap := h', toks := t' } := I.un (Un.laid k hp (I.hok.fresh hp)) (I.hok.laid k hp new)
theorem Inv.write {x e : Addr} {o : HO} {t' : Nat} (I : Inv X pins σ H s) (mu : Mut (H x)) (he : e = x ∨ H e = some (.own x)) (k : ∀ b u, b ≠ e -> s.heap.get? b = some u -> h'.get? b = some u) (heo : ∃ u, h'.get? e = some u)
  (new : Jb5 X.prog X.w (upd H x o) h' x o) : Inv X pins σ (upd H x o) { s with heap := h', toks := t' } := I.un (Un.write mu he k heo) (I.hok.write mu he k heo new)
theorem Inv.pins_of {pins' : List (Addr × Obj)} (I : Inv X pins σ H s) (h : ∀ p ∈ pins', s.heap.get? p.1 = some p.2 /\ H p.1 = none /\ p.1 ≠ X.env.locals /\ p.1 ∉ X.fs /\ ∀ v, p.2.data ≠ .cell v) : Inv X pins' σ H s :=
 ⟨I.ok, I.os, I.bare, I.base, I.loc, I.cell, I.free, I.freeC, λ p hp => (List.mem_append.mp hp).elim (λ z => I.pin p (List.mem_append_left _ z)) (h p), I.hok, I.len⟩
theorem Js2 {N : List Str} (hN : N.Nodup) {i j : Nat} {x : Str} (a : N[i]? = some x) (b : N[j]? = some x) : i = j := by
 obtain ⟨h1, e1⟩ := List.getElem?_eq_some_iff.mp a
 obtain ⟨h2, e2⟩ := List.getElem?_eq_some_iff.mp b
 exact (List.getElem_inj hN).mp (e1.trans e2.symm)
theorem Jvf {M : Model} {A : Around} {E : Value -> Shared -> Prop} {i : Nat} {x : Str} {v : V} {u : Value} {Q : Unit -> Shared -> Prop} (I : Inv X pins σ H s) (hN : X.N.Nodup) (hi : X.N[i]? = some x) (hx : Loc X.env.scope x) (r : RelV v u)
  (h : ∀ s', Inv X pins (σ.set i (some v)) H s' -> (∃ a, Heap.SameBut a s.heap s'.heap /\ (a = X.env.locals ∨ X.env.cells.lookup x = some a)) -> Q () s') (hf : X.fn x = true ∨ X.env.scope.names.lookup x = some .local := by assumption) : wpAny M A (storeName X.env x u) Q E s := by
 obtain ⟨m, hn, hl⟩ := id I.loc
 have hcls : (X.env.scope.kind == .class || (X.env.scope.kind == .module && X.env.locals != X.env.globals)) = false := by rw [I.ok.kind]; rfl
 have hiσ : i < σ.length := by rw [I.len]; exact (List.getElem?_eq_some_iff.mp hi).1
 have cne := I.cne
 have tracked : ∀ {a : Addr} {h' : Heap}, (∃ o, s.heap.get? a = some o /\ H a = none) -> Heap.SameBut a s.heap h' -> HOk X.prog X.w H h' := λ {a h'} ha hs b ob e => by
  obtain ⟨_, _, hfree⟩ := ha
  refine (I.hok b ob e).stay (λ c w' hc q => (hs.2 c ?_).trans q) (λ _ q => q) λ _ _ q => q
  rintro rfl
  rcases hc with rfl | hc
  ·rw [hfree] at e; cases e
  ·rw [hfree] at hc; cases hc
 rcases hx with hk | hk
 ·refine wpAny_storeName_local hk hn (λ h' hn' hs => ?_) hcls
  obtain ⟨oL, _, _, hoL, _⟩ := id hn
  refine h _ ⟨I.ok, I.os, I.bare, ⟨λ b o e n hb hx => ?_, λ b o e n hb hx => ?_, I.base.free, λ b o e hx => ?_, I.base.tups, I.base.frzs, I.base.tbls⟩, ⟨_, hn', λ j y v' e1 e2 e3 => ?_⟩, λ y c e => ?_, I.free, I.freeC, λ p hp => ?_, tracked ⟨oL, hoL, I.free⟩ hs, by simpa using I.len⟩ ⟨_, hs, .inl rfl⟩
  ·exact (hs.2 b (Nat.ne_of_lt (Nat.lt_of_lt_of_le (Heap.lt_size e) I.ok.above))).trans (I.base.keep b o e n hb hx)
  ·obtain ⟨sl, e1⟩ := I.base.slot b o e n hb hx
   exact ⟨sl, (hs.2 b (Nat.ne_of_lt (Nat.lt_of_lt_of_le (Heap.lt_size e) I.ok.above))).trans e1⟩
  ·obtain ⟨o', e1⟩ := I.base.there b o e hx
   exact ⟨o', (hs.2 b (Nat.ne_of_lt (Nat.lt_of_lt_of_le (Heap.lt_size e) I.ok.above))).trans e1⟩
  ·by_cases hj : j = i
   ·subst hj
    rw [hi] at e1; cases e1
    rw [List.getElem?_set_self hiσ] at e2
    cases e2
    exact ⟨u, r, .inl ⟨hk, by simp⟩⟩
   ·rw [List.getElem?_set_ne (Ne.symm hj)] at e2
    obtain ⟨u', r', q⟩ := hl j y v' e1 e2 e3
    refine ⟨u', r', ?_⟩
    rcases q with ⟨k, e⟩ | ⟨k, c, e, z⟩
    ·refine .inl ⟨k, ?_⟩
     have : y ≠ x := λ e => hj (Js2 hN e1 (e ▸ hi))
     simp [this, e]
    ·exact .inr ⟨k, c, e, z.sameBut hs (cne y c e)⟩
  ·obtain ⟨w', z⟩ := I.cell y c e
   exact ⟨w', z.sameBut hs (cne y c e)⟩
  ·obtain ⟨e, n, ne, nf, d⟩ := I.pin p hp
   exact ⟨(hs.2 p.1 ne).trans e, n, ne, nf, d⟩
 ·have hfn : X.fn x = true := by
   rcases hf with z | z
   ·exact z
   ·rw [z] at hk; cases hk
  obtain ⟨c, hc⟩ := I.ok.has x (.inl hk)
  obtain ⟨w', z⟩ := I.cell x c hc
  refine wpAny_storeName_cell I.ok.kind hk hc z (λ h' hc' hs => ?_)
  obtain ⟨oc, hoc, hocd⟩ := id z
  refine h { s with heap := h' } ⟨I.ok, I.os, I.bare, ⟨λ b o e n hb hx => ?_, λ b o e n hb hx => ?_, I.base.free, λ b o e hx => ?_, I.base.tups, I.base.frzs, I.base.tbls⟩, ⟨m, hn.sameBut hs (Ne.symm (cne x c hc)), λ j y v' e1 e2 e3 => ?_⟩, λ y c' e => ?_, I.free, I.freeC, λ p hp => ?_, tracked ⟨oc, hoc, I.freeC x c hc⟩ hs, by simpa using I.len⟩ ⟨c, hs, .inr hc⟩
  ·exact (hs.2 b (Nat.ne_of_lt (Nat.lt_of_lt_of_le (Heap.lt_size e) (I.ok.cab x c hfn hc)))).trans (I.base.keep b o e n hb hx)
  ·obtain ⟨sl, e1⟩ := I.base.slot b o e n hb hx
   exact ⟨sl, (hs.2 b (Nat.ne_of_lt (Nat.lt_of_lt_of_le (Heap.lt_size e) (I.ok.cab x c hfn hc)))).trans e1⟩
  ·obtain ⟨o', e1⟩ := I.base.there b o e hx
   exact ⟨o', (hs.2 b (Nat.ne_of_lt (Nat.lt_of_lt_of_le (Heap.lt_size e) (I.ok.cab x c hfn hc)))).trans e1⟩
  ·by_cases hj : j = i
   ·subst hj
    rw [hi] at e1; cases e1
    rw [List.getElem?_set_self hiσ] at e2
    cases e2
    exact ⟨u, r, .inr ⟨.inl hk, c, hc, hc'⟩⟩
   ·rw [List.getElem?_set_ne (Ne.symm hj)] at e2
    obtain ⟨u', r', q⟩ := hl j y v' e1 e2 e3
    refine ⟨u', r', ?_⟩
    rcases q with q | ⟨k, c', e, z'⟩
    ·exact .inl q
    ·refine .inr ⟨k, c', e, z'.sameBut hs ?_⟩
     rintro rfl
     exact hj (Js2 hN e1 (I.ok.inj _ _ _ e hc ▸ hi))
  ·by_cases hcc : c' = c
   ·subst hcc; exact ⟨_, hc'⟩
   ·obtain ⟨w2, z2⟩ := I.cell y c' e
    exact ⟨w2, z2.sameBut hs hcc⟩
  ·obtain ⟨e, n, ne, nf, d⟩ := I.pin p hp
   refine ⟨(hs.2 p.1 ?_).trans e, n, ne, nf, d⟩
   intro q
   rw [q, hoc] at e
   have q' : oc = p.2 := Option.some.inj e
   exact d w' (by rw [<- q']; exact hocd)
theorem Jo0 {M : Model} {A : Around} {E : Value -> Shared -> Prop} {i : Nat} {x : Str} {v : V} {u : Value} {Q : Unit -> Shared -> Prop} (I : Inv X pins σ H s) (hN : X.N.Nodup) (hi : X.N[i]? = some x) (hx : Loc X.env.scope x) (r : RelV v u)
  (h : ∀ s', Inv X pins (σ.set i (some v)) H s' -> Q () s') (hf : X.fn x = true ∨ X.env.scope.names.lookup x = some .local := by assumption) : wpAny M A (storeName X.env x u) Q E s :=
 Jvf I hN hi hx r (λ s' I' _ => h s' I') hf
theorem Inv.call' {s' : Shared} {ch : List Addr} (I : Inv X pins σ H s) (ho : s'.os = s.os) (u : Un (frs X.stack) ch H H' s.heap s'.heap) (hok : HOk X.prog X.w H' s'.heap) (hg : AllBare s'.gens)
  (hch : ∀ b ∈ ch, (b ∈ X.ex ∨ X.s₀.heap.objs.size <= b) /\ b ≠ X.env.locals /\ (∀ x c, X.env.cells.lookup x = some c -> c ≠ b) /\ ∀ p ∈ X.pn ++ pins, p.1 ≠ b) : Inv X pins σ H' s' := by
 obtain ⟨h', g', d', t', o'⟩ := s'
 have e : o' = s.os := ho
 subst e
 exact I.call (g' := g') (t' := t') (d' := d') u hok hg hch
end
noncomputable abbrev XK := Value -> Option Addr -> Hp -> Prop
noncomputable abbrev St := List (Option V)
noncomputable abbrev VK := V -> Hp -> Prop
noncomputable abbrev TE := St -> Hp -> VK -> Prop
noncomputable abbrev TT := St -> Hp -> (Bool -> Hp -> Prop) -> Prop
noncomputable abbrev TA := St -> Hp -> (List V -> Hp -> Prop) -> Prop
structure Ends where
 nx : St -> Hp -> Prop
 rt : VK
 bk : St -> Hp -> Prop := λ _ _ => False
 ct : St -> Hp -> Prop := λ _ _ => False
noncomputable abbrev TS := Ends -> St -> Hp -> Prop
noncomputable def EP (X : Cx) (pins : List (Addr × Obj)) (σ : St) (Q : VK) (u : Value) (s' : Shared) : Prop := ∃ v H', Inv X pins σ H' s' /\ RelV v u /\ Q v H'
noncomputable def TP (X : Cx) (pins : List (Addr × Obj)) (σ : St) (Q : Bool -> Hp -> Prop) (b : Bool) (s' : Shared) : Prop := ∃ H', Inv X pins σ H' s' /\ Q b H'
noncomputable def SP (X : Cx) (pins : List (Addr × Obj)) (D : Ends) (f : Flow) (s' : Shared) : Prop :=
 match f with
 | .next => ∃ σ' H', Inv X pins σ' H' s' /\ D.nx σ' H'
 | .brk => ∃ σ' H', Inv X pins σ' H' s' /\ D.bk σ' H'
 | .cont => ∃ σ' H', Inv X pins σ' H' s' /\ D.ct σ' H'
 | .ret u => ∃ v σ' H', Inv X pins σ' H' s' /\ RelV v u /\ D.rt v H'
noncomputable def PE (X : Cx) (e : Expr) (t : TE) : Prop :=
 ∀ (pins : List (Addr × Obj)) (s : Shared) (σ : St) (H : Hp) (Q : VK), Inv X pins σ H s -> t σ H Q -> wpAny (model X.prog X.w) X.A (eval e X.env) (EP X pins σ Q) X.xe s
noncomputable def PT (X : Cx) (e : Expr) (t : TT) : Prop :=
 ∀ (pins : List (Addr × Obj)) (s : Shared) (σ : St) (H : Hp) (Q : Bool -> Hp -> Prop), Inv X pins σ H s -> t σ H Q -> wpAny (model X.prog X.w) X.A (isTrue e X.env (eval e X.env)) (TP X pins σ Q) X.xe s
noncomputable def PW (X : Cx) (e : Expr) (t : TT) : Prop :=
 ∀ (whole : Sem Value) (pins : List (Addr × Obj)) (s : Shared) (σ : St) (H : Hp) (Q : Bool -> Hp -> Prop), Inv X pins σ H s -> t σ H Q -> wpAny (model X.prog X.w) X.A (isTrue e X.env whole) (TP X pins σ Q) X.xe s
theorem PW.pt {X : Cx} {e : Expr} {t : TT} (h : PW X e t) : PT X e t := h _
noncomputable def PSs (X : Cx) (st : List Stmt) (t : TS) : Prop :=
 ∀ (pins : List (Addr × Obj)) (s : Shared) (σ : St) (H : Hp) (D : Ends), Inv X pins σ H s -> t D σ H -> wpAny (model X.prog X.w) X.A (execs st X.env) (SP X pins D) X.xe s
theorem thn {α : Type} {t : Sem α} {Q Q' : α -> Shared -> Prop} {M : Model} {A : Around} {E : Value -> Shared -> Prop} {s : Shared} (h : wpAny M A t Q E s) (hQ : ∀ a s, Q a s -> Q' a s) : wpAny M A t Q' E s := wpAny_mono h hQ λ _ _ x => x
end L2
namespace L2
open PySem PySem.Spec PyProof.Rows
section
variable {X : Cx}
noncomputable def tVar (i : Nat) : TE := λ σ H Q => ∃ v, σ[i]? = some (some v) /\ Q v H
noncomputable def tC (v : V) : TE := λ _ H Q => Q v H
theorem J4p {i : Nat} {x : Str} {pos : Pos} (hN : X.N[i]? = some x) (hv : Vis X.env.scope x) (hd : (x == ("__debug__" : Str)) = false := by decide) (hcd : (x == ("__classdict__" : Str)) = false := by decide) : PE X (.Name x pos) (tVar i) := by
 intro pins s σ H Q I h
 obtain ⟨v, e, h⟩ := h
 obtain ⟨m, hn, hl⟩ := I.loc
 obtain ⟨u, r, l⟩ := hl i x v hN e hv
 have fin : EP X pins σ Q u s := ⟨v, H, I, r, h⟩
 rcases l with ⟨hk, hm⟩ | ⟨hk, c, hc, hcell⟩
 ·exact wpAny_Name (wpAny_loadName_local I.ok.kind hk hn hm fin) hd
 ·rcases hk with hk | hk
  ·exact wpAny_Name (wpAny_loadName_cell I.ok.kind hk hc hcell fin) hd
  ·exact wpAny_Name (wpAny_loadName_free I.ok.kind hk hc hcell fin hcd) hd
theorem J5w {i j pos} : PE X (.Constant (.int i) j pos) (tC (.int i)) := λ _ _ _ H _ I h => wpAny_Constant_int ⟨.int i, H, I.tok _, ⟨_, rfl⟩, h⟩
theorem pe_bl {b j pos} : PE X (.Constant (.bool b) j pos) (tC (.bl b)) := λ _ _ _ H _ I h => Constant_bool ⟨.bl b, H, I, rfl, h⟩
theorem J3f {j pos} : PE X (.Constant .none j pos) (tC .non) := λ _ _ _ H _ I h => Constant_none ⟨.non, H, I, rfl, h⟩
theorem J5b {x j pos} : PE X (.Constant (.str x) j pos) (tC (.str x)) := λ _ _ _ H _ I h => Calls.Constant_str ⟨.str x, H, I.tok _, ⟨_, rfl⟩, h⟩
noncomputable def Gl (X : Cx) (x : Str) : Prop := X.env.kindOf x = some .globalImplicit
theorem Jh1 {E : Value -> Shared -> Prop} {pins : List (Addr × Obj)} {s : Shared} {σ : St} {H : Hp} {x : Str} {u : Value} {pos : Pos} {Q : Value -> Shared -> Prop} (I : Inv X pins σ H s) (hg : Gl X x) (hm : X.mg x = some u) (h : Q u s)
  (hd : (x == ("__debug__" : Str)) = false := by decide) : wpAny (model X.prog X.w) X.A (eval (.Name x pos) X.env) Q E s :=
 Calls.Name_function_global I.ok.kind hg (Calls.loadGlobal_global (by rw [I.ok.glob]; exact I.mod.glob.keeps I.bk) hm h) hd
theorem Jdh {E : Value -> Shared -> Prop} {pins : List (Addr × Obj)} {s : Shared} {σ : St} {H : Hp} {x : Str} {u : Value} {pos : Pos} {Q : Value -> Shared -> Prop} (I : Inv X pins σ H s) (hg : Gl X x) (hm : X.mg x = none) (hv : bootBuiltins x = some u) (h : Q u s)
  (hn : x ≠ "__name__" := by decide) (hd : (x == ("__debug__" : Str)) = false := by decide) : wpAny (model X.prog X.w) X.A (eval (.Name x pos) X.env) Q E s := by
 obtain ⟨mb, h1, h2⟩ := I.mod.blt
 exact Calls.Name_function_global I.ok.kind hg (Calls.loadGlobal_builtin (by rw [I.ok.glob]; exact I.mod.glob.keeps I.bk) hm (by rw [I.ok.blt]; exact h1.keeps I.bk) ((h2 x hn).trans hv) h) hd
theorem J2o {x : Str} {v : V} {u : Value} {pos : Pos} (hg : Gl X x) (hm : X.mg x = some u) (r : RelV v u) (hd : (x == ("__debug__" : Str)) = false := by decide) : PE X (.Name x pos) (tC v) :=
 λ _ _ _ H _ I h => Jh1 I hg hm ⟨v, H, I, r, h⟩ hd
variable {a b : Expr} {ta tb : TE} {pos : Pos}
variable {tA tB' : TT} {rest : List Expr}
end
end L2
namespace L2
open PySem PySem.Spec PyProof.Rows
noncomputable def SqL (K : W.Frag) (H : Hp) (a : Addr) (xs : List V) : Prop :=
 Rd H a (.lst xs) ∨
  ∃ (o : Obj) (its : Array Value) (n : Nat), K.lookup a = some o /\ o.cls = .type "list" /\ o.dict = none /\ o.data = .seq its n /\ its.size <= sizeLine /\ Vals xs its.toList
noncomputable def SqT (K : W.Frag) (H : Hp) (a : Addr) (xs : List V) : Prop :=
 Rd H a (.tup xs) ∨
  ∃ (o : Obj) (its : Array Value) (n : Nat), K.lookup a = some o /\ o.cls = .type "tuple" /\ o.data = .seq its n /\ its.size <= sizeLine /\ Vals xs its.toList
noncomputable def absV : Value -> Option V
 | .none => some .non
 | .bool b => some (.bl b)
 | .int i _ => some (.int i)
 | .str x _ => some (.str x)
 | .bytes b _ => some (.byt b)
 | .float b _ => some (.flt b)
 | .ref a => some (.ref a)
 | .type n => some (.ty n)
 | _ => none
theorem RelV.abs {x : V} {u : Value} (r : RelV x u) : absV u = some x := by
 cases x with
 | non => cases r; rfl
 | bl _ => cases r; rfl
 | int _ => obtain ⟨t, rfl⟩ := r; rfl
 | str _ => obtain ⟨t, rfl⟩ := r; rfl
 | byt _ => obtain ⟨t, rfl⟩ := r; rfl
 | flt _ => obtain ⟨t, rfl⟩ := r; rfl
 | ref _ => cases r; rfl
 | ty _ => cases r; rfl
theorem RelV.inj {x y : V} {u : Value} (r : RelV x u) (q : RelV y u) : x = y := Option.some.inj (r.abs.symm.trans q.abs)
theorem Vals.inj : ∀ {xs ys : List V} {us : List Value}, Vals xs us -> Vals ys us -> xs = ys
 | _, _, _, .nil, .nil => rfl
 | _, _, _, .cons r t, .cons r' t' => by rw [r.inj r', Vals.inj t t']
section
variable {X : Cx} {pins : List (Addr × Obj)} {σ : St} {H : Hp} {s : Shared} {a : Addr} {xs ys : List V}
theorem SqL.of {K : W.Frag} (h : H a = some (.lst xs)) : SqL K H a xs := .inl (.inl h)
theorem SqT.of {K : W.Frag} (h : H a = some (.tup xs)) : SqT K H a xs := .inl (.inl h)
theorem Inv.list (I : Inv X pins σ H s) (h : SqL X.K H a xs) : ∃ its : List Value, Vals xs its /\ PlainL s.heap a its.toArray /\ xs.length <= sizeLine := by
 rcases h with h | ⟨o, its, n, hk, hc, hd, hs, hz, r⟩
 ·obtain ⟨z, its, n, r, e⟩ := h.ok I.hok
  exact ⟨its, r, ⟨_, n, e, rfl, rfl, rfl⟩, z⟩
 ·refine ⟨its.toList, r, ⟨o, n, I.kIn a o hk, hc, hd, by simpa using hs⟩, ?_⟩
  have e := r.length
  simp only [Array.length_toList] at e
  omega
theorem Inv.tuple (I : Inv X pins σ H s) (h : SqT X.K H a xs) : ∃ its : List Value, Vals xs its /\ IsTup s.heap a its.toArray /\ xs.length <= sizeLine := by
 rcases h with h | ⟨o, its, n, hk, hc, hs, hz, r⟩
 ·obtain ⟨z, its, r, p⟩ := h.ok I.hok
  exact ⟨its, r, p, z⟩
 ·refine ⟨its.toList, r, ⟨o, I.kIn a o hk, hc, n, by simpa using hs⟩, ?_⟩
  have e := r.length
  simp only [Array.length_toList] at e
  omega
theorem Inv.list_inj (I : Inv X pins σ H s) (h : SqL X.K H a xs) (h' : SqL X.K H a ys) : xs = ys := by
 obtain ⟨its, r, ⟨o, n, e, _, _, d⟩, _⟩ := I.list h
 obtain ⟨its', r', ⟨o', n', e', _, _, d'⟩, _⟩ := I.list h'
 rw [e] at e'; cases e'
 rw [d] at d'
 injection d' with d1 _
 have : its = its' := by simpa using congrArg Array.toList d1
 subst this
 exact r.inj r'
theorem Inv.tuple_inj (I : Inv X pins σ H s) (h : SqT X.K H a xs) (h' : SqT X.K H a ys) : xs = ys := by
 obtain ⟨its, r, ⟨o, e, _, n, d⟩, _⟩ := I.tuple h
 obtain ⟨its', r', ⟨o', e', _, n', d'⟩, _⟩ := I.tuple h'
 rw [e] at e'; cases e'
 rw [d] at d'
 injection d' with d1 _
 have : its = its' := by simpa using congrArg Array.toList d1
 subst this
 exact r.inj r'
end
noncomputable abbrev Cx.wish (X : Cx) (E : Value -> Shared -> Prop) : Cx := { X with xe := E }
noncomputable abbrev Cx.nox (X : Cx) : Cx := X.wish λ _ _ => False
theorem Cx.Ok.wish {X : Cx} (ok : X.Ok) (E : Value -> Shared -> Prop) : (X.wish E).Ok :=
 ⟨ok.mod, ok.kind, ok.glob, ok.blt, ok.above, ok.inj, ok.has, ok.cab, ok.hd, ok.frames, ok.stk, ok.exf, ok.bs, ok.bsz, ok.noex, ok.exfs, ok.funs, ok.frf⟩
theorem Cx.Ok.unwish {X : Cx} {E : Value -> Shared -> Prop} (ok : (X.wish E).Ok) : X.Ok :=
 ⟨ok.mod, ok.kind, ok.glob, ok.blt, ok.above, ok.inj, ok.has, ok.cab, ok.hd, ok.frames, ok.stk, ok.exf, ok.bs, ok.bsz, ok.noex, ok.exfs, ok.funs, ok.frf⟩
section
variable {X : Cx} {pins : List (Addr × Obj)} {σ : St} {H : Hp} {s : Shared} {E : Value -> Shared -> Prop}
theorem Inv.wish (I : Inv X pins σ H s) (E : Value -> Shared -> Prop) : Inv (X.wish E) pins σ H s := ⟨I.ok.wish E, I.os, I.bare, I.base, I.loc, I.cell, I.free, I.freeC, I.pin, I.hok, I.len⟩
theorem Inv.unwish (I : Inv (X.wish E) pins σ H s) : Inv X pins σ H s := ⟨I.ok.unwish, I.os, I.bare, I.base, I.loc, I.cell, I.free, I.freeC, I.pin, I.hok, I.len⟩
theorem SP.unwish {D : Ends} {f : Flow} {s' : Shared} (h : SP (X.wish E) pins D f s') : SP X pins D f s' := by
 cases f with
 | next => obtain ⟨σ', H', I, q⟩ := h; exact ⟨σ', H', I.unwish, q⟩
 | brk => obtain ⟨σ', H', I, q⟩ := h; exact ⟨σ', H', I.unwish, q⟩
 | cont => obtain ⟨σ', H', I, q⟩ := h; exact ⟨σ', H', I.unwish, q⟩
 | ret u => obtain ⟨v, σ', H', I, r, q⟩ := h; exact ⟨v, σ', H', I.unwish, r, q⟩
theorem PE.nox {e : Expr} {t : TE} (h : PE X.nox e t) : PE X e t := λ pins s σ H Q I hw =>
 wpAny_mono (h pins s σ H Q (I.wish _) hw) (λ _ _ ⟨v, H', I', r, q⟩ => ⟨v, H', I'.unwish, r, q⟩) λ _ _ z => False.elim z
theorem PT.nox {e : Expr} {t : TT} (h : PT X.nox e t) : PT X e t := λ pins s σ H Q I hw =>
 wpAny_mono (h pins s σ H Q (I.wish _) hw) (λ _ _ ⟨H', I', q⟩ => ⟨H', I'.unwish, q⟩) λ _ _ z => False.elim z
theorem PSs.nox {st : List Stmt} {t : TS} (h : PSs X.nox st t) : PSs X st t := λ pins s σ H D I hw =>
 wpAny_mono (h pins s σ H D (I.wish _) hw) (λ _ _ q => q.unwish) λ _ _ z => False.elim z
end
section
variable {X : Cx} {st : Stmt} {rest : List Stmt} {t u : TS} {e : Expr} {te : TE} {pos : Pos}
theorem Inv.quiet {pins : List (Addr × Obj)} {σ : St} {H : Hp} {s : Shared} (I : Inv X pins σ H s) : interactive X.env = false := by simp [interactive, I.ok.kind]
end
noncomputable abbrev TSet := V -> V -> V -> Hp -> (Hp -> Prop) -> Prop
noncomputable def PSet (X : Cx) (t : TSet) : Prop :=
 ∀ (pins : List (Addr × Obj)) (s : Shared) (σ : St) (H : Hp) (o i v : V) (ov iv u : Value) (Q : Hp -> Prop), Inv X pins σ H s -> RelV o ov -> RelV i iv -> RelV v u -> t o i v H Q ->
  wpAny (model X.prog X.w) X.A (setItem ov iv u) (λ _ s' => ∃ H', Inv X pins σ H' s' /\ Q H') X.xe s
noncomputable abbrev TIp := V -> V -> Hp -> VK -> Prop
section
variable {X : Cx} {pos : Pos}
noncomputable def ipI (f : Int -> Int -> Int) : TIp := λ x y H Q => ∃ i j, x = .int i /\ y = .int j /\ Q (.int (f i j)) H
end
section
variable {X : Cx} {pos : Pos}
end
structure It where
 go : Nat -> Hp -> Prop
 yld : Nat -> Hp -> V -> Hp -> Prop
 stop : Nat -> Hp -> Prop
noncomputable def FpOk (X : Cx) (pins : List (Addr × Obj)) (H : Hp) (b : Addr) : Prop :=
 H b = none /\ b ≠ X.env.locals /\ b ∉ X.fs /\ (b ∈ X.ex ∨ X.s₀.heap.objs.size <= b) /\ (∀ x c, X.env.cells.lookup x = some c -> c ≠ b) /\ ∀ p ∈ X.pn ++ pins, p.1 ≠ b
theorem Inv.fpOk {X : Cx} {pins : List (Addr × Obj)} {σ : St} {H H' : Hp} {s : Shared} {b : Addr} (I : Inv X pins σ H s) (hb : s.heap.objs.size <= b) (hn : H' b = none) : FpOk X pins H' b := by
 refine ⟨hn, Nat.ne_of_gt (Nat.lt_of_lt_of_le I.lt hb), I.nofs hb, .inr (Nat.le_trans I.sz hb), λ x c e z => ?_, λ p hp z => ?_⟩
 ·obtain ⟨v, q⟩ := I.cell x c e
  exact absurd (Nat.lt_of_lt_of_le q.lt (by rw [z]; exact hb)) (Nat.lt_irrefl _)
 ·exact absurd (Nat.lt_of_lt_of_le (Heap.lt_size (I.pin p hp).1) (by rw [z]; exact hb)) (Nat.lt_irrefl _)
structure Turn (P : Program) (w : World) (K : W.Frag) (tg : Expr) (J : It) (fp : List Addr) (it : Addr) (tn : Nat -> Heap -> Prop) : Prop where
 mem : it ∈ fp
 obj : ∀ i h, tn i h -> ∀ b ∈ fp, ∃ o, h.get? b = some o /\ ∀ v, o.data ≠ .cell v
 keep : ∀ i h h', tn i h -> (∀ b ∈ fp, ∀ o, h.get? b = some o -> h'.get? b = some o) -> tn i h'
 item : ∀ (X : Cx), X.prog = P -> X.w = w -> X.K = K -> X.calm = true -> ∀ (i : Nat) (pins : List (Addr × Obj)) (s : Shared) (σ : St) (H : Hp) (E : Value -> Shared -> Prop), Inv X pins σ H s -> (∀ b ∈ fp, FpOk X pins H b) -> tn i s.heap -> J.go i H ->
  wpAny (model P w) X.A (pyNext (.ref it)) (λ r s1 => ∃ u, r = some u /\
   wpAny (model P w) X.A (letOwnedTupleGo tg (.ref it) u) (λ _ s2 => ∃ x H', Inv X pins σ H' s2 /\ RelV x u /\ J.yld i H x H' /\ tn (i + 1) s2.heap /\ ∀ b ∈ fp, H' b = none) E s1) E s
 done : ∀ (X : Cx), X.prog = P -> X.w = w -> X.K = K -> X.calm = true -> ∀ (i : Nat) (pins : List (Addr × Obj)) (s : Shared) (σ : St) (H : Hp) (E : Value -> Shared -> Prop), Inv X pins σ H s -> (∀ b ∈ fp, FpOk X pins H b) -> tn i s.heap -> J.stop i H ->
  wpAny (model P w) X.A (pyNext (.ref it)) (λ r s1 => r = none /\ Inv X pins σ H s1) E s
 self : ∀ (A : Around) (i : Nat) (s : Shared) (Q : Value -> Shared -> Prop) (E : Value -> Shared -> Prop), tn i s.heap -> Q (.ref it) s -> wpAny (model P w) A (pyIter (.ref it)) Q E s
noncomputable abbrev TI := St -> Hp -> (It -> Hp -> Prop) -> Prop
noncomputable def PIE (X : Cx) (pins : List (Addr × Obj)) (σ : St) (tg : Expr) (R : It -> Hp -> Prop) (itv : Value) (s2 : Shared) : Prop :=
 ∃ (it : Addr) (fp : List Addr) (tn : Nat -> Heap -> Prop) (J : It) (H' : Hp), itv = .ref it /\ Inv X pins σ H' s2 /\ Turn X.prog X.w X.K tg J fp it tn /\ tn 0 s2.heap /\ (∀ b ∈ fp, FpOk X pins H' b) /\ R J H'
noncomputable def PI (X : Cx) (tg iter : Expr) (wi : TI) : Prop :=
 ∀ (pins : List (Addr × Obj)) (s : Shared) (σ : St) (H : Hp) (R : It -> Hp -> Prop), Inv X pins σ H s -> wi σ H R ->
  wpAny (model X.prog X.w) X.A (eval iter X.env) (λ v s1 => wpAny (model X.prog X.w) X.A (pyIter v) (PIE X pins σ tg R) X.xe s1) X.xe s
theorem Jy2 {M : Model} {A : Around} {E : Value -> Shared -> Prop} {s : Shared} {tg : Expr} {it : Addr} {u : Value} {o : Obj} {n : String} {vs : Array Value} {Q : Unit -> Shared -> Prop} (ho : s.heap.get? it = some o) (hc : o.cls = .type n) (hd : o.data = .fields vs)
  (hn : ["enumerate", "zip", "dict_itemiterator", "dict_reverseitemiterator", "odict_iterator", "itertools.zip_longest", "itertools.pairwise"].contains n = false) (hQ : Q () s) : wpAny M A (letOwnedTupleGo tg (.ref it) u) Q E s := by
 unfold letOwnedTupleGo
 cases tg <;> first
  | exact wpAny_pure hQ
  | (cases u <;> first
    | exact wpAny_pure hQ
    | (refine wpAny_bind (wpAny_load ho ?_)
       rw [hc, hd]
       show wpAny M A (if (["enumerate", "zip", "dict_itemiterator", "dict_reverseitemiterator", "odict_iterator", "itertools.zip_longest", "itertools.pairwise"].contains n && vs[0]? == some (rawInt _)) = true then _ else _) Q E s
       rw [if_neg (by intro h; rw [hn, Bool.false_and] at h; cases h)]
       exact wpAny_pure hQ))
noncomputable def Itl (K : W.Frag) (a : Addr) : It :=
 ⟨λ i H => ∃ xs x, SqL K H a xs /\ xs[i]? = some x, λ i H x H' => H' = H /\ ∀ xs, SqL K H a xs -> xs[i]? = some x, λ i H => ∃ xs, SqL K H a xs /\ xs.length <= i⟩
noncomputable def Itt (K : W.Frag) (a : Addr) : It :=
 ⟨λ i H => ∃ xs x, SqT K H a xs /\ xs[i]? = some x, λ i H x H' => H' = H /\ ∀ xs, SqT K H a xs -> xs[i]? = some x, λ i H => ∃ xs, SqT K H a xs /\ xs.length <= i⟩
noncomputable def Itr (lo : Int) (n : Nat) : It := ⟨λ i _ => i < n, λ i H x H' => H' = H /\ x = .int (lo + i), λ i _ => n <= i⟩
theorem Jp9 {P : Program} {w : World} {K : W.Frag} {tg : Expr} (a it : Addr) : Turn P w K tg (Itl K a) [it] it (λ i h => h.IsListIter it a i) where
 mem := by simp
 obj := λ i h st b hb => by
  have e : b = it := by simpa using hb
  subst e
  obtain ⟨o, e, c, d⟩ := st
  exact ⟨o, e, λ v z => by rw [d] at z; cases z⟩
 keep := λ i h h' st k => st.at λ o e => k it (by simp) o e
 item := by
  intro X hP hw hK hc i pins s σ H E I hf st hg
  subst hP hw hK
  obtain ⟨xs, x, hq, hx⟩ := hg
  obtain ⟨its, rv, p, hz⟩ := I.list hq
  obtain ⟨u, hu, ru⟩ := rv.get hx
  obtain ⟨f0, f1, f2, f3, f4, f5⟩ := hf it (by simp)
  refine wpAny_pyNext_list_item st p.isList (x := u) (by simpa using hu) λ h' st' sb => ?_
  have I1 : Inv X pins σ H { s with heap := h' } := I.turned (t' := s.toks) (λ b o hb e => (sb.2 b hb).trans e) f0 f1 f3 f4 f5
  obtain ⟨o, e, c, d⟩ := id st'
  exact ⟨u, rfl, Jy2 (s := { s with heap := h' }) e c d (by decide) ⟨x, H, I1, ru, ⟨rfl, λ ys hy => by rw [I.list_inj hy hq]; exact hx⟩, st', λ b hb => (hf b hb).1⟩⟩
 done := by
  intro X hP hw hK hc i pins s σ H E I hf st hg
  subst hP hw hK
  obtain ⟨xs, hq, hx⟩ := hg
  obtain ⟨its, rv, p, hz⟩ := I.list hq
  obtain ⟨f0, f1, f2, f3, f4, f5⟩ := hf it (by simp)
  have hl := rv.length
  exact wpAny_pyNext_list_end (I.ok.hd hc) st p.isList (by simp; omega) λ h' eb => ⟨rfl, I.turned (t' := s.toks) (λ b o hb e => eb b o hb e) f0 f1 f3 f4 f5⟩
 self := λ _ _ _ _ _ st h => wpAny_pyIter_listiter st h
theorem Ju0 {P : Program} {w : World} {K : W.Frag} {tg : Expr} (a it : Addr) : Turn P w K tg (Itt K a) [it] it (λ i h => h.IsTupleIter it a i) where
 mem := by simp
 obj := λ i h st b hb => by
  have e : b = it := by simpa using hb
  subst e
  obtain ⟨o, e, c, d⟩ := st
  exact ⟨o, e, λ v z => by rw [d] at z; cases z⟩
 keep := λ i h h' st k => st.at λ o e => k it (by simp) o e
 item := by
  intro X hP hw hK hc i pins s σ H E I hf st hg
  subst hP hw hK
  obtain ⟨xs, x, hq, hx⟩ := hg
  obtain ⟨its, rv, p, hz⟩ := I.tuple hq
  obtain ⟨u, hu, ru⟩ := rv.get hx
  obtain ⟨f0, f1, f2, f3, f4, f5⟩ := hf it (by simp)
  refine wpAny_pyNext_tuple_item st (show s.heap.IsTuple a its.toArray from p) (x := u) (by simpa using hu) λ h' st' sb => ?_
  have I1 : Inv X pins σ H { s with heap := h' } := I.turned (t' := s.toks) (λ b o hb e => (sb.2 b hb).trans e) f0 f1 f3 f4 f5
  obtain ⟨o, e, c, d⟩ := id st'
  exact ⟨u, rfl, Jy2 (s := { s with heap := h' }) e c d (by decide) ⟨x, H, I1, ru, ⟨rfl, λ ys hy => by rw [I.tuple_inj hy hq]; exact hx⟩, st', λ b hb => (hf b hb).1⟩⟩
 done := by
  intro X hP hw hK hc i pins s σ H E I hf st hg
  subst hP hw hK
  obtain ⟨xs, hq, hx⟩ := hg
  obtain ⟨its, rv, p, hz⟩ := I.tuple hq
  obtain ⟨f0, f1, f2, f3, f4, f5⟩ := hf it (by simp)
  have hl := rv.length
  exact wpAny_pyNext_tuple_end (I.ok.hd hc) st (show s.heap.IsTuple a its.toArray from p) (by simp; omega) λ h' eb => ⟨rfl, I.turned (t' := s.toks) (λ b o hb e => eb b o hb e) f0 f1 f3 f4 f5⟩
 self := λ _ _ _ _ _ st h => wpAny_pyIter_tupleiter st h
theorem Jut {P : Program} {w : World} {K : W.Frag} {tg : Expr} (it : Addr) (lo : Int) (n : Nat) : Turn P w K tg (Itr lo n) [it] it (λ i h => IsRangeIter h it (lo + (i : Nat) * 1) ((n : Int) - (i : Nat)) 1) where
 mem := by simp
 obj := λ i h st b hb => by
  have e : b = it := by simpa using hb
  subst e
  exact ⟨_, st, λ v z => by
   have z' : Data.fields _ = Data.cell v := z
   cases z'⟩
 keep := λ i h h' st k => k it (by simp) _ st
 item := by
  intro X hP hw hK hc i pins s σ H E I hf st hg
  subst hP hw hK
  obtain ⟨f0, f1, f2, f3, f4, f5⟩ := hf it (by simp)
  have W := Walks.range (prog := X.prog) (w := X.w) (I.ok.hd hc) it lo 1 n
  refine W.item i s _ _ hg st λ v h' tk hv st' kk => ?_
  obtain ⟨t, rfl⟩ := hv
  have I1 : Inv X pins σ H { s with heap := h', toks := tk } := I.turned (λ b o hb e => kk b o (by simpa using hb) e) f0 f1 f3 f4 f5
  refine ⟨_, rfl, Jy2 (s := { s with heap := h', toks := tk }) (n := "range_iterator") st' rfl rfl (by decide) ⟨.int (lo + i), H, I1, ⟨t, ?_⟩, ⟨rfl, rfl⟩, st', λ b hb => (hf b hb).1⟩⟩
  rw [Int.mul_one]
 done := by
  intro X hP hw hK hc i pins s σ H E I hf st hg
  subst hP hw hK
  obtain ⟨f0, f1, f2, f3, f4, f5⟩ := hf it (by simp)
  exact wpAny_pyNext_range_end (I.ok.hd hc) st (by have : n <= i := hg; omega) λ h' eb => ⟨rfl, I.turned (t' := s.toks) (λ b o hb e => eb b o hb e) f0 f1 f3 f4 f5⟩
 self := λ _ _ _ _ _ st h => wpAny_pyIter_rangeiter st h
end L2
namespace L2
open PySem PySem.Spec PyProof.Rows
section
variable {X : Cx} {tg : Expr}
theorem Jyn {pins : List (Addr × Obj)} {σ : St} {H : Hp} {s : Shared} {R : It -> Hp -> Prop} {E : Value -> Shared -> Prop} {lo hi : Int} {t u v : Tok} {tk : Nat} (I : Inv X pins σ H s) (h1 : -(2 ^ 62) <= lo) (h2 : lo < 2 ^ 62) (h3 : -(2 ^ 62) <= hi) (h4 : hi < 2 ^ 62)
  (q : R (Itr lo (hi - lo).toNat) H) : wpAny (model X.prog X.w) X.A (pyIter (.ref s.heap.objs.size)) (PIE X pins σ tg R) E { s with heap := s.heap.push { cls := .type "range", data := .fields #[.int lo t, .int hi u, .int 1 v] }, toks := tk } := by
 refine wpAny_pyIter_range (IsRange.new ..) (small_one h1 h2 h3 h4) ?_
 have I1 : Inv X pins σ H { s with heap := s.heap.push { cls := .type "range", data := .fields #[.int lo t, .int hi u, .int 1 v] }, toks := tk } := I.kept λ b o e => Heap.get?_push_of_some _ e
 refine ⟨(s.heap.push { cls := .type "range", data := .fields #[.int lo t, .int hi u, .int 1 v] }).objs.size, [(s.heap.push { cls := .type "range", data := .fields #[.int lo t, .int hi u, .int 1 v] }).objs.size], _, _, H, rfl,
  I1.kept (t' := tk) λ b o e => Heap.get?_push_of_some _ e, Jut _ lo (hi - lo).toNat, ?_, λ b hb => ?_, q⟩
 ·have e1 : lo + ((0 : Nat) : Int) * 1 = lo := by simp
  have e2 : (((hi - lo).toNat : Nat) : Int) - ((0 : Nat) : Int) = Builtin.Range.rangeSize lo hi 1 := by rw [rangeSize_one]; split <;> omega
  show IsRangeIter _ _ (lo + ((0 : Nat) : Int) * 1) ((((hi - lo).toNat : Nat) : Int) - ((0 : Nat) : Int)) 1
  rw [e1, e2]
  exact Heap.get?_push_size _ rfl
 ·have e : b = (s.heap.push { cls := .type "range", data := .fields #[.int lo t, .int hi u, .int 1 v] }).objs.size := by simpa using hb
  subst e
  exact I1.fpOk (Nat.le_refl _) (I1.hok.fresh (Nat.le_refl _))
noncomputable def Jio (fp : List Addr) (h : Heap) : List (Addr × Obj) := fp.filterMap λ b => (h.get? b).map λ o => (b, o)
theorem Jdc {fp : List Addr} {h : Heap} {b : Addr} {o : Obj} (hb : b ∈ fp) (e : h.get? b = some o) : (b, o) ∈ Jio fp h := List.mem_filterMap.mpr ⟨b, hb, by rw [e]; rfl⟩
theorem Jwt {fp : List Addr} {h : Heap} {p : Addr × Obj} (hp : p ∈ Jio fp h) : p.1 ∈ fp /\ h.get? p.1 = some p.2 := by
 obtain ⟨b, hb, e⟩ := List.mem_filterMap.mp hp
 cases q : h.get? b with
 | none => rw [q] at e; cases e
 | some o =>
  rw [q] at e
  have e' : (b, o) = p := Option.some.inj e
  subst e'
  exact ⟨hb, q⟩
theorem Inv.pinned {pins : List (Addr × Obj)} {σ : St} {H : Hp} {s : Shared} {fp : List Addr} (I : Inv X pins σ H s) (hf : ∀ b ∈ fp, FpOk X pins H b) (ho : ∀ b ∈ fp, ∃ o, s.heap.get? b = some o /\ ∀ v, o.data ≠ .cell v) : Inv X (pins ++ Jio fp s.heap) σ H s :=
 I.pins_of λ p hp => (List.mem_append.mp hp).elim (λ z => I.pin p (List.mem_append_right _ z)) λ z => by
  obtain ⟨hb, e⟩ := Jwt z
  obtain ⟨f0, f1, f2, _⟩ := hf p.1 hb
  obtain ⟨o, e', d⟩ := ho p.1 hb
  rw [e] at e'; cases e'
  exact ⟨e, f0, f1, f2, d⟩
theorem Inv.unpinned {pins pl : List (Addr × Obj)} {σ : St} {H : Hp} {s : Shared} (I : Inv X (pins ++ pl) σ H s) : Inv X pins σ H s := I.pins_of λ p hp => I.pin p (List.mem_append_right _ (List.mem_append_left _ hp))
end
end L2
namespace L2
open PySem PySem.Spec PyProof.Rows
noncomputable abbrev R2 := V -> V -> Hp -> VK -> Prop
noncomputable def OpR (X : Cx) (f : Value -> Value -> Sem Value) (r : R2) : Prop :=
 ∀ (pins : List (Addr × Obj)) (s : Shared) (σ : St) (H : Hp) (x y : V) (v u : Value) (Q : VK), Inv X pins σ H s -> RelV x v -> RelV y u -> r x y H Q ->
  wpAny (model X.prog X.w) X.A (f v u) (EP X pins σ Q) X.xe s
noncomputable def UnR (X : Cx) (f : Value -> Sem Value) (r : V -> Hp -> VK -> Prop) : Prop :=
 ∀ (pins : List (Addr × Obj)) (s : Shared) (σ : St) (H : Hp) (x : V) (v : Value) (Q : VK), Inv X pins σ H s -> RelV x v -> r x H Q ->
  wpAny (model X.prog X.w) X.A (f v) (EP X pins σ Q) X.xe s
noncomputable def Jtv (X : Cx) (f : Value) (r : List V -> Hp -> VK -> Prop) : Prop :=
 ∀ (pins : List (Addr × Obj)) (s : Shared) (σ : St) (H : Hp) (xs : List V) (us : List Value) (Q : VK), Inv X pins σ H s -> Vals xs us -> r xs H Q ->
  wpAny (model X.prog X.w) X.A (call f us) (EP X pins σ Q) X.xe s
noncomputable def TruR (X : Cx) (r : V -> Hp -> (Bool -> Hp -> Prop) -> Prop) : Prop :=
 ∀ (pins : List (Addr × Obj)) (s : Shared) (σ : St) (H : Hp) (x : V) (v : Value) (Q : Bool -> Hp -> Prop), Inv X pins σ H s -> RelV x v -> r x H Q ->
  wpAny (model X.prog X.w) X.A (truthy v) (TP X pins σ Q) X.xe s
noncomputable def rI (C : Int -> Int -> Prop) (g : Int -> Int -> V) : R2 := λ x y H Q => ∃ i j, x = .int i /\ y = .int j /\ C i j /\ Q (g i j) H
noncomputable def rI0 (g : Int -> Int -> V) : R2 := λ x y H Q => ∃ i j, x = .int i /\ y = .int j /\ Q (g i j) H
noncomputable def rU (g : Int -> V) : V -> Hp -> VK -> Prop := λ x H Q => ∃ i, x = .int i /\ Q (g i) H
section
variable {X : Cx} {a b c : Expr} {ta tb tc : TE} {pos : Pos}
theorem opI {f : Value -> Value -> Sem Value} {C : Int -> Int -> Prop} {g : Int -> Int -> Int}
  (rule : ∀ (i j : Int) (t u : Tok) (s : Shared) (Q : Value -> Shared -> Prop) (E : Value -> Shared -> Prop), C i j -> Q (.int (g i j) s.toks) { s with toks := s.toks + 1 } -> wpAny (model X.prog X.w) X.A (f (.int i t) (.int j u)) Q E s) :
  OpR X f (rI C λ i j => .int (g i j)) := by
 intro pins s σ H x y v u Q I rx ry h
 obtain ⟨i, j, rfl, rfl, hc, q⟩ := h
 obtain ⟨t, rfl⟩ := rx
 obtain ⟨t', rfl⟩ := ry
 exact rule i j t t' s _ _ hc ⟨.int (g i j), H, I.tok _, ⟨_, rfl⟩, q⟩
theorem opI0 {f : Value -> Value -> Sem Value} {g : Int -> Int -> Int}
  (rule : ∀ (i j : Int) (t u : Tok) (s : Shared) (Q : Value -> Shared -> Prop) (E : Value -> Shared -> Prop), Q (.int (g i j) s.toks) { s with toks := s.toks + 1 } -> wpAny (model X.prog X.w) X.A (f (.int i t) (.int j u)) Q E s) :
  OpR X f (rI0 λ i j => .int (g i j)) := by
 intro pins s σ H x y v u Q I rx ry h
 obtain ⟨i, j, rfl, rfl, q⟩ := h
 obtain ⟨t, rfl⟩ := rx
 obtain ⟨t', rfl⟩ := ry
 exact rule i j t t' s _ _ ⟨.int (g i j), H, I.tok _, ⟨_, rfl⟩, q⟩
theorem opB0 {f : Value -> Value -> Sem Value} {g : Int -> Int -> Bool}
  (rule : ∀ (i j : Int) (t u : Tok) (s : Shared) (Q : Value -> Shared -> Prop) (E : Value -> Shared -> Prop), Q (.bool (g i j)) s -> wpAny (model X.prog X.w) X.A (f (.int i t) (.int j u)) Q E s) :
  OpR X f (rI0 λ i j => .bl (g i j)) := by
 intro pins s σ H x y v u Q I rx ry h
 obtain ⟨i, j, rfl, rfl, q⟩ := h
 obtain ⟨t, rfl⟩ := rx
 obtain ⟨t', rfl⟩ := ry
 exact rule i j t t' s _ _ ⟨.bl (g i j), H, I, rfl, q⟩
noncomputable def CPow (i j : Int) : Prop := 0 <= j /\ j <= 1000000 /\ i.natAbs < 2 ^ 64
noncomputable def CMul (i j : Int) : Prop := (-(2 ^ 64) < i /\ i < 2 ^ 64) ∨ (-(2 ^ 64) < j /\ j < 2 ^ 64)
theorem CMul.ok {i j : Int} (h : CMul i j) : IntMulOk i j := by
 rcases h with ⟨h1, h2⟩ | ⟨h1, h2⟩
 ·exact .of_left (intBits_le_64 h1 h2)
 ·exact .of_right (intBits_le_64 h1 h2)
theorem J4g : OpR X (binaryOp .Add) (rI0 λ i j => .int (i + j)) := opI0 λ _ _ _ _ _ _ _ q => add_int q
theorem J38 : OpR X (binaryOp .Sub) (rI0 λ i j => .int (i - j)) := opI0 λ _ _ _ _ _ _ _ q => sub_int q
theorem J53 : OpR X (binaryOp .Mod) (rI (λ _ j => 0 < j) λ i j => .int (i % j)) := opI λ i j _ _ _ _ _ hc q => by
 have h1 : (0 : Int) < j := hc
 exact mod_int' (by omega) (by rw [Int.fmod_eq_emod_of_nonneg i (by omega)]; exact q)
theorem J47 : OpR X (binaryOp .Pow) (rI CPow λ i j => .int (i ^ j.toNat)) := opI λ _ _ _ _ _ _ _ hc q => pow_int_small hc.1 hc.2.1 hc.2.2 q
theorem unI {f : Value -> Sem Value} {g : Int -> Int}
  (rule : ∀ (i : Int) (t : Tok) (s : Shared) (Q : Value -> Shared -> Prop) (E : Value -> Shared -> Prop), Q (.int (g i) s.toks) { s with toks := s.toks + 1 } -> wpAny (model X.prog X.w) X.A (f (.int i t)) Q E s) :
  UnR X f (rU λ i => .int (g i)) := by
 intro pins s σ H x v Q I rx h
 obtain ⟨i, rfl, q⟩ := h
 obtain ⟨t, rfl⟩ := rx
 exact rule i t s _ _ ⟨.int (g i), H, I.tok _, ⟨_, rfl⟩, q⟩
theorem J3x : UnR X (unaryOp .USub) (rU λ i => .int (-i)) := unI λ _ _ _ _ _ q => neg_int q
end
noncomputable def scal : V -> V -> Bool
 | .non, .non => true | .non, .int _ => true | .int _, .non => true | .non, .bl _ => true | .bl _, .non => true | .non, .str _ => true | .str _, .non => true
 | .int _, .int _ => true | .bl _, .bl _ => true | .str _, .str _ => true | .byt _, .byt _ => true
 | .int _, .str _ => true | .str _, .int _ => true | .bl _, .str _ => true | .str _, .bl _ => true
 | _, _ => false
noncomputable def rEq : R2 := λ x y H Q => scal x y = true /\ Q (.bl (decide (x = y))) H
noncomputable def rNe : R2 := λ x y H Q => scal x y = true /\ Q (.bl (!decide (x = y))) H
theorem Jw5 {i j : Int} : decide (V.int i = V.int j) = (i == j) := by
 rw [Bool.eq_iff_iff]
 simp
theorem J0g {i j : Bool} : decide (V.bl i = V.bl j) = (i == j) := by
 rw [Bool.eq_iff_iff]
 simp
theorem Jvo {i j : Str} : decide (V.str i = V.str j) = (i == j) := by
 rw [Bool.eq_iff_iff]
 simp
theorem Jxt {i j : Array UInt8} : decide (V.byt i = V.byt j) = (i.toList == j.toList) := by
 rw [Bool.eq_iff_iff]
 cases i
 cases j
 simp
section
variable {X : Cx} {a b c : Expr} {ta tb tc : TE} {pos : Pos}
theorem Jq {pins : List (Addr × Obj)} {σ : St} {H : Hp} {s : Shared} {Q : VK} {k k' : Bool} (I : Inv X pins σ H s) (q : Q (.bl k) H) (e : k = k') : EP X pins σ Q (.bool k') s := by
 subst e
 exact ⟨.bl k, H, I, rfl, q⟩
theorem op_eq : OpR X (compareOp .Eq) rEq := by
 intro pins s σ H x y v u Q I rx ry h
 obtain ⟨hs, q⟩ := h
 cases x with
 | non =>
  cases rx
  cases y with
  | non => cases ry; exact PySem.EqNone.eq_none_none (Jq I q (by simp))
  | bl j => cases ry; exact PySem.EqNone.eq_none_bool (Jq I q (by simp))
  | int j => obtain ⟨t', rfl⟩ := ry; exact PySem.EqNone.eq_none_int (Jq I q (by simp))
  | str j => obtain ⟨t', rfl⟩ := ry; exact PySem.EqNone.eq_none_str (Jq I q (by simp))
  | _ => exact absurd (show false = true from hs) Bool.false_ne_true
 | bl i =>
  cases rx
  cases y with
  | non => cases ry; exact PySem.EqNone.eq_bool_none (Jq I q (by simp))
  | bl j => cases ry; exact eq_bool (Jq I q J0g)
  | str j => obtain ⟨t', rfl⟩ := ry; exact PySem.EqMixed.eq_bool_str (Jq I q (by simp))
  | _ => exact absurd (show false = true from hs) Bool.false_ne_true
 | int i =>
  obtain ⟨t, rfl⟩ := rx
  cases y with
  | non => cases ry; exact PySem.EqNone.eq_int_none (Jq I q (by simp))
  | int j => obtain ⟨t', rfl⟩ := ry; exact eq_int (Jq I q Jw5)
  | str j => obtain ⟨t', rfl⟩ := ry; exact PySem.EqMixed.eq_int_str (Jq I q (by simp))
  | _ => exact absurd (show false = true from hs) Bool.false_ne_true
 | str i =>
  obtain ⟨t, rfl⟩ := rx
  cases y with
  | non => cases ry; exact PySem.EqNone.eq_str_none (Jq I q (by simp))
  | bl j => cases ry; exact PySem.EqMixed.eq_str_bool (Jq I q (by simp))
  | int j => obtain ⟨t', rfl⟩ := ry; exact PySem.EqMixed.eq_str_int (Jq I q (by simp))
  | str j => obtain ⟨t', rfl⟩ := ry; exact eq_str (Jq I q Jvo)
  | _ => exact absurd (show false = true from hs) Bool.false_ne_true
 | byt i =>
  obtain ⟨t, rfl⟩ := rx
  cases y with
  | byt j => obtain ⟨t', rfl⟩ := ry; exact W.eq_bytes (Jq I q Jxt)
  | _ => exact absurd (show false = true from hs) Bool.false_ne_true
 | _ => cases y <;> exact absurd (show false = true from hs) Bool.false_ne_true
theorem op_ne : OpR X (compareOp .NotEq) rNe := by
 intro pins s σ H x y v u Q I rx ry h
 obtain ⟨hs, q⟩ := h
 cases x with
 | non =>
  cases rx
  cases y with
  | non => cases ry; exact PySem.EqNone.ne_none_none (Jq I q (by simp))
  | bl j => cases ry; exact PySem.EqNone.ne_none_bool (Jq I q (by simp))
  | int j => obtain ⟨t', rfl⟩ := ry; exact PySem.EqNone.ne_none_int (Jq I q (by simp))
  | str j => obtain ⟨t', rfl⟩ := ry; exact PySem.EqNone.ne_none_str (Jq I q (by simp))
  | _ => exact absurd (show false = true from hs) Bool.false_ne_true
 | bl i =>
  cases rx
  cases y with
  | non => cases ry; exact PySem.EqNone.ne_bool_none (Jq I q (by simp))
  | bl j => cases ry; exact ne_bool (Jq I q (congrArg not J0g))
  | str j => obtain ⟨t', rfl⟩ := ry; exact PySem.EqMixed.ne_bool_str (Jq I q (by simp))
  | _ => exact absurd (show false = true from hs) Bool.false_ne_true
 | int i =>
  obtain ⟨t, rfl⟩ := rx
  cases y with
  | non => cases ry; exact PySem.EqNone.ne_int_none (Jq I q (by simp))
  | int j => obtain ⟨t', rfl⟩ := ry; exact ne_int (Jq I q (congrArg not Jw5))
  | str j => obtain ⟨t', rfl⟩ := ry; exact PySem.EqMixed.ne_int_str (Jq I q (by simp))
  | _ => exact absurd (show false = true from hs) Bool.false_ne_true
 | str i =>
  obtain ⟨t, rfl⟩ := rx
  cases y with
  | non => cases ry; exact PySem.EqNone.ne_str_none (Jq I q (by simp))
  | bl j => cases ry; exact PySem.EqMixed.ne_str_bool (Jq I q (by simp))
  | int j => obtain ⟨t', rfl⟩ := ry; exact PySem.EqMixed.ne_str_int (Jq I q (by simp))
  | str j => obtain ⟨t', rfl⟩ := ry; exact ne_str (Jq I q (congrArg not Jvo))
  | _ => exact absurd (show false = true from hs) Bool.false_ne_true
 | byt i =>
  obtain ⟨t, rfl⟩ := rx
  cases y with
  | byt j => obtain ⟨t', rfl⟩ := ry; exact W.ne_bytes (Jq I q (congrArg not Jxt))
  | _ => exact absurd (show false = true from hs) Bool.false_ne_true
 | _ => cases y <;> exact absurd (show false = true from hs) Bool.false_ne_true
theorem op_lt : OpR X (compareOp .Lt) (rI0 λ i j => .bl (decide (i < j))) := opB0 λ _ _ _ _ _ _ _ q => lt_int q
theorem op_le : OpR X (compareOp .LtE) (rI0 λ i j => .bl (decide (i <= j))) := opB0 λ _ _ _ _ _ _ _ q => le_int q
theorem op_gt : OpR X (compareOp .Gt) (rI0 λ i j => .bl (decide (j < i))) := opB0 λ _ _ _ _ _ _ _ q => gt_int q
theorem op_ge : OpR X (compareOp .GtE) (rI0 λ i j => .bl (decide (j <= i))) := opB0 λ _ _ _ _ _ _ _ q => ge_int q
theorem Jv1 : OpR X (compareOp .Lt) (λ x y H Q => ∃ i j, x = .str i /\ y = .str j /\ Q (.bl (decide (i.cps.toList < j.cps.toList))) H) := by
 intro pins s σ H x y v u Q I rx ry h
 obtain ⟨i, j, rfl, rfl, q⟩ := h
 obtain ⟨t, rfl⟩ := rx
 obtain ⟨t', rfl⟩ := ry
 exact lt_str (Jq I q rfl)
theorem nomark (b : Expr) {op : CmpOp} (h : op ≠ .In := by decide) (h2 : op ≠ .NotIn := by decide) : behindInMarks op b = false := by
 have e1 : (op == CmpOp.In) = false := by cases op <;> first | rfl | exact absurd rfl h
 have e2 : (op == CmpOp.NotIn) = false := by cases op <;> first | rfl | exact absurd rfl h2
 cases b <;> simp [behindInMarks, e1, e2]
noncomputable def TruV (K : W.Frag) (x : V) (H : Hp) (k : Bool) : Prop :=
 match x with
 | .non => k = false
 | .bl b => k = b
 | .int i => k = (i != 0)
 | .str y => y.length <= sizeLine /\ k = ((y.length : Int) != 0)
 | .byt y => y.size <= sizeLine /\ k = ((y.size : Int) != 0)
 | .ref p => (∃ xs, SqL K H p xs /\ k = !xs.isEmpty) ∨ (∃ xs, SqT K H p xs /\ k = !xs.isEmpty) ∨ ∃ kvs, H p = some (.dK kvs) /\ k = !kvs.isEmpty
 | _ => False
theorem Jui {κ : Type} {kvs : List (κ × V)} {vs : List (κ × Value)} (r : KV kvs vs) : (!vs.isEmpty) = !kvs.isEmpty := by
 cases r <;> rfl
theorem Jog {xs : List V} {its : List Value} (r : Vals xs its) : (!its.toArray.isEmpty) = !xs.isEmpty := by
 cases r <;> simp
theorem Jof : (sizeLine : Nat) < 2 ^ 63 := by rw [sizeLine_eq]; decide
theorem Jkn : TruR X (λ x H Q => ∃ k, TruV X.K x H k /\ Q k H) := by
 intro pins s σ H x v Q I rx h
 obtain ⟨k, e, q⟩ := h
 have hl := Jof
 have hs : sizeLine = 16777216 := sizeLine_eq
 cases x with
 | non =>
  cases rx
  have e' : k = false := e
  subst e'
  exact truthy_none ⟨H, I, q⟩
 | bl b =>
  cases rx
  have e' : k = b := e
  subst e'
  exact wpAny_truthy_bool ⟨H, I, q⟩
 | int i =>
  obtain ⟨t, rfl⟩ := rx
  have e' : k = (i != 0) := e
  subst e'
  exact PySem.P.truthy_int ⟨H, I, q⟩
 | str y =>
  obtain ⟨t, rfl⟩ := rx
  obtain ⟨hy, e'⟩ : y.length <= sizeLine /\ k = ((y.length : Int) != 0) := e
  subst e'
  exact PySem.P.truthy_str (by omega) ⟨H, I.tok _, q⟩
 | byt y =>
  obtain ⟨t, rfl⟩ := rx
  obtain ⟨hy, e'⟩ : y.size <= sizeLine /\ k = ((y.size : Int) != 0) := e
  subst e'
  exact W.truthy_bytes (by omega) ⟨H, I.tok _, q⟩
 | ref p =>
  cases rx
  have e' : (∃ xs, SqL X.K H p xs /\ k = !xs.isEmpty) ∨ (∃ xs, SqT X.K H p xs /\ k = !xs.isEmpty) ∨ ∃ kvs, H p = some (.dK kvs) /\ k = !kvs.isEmpty := e
  rcases e' with ⟨xs, hx, e'⟩ | ⟨xs, hx, e'⟩ | ⟨kvs, hx, e'⟩
  ·subst e'
   obtain ⟨its, r, pl, hz⟩ := I.list hx
   have hlen := r.length
   exact wpAny_truthy_list pl.isList (by simp only [List.size_toArray]; omega) ⟨H, I.tok _, by rw [Jog r]; exact q⟩
  ·subst e'
   obtain ⟨its, r, pl, hz⟩ := I.tuple hx
   have hlen := r.length
   exact truthy_tuple pl (by simp only [List.size_toArray]; omega) ⟨H, I.tok _, by rw [Jog r]; exact q⟩
  ·subst e'
   obtain ⟨hz, hS, vs, r, m⟩ : kvs.length <= sizeLine /\ (p == sysModules) = false /\ ∃ vs, KV kvs vs /\ s.heap.DictOf (Jbn X.prog X.w) p vs := I.hok p _ hx
   have hlen : kvs.length = vs.length := Paired.length r
   exact wpAny_truthy_dict hS m (by omega) ⟨H, I.tok _, by rw [Jui r]; exact q⟩
 | _ => exact Zf e
theorem Jto : OpR X (binaryOp .Add) (λ x y H Q => ∃ i j, x = .str i /\ y = .str j /\ i.length + j.length <= sizeLine /\ Q (.str (i ++ j)) H) := by
 intro pins s σ H x y v u Q I rx ry h
 obtain ⟨i, j, rfl, rfl, hz, q⟩ := h
 obtain ⟨t, rfl⟩ := rx
 obtain ⟨t', rfl⟩ := ry
 exact add_str (λ t' tk => ⟨.str (i ++ j), H, I.tok _, ⟨_, rfl⟩, q⟩) hz
theorem Jng {x : V} {us : List Value} (r : Vals [x] us) : ∃ u, us = [u] /\ RelV x u := by
 cases r with
 | cons r1 r2 => cases r2; exact ⟨_, rfl, r1⟩
theorem J3w {x y : V} {us : List Value} (r : Vals [x, y] us) : ∃ u w', us = [u, w'] /\ RelV x u /\ RelV y w' := by
 cases r with
 | cons r1 r2 =>
  cases r2 with
  | cons r3 r4 => cases r4; exact ⟨_, _, rfl, r1, r3⟩
theorem Jwb (hc : X.calm = true) : Jtv X (.builtin "max") (λ xs H Q => ∃ i j, xs = [.int i, .int j] /\ Q (.int (if j > i then j else i)) H) := by
 intro pins s σ H xs us Q I r h
 obtain ⟨i, j, rfl, q⟩ := h
 obtain ⟨u, w', rfl, ⟨t, rfl⟩, ⟨t', rfl⟩⟩ := J3w r
 refine max_two_ints (I.ok.hd hc) λ h' tk k => ⟨_, H, I.kept k, ?_, q⟩
 by_cases hj : j > i
 ·rw [if_pos hj, if_pos hj]; exact ⟨_, rfl⟩
 ·rw [if_neg hj, if_neg hj]; exact ⟨_, rfl⟩
theorem Ju9 (hc : X.calm = true) : Jtv X (.builtin "min") (λ xs H Q => ∃ i j, xs = [.int i, .int j] /\ Q (.int (if j < i then j else i)) H) := by
 intro pins s σ H xs us Q I r h
 obtain ⟨i, j, rfl, q⟩ := h
 obtain ⟨u, w', rfl, ⟨t, rfl⟩, ⟨t', rfl⟩⟩ := J3w r
 refine min_two_ints (I.ok.hd hc) λ h' tk k => ⟨_, H, I.kept k, ?_, q⟩
 by_cases hj : j < i
 ·rw [if_pos hj, if_pos hj]; exact ⟨_, rfl⟩
 ·rw [if_neg hj, if_neg hj]; exact ⟨_, rfl⟩
noncomputable def LenV (K : W.Frag) (x : V) (H : Hp) (n : Nat) : Prop :=
 match x with
 | .str y => y.length <= sizeLine /\ n = y.length
 | .byt y => y.size <= sizeLine /\ n = y.size
 | .ref p => (∃ xs, SqL K H p xs /\ n = xs.length) ∨ ∃ xs, SqT K H p xs /\ n = xs.length
 | _ => False
theorem Jlv : Jtv X (.builtin "len") (λ xs H Q => ∃ x n, xs = [x] /\ LenV X.K x H n /\ Q (.int n) H) := by
 intro pins s σ H xs us Q I r h
 obtain ⟨x, n, rfl, e, q⟩ := h
 obtain ⟨u, rfl, rx⟩ := Jng r
 have hl := Jof
 have hs : sizeLine = 16777216 := sizeLine_eq
 cases x with
 | str y =>
  obtain ⟨t, rfl⟩ := rx
  obtain ⟨hy, e'⟩ : y.length <= sizeLine /\ n = y.length := e
  subst e'
  exact len_str (by omega) ⟨.int _, H, I.tok _, ⟨_, rfl⟩, q⟩
 | byt y =>
  obtain ⟨t, rfl⟩ := rx
  obtain ⟨hy, e'⟩ : y.size <= sizeLine /\ n = y.size := e
  subst e'
  exact W.len_bytes (by omega) ⟨.int _, H, I.tok _, ⟨_, rfl⟩, q⟩
 | ref p =>
  cases rx
  have e' : (∃ xs, SqL X.K H p xs /\ n = xs.length) ∨ ∃ xs, SqT X.K H p xs /\ n = xs.length := e
  rcases e' with ⟨xs, hx, e'⟩ | ⟨xs, hx, e'⟩
  ·subst e'
   obtain ⟨its, r', pl, hz⟩ := I.list hx
   have hlen := r'.length
   exact Calls.call_len_list pl.isList (by simp only [List.size_toArray]; omega) ⟨.int xs.length, H, I.tok _, ⟨_, by simp only [List.size_toArray]; rw [hlen]⟩, q⟩
  ·subst e'
   obtain ⟨its, r', pl, hz⟩ := I.tuple hx
   have hlen := r'.length
   exact len_tuple pl (by simp only [List.size_toArray]; omega) ⟨.int xs.length, H, I.tok _, ⟨_, by simp only [List.size_toArray]; rw [hlen]⟩, q⟩
 | _ => exact Zf e
end
end L2
namespace L2
open PySem PySem.Spec PyProof.Rows
structure ObjM (h : Heap) (x dx C : Addr) (mA : Str -> Option Value) : Prop where
 obj : h.get? x = some (W.instObj C dx)
 ns : h.Ns1 dx mA
 ne : dx ≠ x
theorem Jxh {h : Heap} {dx : Addr} {mA : Str -> Option Value} (n : h.Ns1 dx mA) : ∃ od, h.get? dx = some od /\ ∀ name, W.lookIn name od = some (mA name) := by
 obtain ⟨o, es, ep, ho, hd, hk, _, hm⟩ := n
 refine ⟨o, ho, λ name => ?_⟩
 have e := hm name
 unfold nsFind findBy at e
 rw [<- Array.find?_toList] at e
 unfold W.lookIn
 rw [hd]
 dsimp only
 split
 ·rename_i y q
  rw [q] at e
  exact congrArg some e
 ·rename_i q
  rw [q] at e
  have a : es.toList.any (·.refKey) = false := by
   rw [List.any_eq_false]
   intro y hy
   obtain ⟨z, t, hkey⟩ := hk y (Array.mem_toList_iff.mp hy)
   simp [DictEntry.refKey, hkey]
  have a' : ¬ es.toList.any (·.refKey) = true := by rw [a]; exact Bool.false_ne_true
  rw [if_neg a']
  exact congrArg some e
theorem ObjM.look {h : Heap} {x dx C : Addr} {mA : Str -> Option Value} (I : ObjM h x dx C mA) : ∃ od, W.InstAt h x (W.instObj C dx) C (some od) /\ ∀ name, W.lookIn name od = some (mA name) :=
 let ⟨od, ho, hl⟩ := Jxh I.ns
 ⟨od, ⟨I.obj, rfl, rfl, ho⟩, hl⟩
section
variable {prog : Program} {w : World} {A : Around} {E : Value -> Shared -> Prop} {s : Shared} {K : W.Frag} {x dx C f : Addr} {mA : Str -> Option Value} {name : Str} {v : Value}
theorem J1r {expr : Bool} {Q : Value -> Shared -> Prop} (X : K.In s.heap) (I : ObjM s.heap x dx C mA) (hg : W.plainGet K C name = true) (hh : W.hasDictIn K C = true)
  (ha : W.findIn K (.ref C) name = some none) (hv : mA name = some v) (hv' : W.handedIn v = true) (h : Q v { s with toks := s.toks + 1 }) :
  wpAny (model prog w) A (getAttr (.ref x) name expr) Q E s := by
 obtain ⟨od, J, hl⟩ := I.look
 exact W.get_value X J (W.plainGet_of hg).1 (W.findObj_own hh ha rfl (by rw [hl, hv])) hv' h
theorem Jx2 {pl : Sem Bool} {Q : Value × List Value -> Shared -> Prop} (X : K.In s.heap) (I : ObjM s.heap x dx C mA) (hg : W.plainGet K C name = true)
  (hf : W.findIn K (.ref C) name = some (some (.ref f))) (ht : W.isFn K (.ref f) = true) (hv : mA name = none) (h : Q (.ref f, [.ref x]) s) :
  wpAny (model prog w) A (getMethod (.ref x) name pl) Q E s := by
 obtain ⟨od, J, hl⟩ := I.look
 exact W.method_fn X J (W.plainGet_of hg).1 (W.plainGet_of hg).2 hf (beq_iff_eq.mp ht) (by show (W.lookIn name od).map (·.isSome) = some false; rw [hl, hv]; rfl) h
theorem J1u {ns : List Str} {Q : Unit -> Shared -> Prop} (X : K.In s.heap) (I : ObjM s.heap x dx C mA)
  (hs : W.findIn K (.ref C) "__setattr__" = some (some (.builtin "object.__setattr__"))) (hp : W.plainOver K C = true) (ht : W.takerIn K C name = some none) (hh : W.hasDictIn K C = true)
  (hw : PySem.Within mA ns) (hsz : ns.length <= sizeLine)
  (h : ∀ h', ObjM h' x dx C (λ y => if y = name then some v else mA y) -> Heap.SameBut dx s.heap h' -> Q () { s with heap := h', toks := s.toks + 2 }) :
  wpAny (model prog w) A (setAttr (.ref x) name v) Q E s := by
 obtain ⟨od, J, hl⟩ := I.look
 refine W.set_plain X J hs (W.osa_open (s := { s with toks := s.toks + 1 }) (r := none) X J hp ht λ b => ?_)
 obtain ⟨cd, hc, hd'⟩ := W.any_some hh
 have hx : s.heap.get? x = some ⟨.ref C, some dx, .plain, #[]⟩ := I.obj
 refine wpAny_bind (wpAny_pure (wpAny_bind (wpAny_bind (wpAny_loadPart hx (wpAny_bind (W.Looks.here (s := { s with toks := s.toks + 1 }) (W.looks_clsIn X hc) ?_))))))
 rw [hd']
 refine wpAny_pure (a := some dx) (wpAny_bind (wpAny_pure (wpAny_bind ?_)))
 refine wpAny_nsSet1 (s := { s with toks := s.toks + 1 }) I.ns λ h' hn2 hs2 => ?_
 obtain ⟨oD, esD, epD, hoD, hdD, hcD⟩ := hn2.count (PySem.Within.cons name v hw)
 refine wpAny_bind (wpAny_lookBehind hoD (by rw [hdD]; exact pastItsLine_dict (Nat.le_trans hcD (by rw [List.length_cons]; omega))) ?_)
 exact wpAny_pure (h _ ⟨(hs2.2 _ (Ne.symm I.ne)).trans I.obj, hn2, I.ne⟩ hs2)
theorem Jzs {R : Result -> Shared -> Prop} {vs : List Value} {kw : List (Str × Value)} (X : K.In s.heap) (hm : W.makesIn K C = true)
  (hi : W.findIn K (.ref C) "__init__" = some (some (.ref f))) (hf : W.typeIn K (.ref f) = some (.type "function"))
  (h : codeAny (model prog w) (A.under (.builtin "type.__call__" ⟨.ref C :: vs, kw⟩)) (.call (.ref f) ⟨.ref (s.heap.objs.size + 1) :: vs, kw⟩) (W.InitBack (s.heap.objs.size + 1) R)
   { s with heap := (s.heap.push W.emptyDict).push (W.instObj C s.heap.objs.size) }) :
  codeAny (model prog w) A (.call (.ref C) ⟨vs, kw⟩) R s := by
 obtain ⟨hh, g, d, t, os⟩ := s
 exact W.make_core (W.makes_of X hm) (W.looks_findIn X hi) (λ self => W.bind_fn X self hf) (.inl rfl) h
end
noncomputable def putF (f : Str) (v : V) : List (Str × V) -> List (Str × V)
 | [] => [(f, v)]
 | (g, x) :: r => if g = f then (g, v) :: r else (g, x) :: putF f v r
theorem Jmd (f g : Str) (v : V) : ∀ fs : List (Str × V), (putF f v fs).lookup g = if g = f then some v else fs.lookup g
 | [] => by
  show List.lookup g [(f, v)] = _
  by_cases h : g = f
  ·have hb : (g == f) = true := beq_iff_eq.mpr h
   simp only [List.lookup, hb, if_pos h]
  ·have hb : (g == f) = false := beq_eq_false_iff_ne.mpr h
   simp only [List.lookup, hb, if_neg h]
 | (k, x) :: r => by
  have ih := Jmd f g v r
  rw [show putF f v ((k, x) :: r) = (if k = f then (k, v) :: r else (k, x) :: putF f v r) from rfl]
  by_cases hk : k = f
  ·rw [if_pos hk]
   by_cases h : g = k
   ·have hb : (g == k) = true := beq_iff_eq.mpr h
    simp only [List.lookup, hb, if_pos (h.trans hk)]
   ·have hb : (g == k) = false := beq_eq_false_iff_ne.mpr h
    simp only [List.lookup, hb, if_neg (λ e : g = f => h (e.trans hk.symm))]
  ·rw [if_neg hk]
   by_cases h : g = k
   ·have hb : (g == k) = true := beq_iff_eq.mpr h
    simp only [List.lookup, hb, if_neg (λ e : g = f => hk (h.symm.trans e))]
   ·have hb : (g == k) = false := beq_eq_false_iff_ne.mpr h
    simp only [List.lookup, hb]
    exact ih
theorem Jm7 (f : Str) (v : V) : ∀ fs : List (Str × V), f ∈ (putF f v fs).map (·.1) /\ ∀ g, g ∈ fs.map (·.1) -> g ∈ (putF f v fs).map (·.1)
 | [] => ⟨by simp [putF], λ g h => by simp at h⟩
 | (k, x) :: r => by
  obtain ⟨i1, i2⟩ := Jm7 f v r
  rw [show putF f v ((k, x) :: r) = (if k = f then (k, v) :: r else (k, x) :: putF f v r) from rfl]
  by_cases hk : k = f
  ·rw [if_pos hk]
   subst hk
   exact ⟨by simp, λ g h => by simpa using h⟩
  ·rw [if_neg hk]
   refine ⟨?_, λ g h => ?_⟩
   ·rw [List.map_cons]
    exact List.mem_cons_of_mem _ i1
   ·rw [List.map_cons] at h ⊢
    rcases List.mem_cons.mp h with e | e
    ·exact List.mem_cons.mpr (.inl e)
    ·exact List.mem_cons_of_mem _ (i2 g e)
theorem Jm0 (f : Str) (v : V) : ∀ fs : List (Str × V), (putF f v fs).length <= fs.length + 1
 | [] => by simp [putF]
 | (k, x) :: r => by
  have ih := Jm0 f v r
  rw [show putF f v ((k, x) :: r) = (if k = f then (k, v) :: r else (k, x) :: putF f v r) from rfl]
  by_cases hk : k = f
  ·rw [if_pos hk, List.length_cons, List.length_cons]; omega
  ·rw [if_neg hk, List.length_cons, List.length_cons]; omega
theorem RelO.some_of {v : V} {o : Option Value} (r : RelO (some v) o) : ∃ u, o = some u /\ RelV v u := by
 cases o with
 | none => exact Zf r
 | some u => exact ⟨u, rfl, r⟩
theorem RelO.none_of {o : Option Value} (r : RelO none o) : o = none := by
 cases o with
 | none => rfl
 | some u => exact Zf r
theorem Jxb {v : V} {u : Value} (r : RelV v u) : W.handedIn u = true := by
 cases v with
 | non => cases (show u = Value.none from r); rfl
 | bl b => cases (show u = Value.bool b from r); rfl
 | int i => obtain ⟨t, e⟩ := (show ∃ t, u = Value.int i t from r); cases e; rfl
 | str x => obtain ⟨t, e⟩ := (show ∃ t, u = Value.str x t from r); cases e; rfl
 | byt b => obtain ⟨t, e⟩ := (show ∃ t, u = Value.bytes b t from r); cases e; rfl
 | flt b => obtain ⟨t, e⟩ := (show ∃ t, u = Value.float b t from r); cases e; rfl
 | ref a => cases (show u = Value.ref a from r); rfl
 | ty n => cases (show u = Value.type n from r); rfl
section
variable {P : Program} {w : World} {H H' : Hp} {h h' : Heap} {a C dx : Addr} {fs fs' : List (Str × V)}
theorem Jpv (hok : HOk P w H h) (e : H a = some (.ins C dx fs)) : ∃ mA, ObjM h a dx C mA /\ (∀ f, RelO (fs.lookup f) (mA f)) /\ PySem.Within mA (fs.map (·.1)) /\ fs.length <= 1000 /\ H dx = some (.own a) := by
 obtain ⟨d, z, ne, ob, mA, n, r, q⟩ := (show Jb5 P w H h a (.ins C dx fs) from hok a _ e)
 exact ⟨mA, ⟨ob, n, ne⟩, r, q, z, d⟩
end
structure Cls (K : W.Frag) (C : Addr) : Prop where
 pg : W.plainGet K C Str.empty = true
 hd : W.hasDictIn K C = true
 po : W.plainOver K C = true
 sa : W.findIn K (.ref C) "__setattr__" = some (some (.builtin "object.__setattr__"))
theorem Cls.get {K : W.Frag} {C : Addr} (c : Cls K C) (f : Str) : W.plainGet K C f = true := c.pg
noncomputable def Jc8 (K : W.Frag) (C : Addr) (f : Str) : Prop := W.findIn K (.ref C) f = some none
theorem Jc8.taker {K : W.Frag} {C : Addr} {f : Str} (n : Jc8 K C f) : W.takerIn K C f = some none := by
 unfold W.takerIn
 rw [show W.findIn K (.ref C) f = some none from n]
 rfl
structure Con (K : W.Frag) (C : Addr) (f : Str) (v : V) (u : Value) : Prop where
 at_ : W.findIn K (.ref C) f = some (some u)
 rel : RelV v u
 get : W.specialIn K u "__get__" = some none
 cp : W.copiedNames.contains f = false
structure Meth (K : W.Frag) (C : Addr) (m : Str) (f : Addr) : Prop where
 at_ : W.findIn K (.ref C) m = some (some (.ref f))
 fn : W.isFn K (.ref f) = true
 kp : W.keepIn K (.ref f) = true
section
variable {X : Cx} {pins : List (Addr × Obj)} {σ : St} {H : Hp} {s : Shared} {a C dx : Addr} {fs : List (Str × V)} {f : Str} {v : V} {A : Around} {E : Value -> Shared -> Prop}
theorem Jt8 {b : Bool} {Q : Value -> Shared -> Prop} (I : Inv X pins σ H s) (e : H a = some (.ins C dx fs)) (c : Cls X.K C) (n : Jc8 X.K C f) (l : fs.lookup f = some v)
  (h : ∀ u s', Inv X pins σ H s' -> RelV v u -> Q u s') : wpAny (model X.prog X.w) A (getAttr (.ref a) f b) Q E s := by
 obtain ⟨mA, O, r, _, _, _⟩ := Jpv I.hok e
 obtain ⟨u, hu, ru⟩ := RelO.some_of (v := v) (o := mA f) (by rw [<- l]; exact r f)
 exact J1r I.kIn O (c.get f) c.hd n hu (Jxb ru) (h u _ (I.tok _) ru)
theorem Jod {m : Str} {g : Addr} {pl : Sem Bool} {Q : Value × List Value -> Shared -> Prop} (I : Inv X pins σ H s) (e : H a = some (.ins C dx fs)) (c : Cls X.K C) (k : Meth X.K C m g) (l : fs.lookup m = none)
  (h : Q (.ref g, [.ref a]) s) : wpAny (model X.prog X.w) A (getMethod (.ref a) m pl) Q E s := by
 obtain ⟨mA, O, r, _, _, _⟩ := Jpv I.hok e
 have hn : mA m = none := RelO.none_of (by rw [<- l]; exact r m)
 exact Jx2 I.kIn O (c.get m) k.at_ k.fn hn h
theorem Jus {y : V} {u : Value} {Q : Unit -> Shared -> Prop} (I : Inv X pins σ H s) (e : H a = some (.ins C dx fs)) (c : Cls X.K C) (n : Jc8 X.K C f) (hl : fs.length < 1000) (ry : RelV y u)
  (h : ∀ s', Inv X pins σ (upd H a (.ins C dx (putF f y fs))) s' -> Q () s') : wpAny (model X.prog X.w) A (setAttr (.ref a) f u) Q E s := by
 obtain ⟨mA, O, r, wi, _, ho⟩ := Jpv I.hok e
 have hz : (fs.map (·.1)).length <= sizeLine := by rw [List.length_map, sizeLine_eq]; omega
 refine J1u I.kIn O c.sa c.po n.taker c.hd wi hz λ h' O' sb => h _ ?_
 have hd : ∃ o, h'.get? dx = some o := let ⟨o, _, _, e', _⟩ := O'.ns; ⟨o, e'⟩
 refine I.write (x := a) (e := dx) (by rw [e]; exact True.intro) (.inr ho) (λ b q hb z => (sb.2 b hb).trans z) hd ?_
 refine ⟨by rw [Jg O.ne]; exact ho, ?_, O.ne, O'.obj, _, O'.ns, λ g => ?_, λ g hg => ?_⟩
 ·have := Jm0 f y fs; omega
 ·show RelO ((putF f y fs).lookup g) (if g = f then some u else mA g)
  rw [Jmd]
  by_cases q : g = f
  ·rw [if_pos q, if_pos q]; exact ry
  ·rw [if_neg q, if_neg q]; exact r g
 ·by_cases q : g = f
  ·rw [q]; exact (Jm7 f y fs).1
  ·refine (Jm7 f y fs).2 g (wi g λ z => hg ?_)
   show (if g = f then some u else mA g) = none
   rw [if_neg q]; exact z
theorem Inv.made (I : Inv X pins σ H s) : Inv X pins σ (upd (upd H s.heap.objs.size (.own (s.heap.objs.size + 1))) (s.heap.objs.size + 1) (.ins C s.heap.objs.size []))
  { s with heap := (s.heap.push W.emptyDict).push (W.instObj C s.heap.objs.size) } := by
 have e1 : (s.heap.push W.emptyDict).get? s.heap.objs.size = some W.emptyDict := Heap.get?_push_size s.heap rfl
 have e2 : ((s.heap.push W.emptyDict).push (W.instObj C s.heap.objs.size)).get? (s.heap.objs.size + 1) = some (W.instObj C s.heap.objs.size) := by
  have := Heap.get?_push_size (s.heap.push W.emptyDict) (o := W.instObj C s.heap.objs.size) rfl
  rwa [Heap.size_push] at this
 have e3 : (s.heap.push W.emptyDict).Ns s.heap.objs.size (λ _ => none) := ⟨W.emptyDict, #[], _, e1, rfl, (λ e he => absurd he (by simp)), λ _ => rfl⟩
 have I1 := I.laid (a := s.heap.objs.size) (o := .own (s.heap.objs.size + 1)) (h' := s.heap.push W.emptyDict) (t' := s.toks) (λ b u q => Heap.get?_push_of_some _ q) (Nat.le_refl _) ⟨_, e1⟩
 refine I1.laid (a := s.heap.objs.size + 1) (o := .ins C s.heap.objs.size []) (t' := s.toks) (λ b u q => Heap.get?_push_of_some _ q) (Nat.le_of_eq (Heap.size_push _ _)) ?_
 have ne : s.heap.objs.size ≠ s.heap.objs.size + 1 := Nat.ne_of_lt (Nat.lt_succ_self _)
 refine ⟨by rw [Jg ne, Jf], Nat.zero_le _, ne, e2, λ _ => none, (Heap.Ns1.of_empty e3).at λ o q => Heap.get?_push_of_some _ q, λ _ => True.intro, λ y hy => absurd rfl hy⟩
theorem J13 {prog : Program} {w : World} {env : Env} {e : Expr} {f : Str} {pos : Pos} {s : Shared} {Q : Value -> Shared -> Prop} (hb : attributeBase e f env (eval e env) = eval e env)
  (h : wpAny (model prog w) A (eval e env) (λ o s₁ => wpAny (model prog w) A (getAttr o f true) Q E s₁) E s) : wpAny (model prog w) A (eval (.Attribute e f pos) env) Q E s :=
 Attribute_any_ h (by rw [arm_eval_Attribute, hb])
end
section
variable {X : Cx} {o e value : Expr} {f : Str} {pos pos' tpos : Pos} {ta tv : TE}
end
section
variable {X : Cx} {pins : List (Addr × Obj)} {σ : St} {H : Hp} {s : Shared} {A : Around} {E : Value -> Shared -> Prop} {Q : Value -> Shared -> Prop} {c : Value} {b : Bool}
inductive TyOf (K : W.Frag) (H : Hp) : V -> Value -> Prop where
 | non : TyOf K H .non (.type "NoneType")
 | bl (x : Bool) : TyOf K H (.bl x) (.type "bool")
 | int (i : Int) : TyOf K H (.int i) (.type "int")
 | str (x : Str) : TyOf K H (.str x) (.type "str")
 | flt (x : UInt64) : TyOf K H (.flt x) (.type "float")
 | lst {a : Addr} {xs : List V} (e : H a = some (.lst xs)) : TyOf K H (.ref a) (.type "list")
 | frz {a : Addr} {o : Obj} {xs : List V} (e : H a = some (.frz o (.lst xs))) : TyOf K H (.ref a) (.type "list")
 | tup {a : Addr} {xs : List V} (e : H a = some (.tup xs)) : TyOf K H (.ref a) (.type "tuple")
 | dK {a : Addr} {kvs : List (Key × V)} (e : H a = some (.dK kvs)) : TyOf K H (.ref a) (.type "dict")
 | dT {a : Addr} {kvs : List (List Key × V)} (e : H a = some (.dT kvs)) : TyOf K H (.ref a) (.type "dict")
 | ins {a C dx : Addr} {fs : List (Str × V)} (e : H a = some (.ins C dx fs)) (cl : Cls K C) (ha : W.findIn K (.ref C) "__class__" = some (some (.builtin "object.__class__")))
   (hn : W.specialIn K (.builtin "object.__class__") "__get__" = some (some (.builtin "getset_descriptor.__get__"))) (htk : W.takesIn K (.builtin "object.__class__") = some true)
   (hm : W.mroIn K C (.type "object") = some true) : TyOf K H (.ref a) (.ref C)
end
end L2
namespace L2
open PySem PySem.Spec PyProof.Rows
structure Room (k : Nat) (A : Around) : Prop where
 hd : A.handled = none
 dp : A.depth + 3 * k + 5 < recursionLimit
 un : A.units + 16 * k + 200 < cLine
theorem Room.mono {j k : Nat} {A : Around} (r : Room k A) (h : j <= k) : Room j A := ⟨r.hd, by have := r.dp; omega, by have := r.un; omega⟩
theorem Room.deeper {k : Nat} {A : Around} (r : Room (k + 1) A) (env : Env) : Room k (A.deeper env) :=
 ⟨r.hd, by have := r.dp; show A.depth + 1 + 3 * k + 5 < _; omega, by have := r.un; show A.units + 3 + 16 * k + 200 < _; omega⟩
theorem Room.in1 {k : Nat} {A : Around} (r : Room (k + 1) A) : Room k A.in1 :=
 ⟨r.hd, by have := r.dp; show A.depth + 3 * k + 5 < _; omega, by have := r.un; show A.units + 1 + 16 * k + 200 < _; omega⟩
theorem Ju2 {A : Around} {C : Addr} {us : List Value} {kw : List (Str × Value)} : (A.under (.builtin "type.__call__" ⟨.ref C :: us, kw⟩)).depth = A.depth + 1 := by
 first | rfl | simp [Around.under, Code.weight, Code.isCreation, Code.isGuard, Code.isCaller, Code.frames, Code.isFrame, guardIds]
theorem Juh {A : Around} {C : Addr} {us : List Value} {kw : List (Str × Value)} : (A.under (.builtin "type.__call__" ⟨.ref C :: us, kw⟩)).units = A.units + 1 := by
 first | rfl | simp [Around.under, Code.cUnits, Code.frames, Code.isFrame]
theorem Room.make {k : Nat} {A : Around} (r : Room (k + 1) A) (C : Addr) (us : List Value) (kw : List (Str × Value)) : Room k (A.under (.builtin "type.__call__" ⟨.ref C :: us, kw⟩)) :=
 ⟨r.hd, by have := r.dp; rw [Ju2]; omega, by have := r.un; rw [Juh]; omega⟩
theorem Room.depth {k : Nat} {A : Around} (r : Room k A) : A.depth < recursionLimit := by have := r.dp; omega
theorem Room.units {k : Nat} {A : Around} (r : Room k A) : A.units + 64 < cLine := by have := r.un; omega
section
variable {X : Cx} {e : Expr} {es : List Expr} {te : TE} {t : TA} {pos : Pos}
end
noncomputable abbrev Sp := List V -> Hp -> VK -> XK -> Prop
noncomputable abbrev CXT := List Env -> Hp -> Shared -> XK -> Value -> Shared -> Prop
structure Env0 (P : Program) (w : World) (K : W.Frag) (mg : Str -> Option Value) (base : Heap) (A : Around) (outer : List Env) (s : Shared) (H : Hp) : Prop where
 frames : A.frames = some outer
 mod : Mod K mg base
 bs : ∀ b o, base.get? b = some o -> s.heap.get? b = some o /\ H b = none
 bsz : base.objs.size <= s.heap.objs.size
 funs : s.heap.FunFrames base outer
 frf : ∀ b ∈ frs outer, H b = none
 hok : HOk P w H s.heap
 bare : AllBare s.gens
noncomputable def CE (outer : List Env) (P : Program) (w : World) (H : Hp) (s : Shared) (Q : VK) (u : Value) (s' : Shared) : Prop :=
 ∃ v H', s'.os = s.os /\ AllBare s'.gens /\ Un (frs outer) [] H H' s.heap s'.heap /\ HOk P w H' s'.heap /\ RelV v u /\ Q v H'
noncomputable def CR (CX : CXT) (outer : List Env) (P : Program) (w : World) (H : Hp) (s : Shared) (Q : VK) (E : XK) (r : Result) (s' : Shared) : Prop :=
 match r with
 | .ok (.ret u) => CE outer P w H s Q u s'
 | .ok _ => False
 | .error e => CX outer H s E e s'
structure FnOk (P : Program) (w : World) (K : W.Frag) (mg : Str -> Option Value) (base : Heap) (CX : CXT) (k : Nat) (f : Addr) (fd : FuncData) (ps : List Str) (sp : Sp) : Prop where
 len : ∀ vs H Q E, sp vs H Q E -> vs.length = ps.length
 run : ∀ (A : Around) (outer : List Env) (s : Shared) (H : Hp) (args : Args) (us : List Value) (vs : List V) (Q : VK) (E : XK), Room k A -> Env0 P w K mg base A outer s H -> BindsTo s fd args (ps.zip us) -> Vals vs us -> sp vs H Q E ->
  codeAny (model P w) A (.call (.ref f) args) (CR CX outer P w H s Q E) s
theorem FnOk.mono {P : Program} {w : World} {K : W.Frag} {mg : Str -> Option Value} {base : Heap} {CX : CXT} {j k : Nat} {f : Addr} {fd : FuncData} {ps : List Str} {sp : Sp} (F : FnOk P w K mg base CX j f fd ps sp) (h : j <= k) :
  FnOk P w K mg base CX k f fd ps sp := ⟨F.len, λ A outer s H args us vs Q E hr => F.run A outer s H args us vs Q E (hr.mono h)⟩
theorem FnOk.imp {P : Program} {w : World} {K : W.Frag} {mg : Str -> Option Value} {base : Heap} {CX : CXT} {k : Nat} {f : Addr} {fd : FuncData} {ps : List Str} {sp sp' : Sp} (F : FnOk P w K mg base CX k f fd ps sp)
  (h : ∀ vs H Q E, sp' vs H Q E -> sp vs H Q E) : FnOk P w K mg base CX k f fd ps sp' :=
 ⟨λ vs H Q E q => F.len vs H Q E (h _ _ _ _ q), λ A outer s H args us vs Q E hr he hb hv hs => F.run A outer s H args us vs Q E hr he hb hv (h _ _ _ _ hs)⟩
theorem Env0.make {P : Program} {w : World} {K : W.Frag} {mg : Str -> Option Value} {base : Heap} {A : Around} {outer : List Env} {s : Shared} {H : Hp} (e : Env0 P w K mg base A outer s H) (C : Addr) (us : List Value) (kw : List (Str × Value)) :
  Env0 P w K mg base (A.under (.builtin "type.__call__" ⟨.ref C :: us, kw⟩)) outer s H := ⟨by first | exact e.frames | (simpa [Around.under, Code.envs, Code.isFrame, pushEnvs] using e.frames), e.mod, e.bs, e.bsz, e.funs, e.frf, e.hok, e.bare⟩
theorem Env0.in1 {P : Program} {w : World} {K : W.Frag} {mg : Str -> Option Value} {base : Heap} {A : Around} {outer : List Env} {s : Shared} {H : Hp} (e : Env0 P w K mg base A outer s H) :
  Env0 P w K mg base A.in1 outer s H := ⟨e.frames, e.mod, e.bs, e.bsz, e.funs, e.frf, e.hok, e.bare⟩
section
variable {X : Cx} {pins : List (Addr × Obj)} {σ : St} {H : Hp} {s s' : Shared}
theorem Inv.env0 (I : Inv X pins σ H s) : Env0 X.prog X.w X.K X.mg X.base X.A X.stack s H :=
 ⟨I.ok.frames, I.ok.mod, I.bs, Nat.le_trans I.ok.bsz I.sz, I.stack, I.stkFree, I.hok, I.bare⟩
theorem Inv.after {Q : VK} {u : Value} (I : Inv X pins σ H s) (h : CE X.stack X.prog X.w H s Q u s') : EP X pins σ Q u s' := by
 obtain ⟨v, H', os, bare, un, hok, r, q⟩ := h
 obtain ⟨hh, g, d, t, os'⟩ := s'
 obtain rfl : os' = s.os := os
 exact ⟨v, H', I.call (h' := hh) (g' := g) (d' := d) (t' := t) (ch := []) un hok bare (λ b z => absurd z (by simp)), r, q⟩
end
noncomputable def Jgr (K : W.Frag) (fd : FuncData) (ps : List Str) (ds : List Value) : Prop :=
 ∀ (s : Shared) (us : List Value), K.In s.heap -> (us ++ ds).length = ps.length -> BindsTo s fd ⟨us, []⟩ (ps.zip (us ++ ds))
theorem Jgr.all {K : W.Frag} {fd : FuncData} {ps : List Str} (h : ∀ us : List Value, us.length = ps.length -> bindArgs fd ⟨us, []⟩ = pure (ps.zip us)) : Jgr K fd ps [] := λ s us _ hl => by
 rw [List.append_nil] at hl ⊢
 exact .of_eq (h us hl)
section
variable {X : Cx} {CX : CXT} {k : Nat} {f C : Addr} {fd : FuncData} {ps : List Str} {sp : Sp} {dvs : List V} {ds : List Value} {E : XK} {x m : Str} {p pos apos : Pos} {e o : Expr} {es : List Expr} {ta : TE} {t : TA}
structure Mk (K : W.Frag) (C f : Addr) : Prop where
 makes : W.makesIn K C = true
 init : W.findIn K (.ref C) "__init__" = some (some (.ref f))
 fn : W.isFn K (.ref f) = true
 kp : W.keepIn K (.ref C) = true
end
section
variable {X : Cx} {CX : CXT} {k : Nat} {f C : Addr} {fd : FuncData} {ps ks : List Str} {sp : Sp} {E : XK} {x m : Str} {p pos apos kpos : Pos} {e o : Expr} {es : List Expr} {kws : List Keyword} {te ta : TE} {t tk : TA} {nm : Option Str}
structure KBinds (K : W.Frag) (fd : FuncData) (ps ks : List Str) (g : List Value -> List Value -> List Value) (gV : List V -> List V -> List V) : Prop where
 to : ∀ (s : Shared) (us ws : List Value), K.In s.heap -> (g us ws).length = ps.length -> BindsTo s fd ⟨us, ks.zip ws⟩ (ps.zip (g us ws))
 rel : ∀ {vs : List V} {us : List Value} {zs : List V} {ws : List Value}, Vals vs us -> Vals zs ws -> Vals (gV vs zs) (g us ws)
variable {g : List Value -> List Value -> List Value} {gV : List V -> List V -> List V}
end
structure FnScope (N P : List Str) (sc : Scope) : Prop where
 kind : sc.kind = .function
 co : sc.isCoroutine = false
 gen : sc.isGenerator = false
 nd : N.Nodup
 pre : N.take P.length = P
 par : ∀ x ∈ P, sc.names.lookup x = some .local ∨ sc.names.lookup x = some .cell
 nofree : ∀ y ∈ sc.names, y.2 ≠ .free
theorem Jp5 {kindOf : Str -> Option NameKind} {x : Str} : ∀ {binds : List (Str × Value)} {m : Str -> Option Value}, (∀ v, (x, v) ∉ binds) -> bindL kindOf binds m x = m x
 | [], _, _ => rfl
 | (n, v) :: r, m, h => by
  unfold bindL
  rw [Jp5 λ w hw => h w (List.mem_cons_of_mem _ hw)]
  split
  ·have : x ≠ n := by rintro rfl; exact h v List.mem_cons_self
   simp [this]
  ·rfl
theorem Jrb {kindOf : Str -> Option NameKind} {x : Str} : ∀ {binds : List (Str × Value)} {m : Str -> Option Value}, (∀ v, (x, v) ∉ binds) -> bindC kindOf binds m x = m x
 | [], _, _ => rfl
 | (n, v) :: r, m, h => by
  unfold bindC
  rw [Jrb λ w hw => h w (List.mem_cons_of_mem _ hw)]
  split
  ·rfl
  ·have : x ≠ n := by rintro rfl; exact h v List.mem_cons_self
   simp [this]
theorem Jqr {kindOf : Str -> Option NameKind} {x : Str} {v : Value} : ∀ {P : List Str} {vs : List Value} {i : Nat} {m : Str -> Option Value}, P.Nodup -> P[i]? = some x -> vs[i]? = some v -> kindOf x = some .local ->
  bindL kindOf (P.zip vs) m x = some v
 | [], _, _, _, _, h, _, _ => by simp at h
 | _ :: _, [], _, _, _, _, h, _ => by simp at h
 | p :: P, w :: vs, 0, m, nd, h1, h2, hk => by
  simp at h1 h2; subst h1; subst h2
  show bindL kindOf ((p, w) :: P.zip vs) m p = _
  unfold bindL
  rw [Jp5 λ v hv => (List.nodup_cons.mp nd).1 (List.of_mem_zip hv).1, if_pos hk]
  simp
 | p :: P, w :: vs, i + 1, m, nd, h1, h2, hk => by
  show bindL kindOf ((p, w) :: P.zip vs) m x = _
  unfold bindL
  exact Jqr (i := i) (List.nodup_cons.mp nd).2 (by simpa using h1) (by simpa using h2) hk
theorem Jqi {kindOf : Str -> Option NameKind} {x : Str} {v : Value} : ∀ {P : List Str} {vs : List Value} {i : Nat} {m : Str -> Option Value}, P.Nodup -> P[i]? = some x -> vs[i]? = some v -> kindOf x ≠ some .local ->
  bindC kindOf (P.zip vs) m x = some v
 | [], _, _, _, _, h, _, _ => by simp at h
 | _ :: _, [], _, _, _, _, h, _ => by simp at h
 | p :: P, w :: vs, 0, m, nd, h1, h2, hk => by
  simp at h1 h2; subst h1; subst h2
  show bindC kindOf ((p, w) :: P.zip vs) m p = _
  unfold bindC
  rw [Jrb λ v hv => (List.nodup_cons.mp nd).1 (List.of_mem_zip hv).1, if_neg hk]
  simp
 | p :: P, w :: vs, i + 1, m, nd, h1, h2, hk => by
  show bindC kindOf ((p, w) :: P.zip vs) m x = _
  unfold bindC
  exact Jqi (i := i) (List.nodup_cons.mp nd).2 (by simpa using h1) (by simpa using h2) hk
noncomputable def start (N : List Str) (vs : List V) : St := vs.map some ++ List.replicate (N.length - vs.length) none
noncomputable def cxOf (CX : CXT) (P : Program) (w : World) (K : W.Frag) (mg : Str -> Option Value) (base : Heap) (N : List Str) (qual : Str) (scope : Scope) (f : Addr) (cd : Value) (A : Around) (outer : List Env) (s : Shared) (H : Hp) (E : XK) : Cx where
 prog := P
 w := w
 K := K
 mg := mg
 base := base
 A := A.deeper (envOfC qual scope s.heap.objs.size f cd)
 N := N
 s₀ := s
 H₀ := H
 env := envOfC qual scope s.heap.objs.size f cd
 outer := outer
 stack := envOfC qual scope s.heap.objs.size f cd :: outer
 ex := []
 calm := true
 fn := λ _ => true
 pn := []
 xe := λ e s' => wpAny (model P w) (A.deeper (envOfC qual scope s.heap.objs.size f cd)) (leaving (envOfC qual scope s.heap.objs.size f cd) e) (λ _ s'' => CX outer H s E e s'') (λ e' s'' => CX outer H s E e' s'') s'
theorem Js6 {sc : Scope} {n : Nat} {x : Str} (h : sc.names.lookup x = some .cell) : ∃ c, (cellsFrom n sc.names []).lookup x = some c := by
 have q := W.cellsFrom_some sc.names n [] (.inl h)
 exact Option.isSome_iff_exists.mp q
theorem Jxy {CX : CXT} {P : Program} {w : World} {K : W.Frag} {mg : Str -> Option Value} {base : Heap} {N ps : List Str} {qual : Str} {scope : Scope} {f : Addr} {cd : Value} {A : Around} {outer : List Env} {s s1 : Shared} {H : Hp} {E : XK} {us : List Value} {vs : List V}
  (S : FnScope N ps scope) (hd : A.handled = none) (e0 : Env0 P w K mg base A outer s H) (hl : vs.length = ps.length) (r : Vals vs us)
  (x : InCallC s s.heap.objs.size (bindL (envOfC qual scope s.heap.objs.size f cd).kindOf (ps.zip us) λ _ => none) (cellsFrom (s.heap.objs.size + 1) scope.names []) (bindC (envOfC qual scope s.heap.objs.size f cd).kindOf (ps.zip us) λ _ => none) s1) :
  Inv (cxOf CX P w K mg base N qual scope f cd A outer s H E) [] (start N vs) H s1 := by
 have hpl : ps.length <= N.length := by have := congrArg List.length S.pre; rw [List.length_take] at this; omega
 obtain ⟨h1, tk, rfl, hk⟩ := x.done
 have noA : ∀ b : Addr, b ∉ (cxOf CX P w K mg base N qual scope f cd A outer s H E).ex := λ b z => absurd (show b ∈ ([] : List Addr) from z) (by simp)
 refine ⟨⟨e0.mod, S.kind, rfl, rfl, Nat.le_refl _, λ y z c h1 h2 => ?_, λ y hy => ?_, λ y c _ h => ?_, λ _ => hd, Around.frames_deeper e0.frames, .inr ⟨rfl, rfl⟩, λ b z => absurd z (noA b), e0.bs, e0.bsz, λ b _ _ => noA b, λ b z => absurd z (noA b), e0.funs, e0.frf⟩,
  rfl, e0.bare, Un.kept hk, ⟨_, x.toInCall.ns, λ i y v h1 h2 h3 => ?_⟩, λ y c h => ⟨_, x.cell y c h⟩, e0.hok.fresh (Nat.le_refl _), λ y c h => ?_, λ p hp => absurd (show p ∈ ([] : List (Addr × Obj)) from hp) (by simp), e0.hok.kept hk, ?_⟩
 ·exact name_of_addr x.apart (PySem.mem_of_lookup h1) (PySem.mem_of_lookup h2)
 ·have hy : scope.names.lookup y = some .cell ∨ scope.names.lookup y = some .free := hy
  rcases hy with hy | hy
  ·exact Js6 hy
  ·exact absurd rfl (S.nofree _ (PySem.mem_of_lookup hy))
 ·exact Nat.le_of_lt (x.above y c (PySem.mem_of_lookup h))
 ·have hi : i < vs.length := by
   unfold start at h2
   by_cases hi : i < vs.length
   ·exact hi
   ·rw [List.getElem?_append_right (by simpa using hi)] at h2
    rw [List.getElem?_replicate] at h2
    split at h2 <;> cases h2
  have ha : vs[i]? = some v := by
   unfold start at h2
   rw [List.getElem?_append_left (by simpa using hi), List.getElem?_map] at h2
   cases e : vs[i]? with
   | none => rw [e] at h2; cases h2
   | some a => rw [e] at h2; cases h2; rfl
  obtain ⟨u, hu, rv⟩ := r.get ha
  have hp : ps[i]? = some y := by
   rw [<- S.pre, List.getElem?_take_of_lt (by omega)]; exact h1
  have ndP : ps.Nodup := by rw [<- S.pre]; exact S.nd.sublist (List.take_sublist _ _)
  refine ⟨u, rv, ?_⟩
  rcases S.par y (List.mem_of_getElem? hp) with k | k
  ·exact .inl ⟨k, Jqr ndP hp hu k⟩
  ·obtain ⟨c, e⟩ := Js6 (n := s.heap.objs.size + 1) k
   refine .inr ⟨.inl k, c, e, ?_⟩
   have q := x.cell y c e
   rw [Jqi ndP hp hu (by show scope.names.lookup y ≠ _; rw [k]; decide)] at q
   exact q
 ·exact e0.hok.fresh (Nat.le_of_lt (x.above y c (PySem.mem_of_lookup h)))
 ·unfold start
  show _ = N.length
  rw [List.length_append, List.length_map, List.length_replicate]
  omega
theorem J4f {CX : CXT} {P : Program} {w : World} {K : W.Frag} {mg : Str -> Option Value} {base : Heap} {k : Nat} {f : Addr} {name qual : Str} {params : Arguments} {body : List Stmt} {scope : Scope} {dV kV doc pm cdv ct oc : Value} {an od : Option Addr}
  {osl : Array (Option Value)} {N ps : List Str} {sp : Sp} (lk : K.lookup f = some ⟨oc, od, .func (W.fnOf name qual params body scope dV kV doc pm an cdv ct), osl⟩) (hcd : W.codeIn K cdv qual = true) (S : FnScope N ps scope)
  (len : ∀ vs H Q E, sp vs H Q E -> vs.length = ps.length)
  (hbody : ∀ (A : Around) (outer : List Env) (s : Shared) (H : Hp) (vs : List V) (Q : VK) (E : XK), Room k (A.deeper (envOfC qual scope s.heap.objs.size f cdv)) -> sp vs H Q E ->
   ∃ t, PSs (cxOf CX P w K mg base N qual scope f cdv A outer s H E) body t /\ t { nx := λ _ H' => Q .non H', rt := Q } (start N vs) H) :
  FnOk P w K mg base CX (k + 1) f (W.fnOf name qual params body scope dV kV doc pm an cdv ct) ps sp := by
 refine ⟨len, λ A outer s H args us vs Q E hr e0 hb r hsp => ?_⟩
 have hl := len _ _ _ _ hsp
 have KX : K.In s.heap := e0.mod.kin.keeps λ b o e => (e0.bs b o e).1
 have lim : s.heap.NoLimit := e0.mod.nolimit.keeps λ b o e => (e0.bs b o e).1
 have hkind : ∀ y ∈ ps.zip us, scope.names.lookup y.1 = some .local ∨ (scope.names.lookup y.1 = some .cell /\ ((cellsFrom (s.heap.objs.size + 1) scope.names []).lookup y.1).isSome = true) := λ ⟨n, v⟩ hy => by
  rcases S.par n (List.of_mem_zip hy).1 with q | q
  ·exact .inl q
  ·exact .inr ⟨q, W.cellsFrom_some _ _ _ (.inl q)⟩
 refine codeAny_call_function hr.depth (KX _ _ lk) rfl S.co S.gen rfl (W.codeRec_of KX hcd) (hb _ _ _ _ ?_)
 refine wpAny_newFunctionEnv_cells S.kind hkind λ env he s1 x => ?_
 subst he
 refine ⟨lim.keeps x.toInCall.keep, codeAny_func ?_⟩
 obtain ⟨t, ht, hq⟩ := hbody A outer s H vs Q E (hr.deeper _) hsp
 have I : Inv (cxOf CX P w K mg base N qual scope f cdv A outer s H E) [] (start N vs) H s1 := Jxy S hr.hd e0 hl r x
 refine wpAny_mono (ht [] s1 (start N vs) H _ I hq) (λ fl s' hs => ?_) λ e s' hs => hs
 have fin : ∀ {σ' : St} {H' : Hp} {v : V} {u : Value}, Inv (cxOf CX P w K mg base N qual scope f cdv A outer s H E) [] σ' H' s' -> RelV v u -> Q v H' -> CE outer P w H s Q u s' :=
  λ {σ' H' v u} J rv q => ⟨v, H', J.os, J.bare, J.base, J.hok, rv, q⟩
 cases fl with
 | ret u =>
  obtain ⟨v, σ', H', J, rv, q⟩ := hs
  exact fin J rv q
 | next =>
  obtain ⟨σ', H', J, q⟩ := hs
  exact fin (v := V.non) (u := Value.none) J rfl q
 | brk =>
  obtain ⟨_, _, _, q⟩ := hs
  exact False.elim q
 | cont =>
  obtain ⟨_, _, _, q⟩ := hs
  exact False.elim q
end L2
namespace L2
open PySem PySem.Spec PyProof.Rows
section
variable {X : Cx} {x : Str} {p pos : Pos} {e : Expr} {es : List Expr} {t : TA} {id T : String} {r : List V -> Hp -> VK -> Prop}
end
end L2
namespace HT
open PySem PyProof.Rows
section
open PySem.SeqAt
open PySem.AutoSeq1 (wpAny_loadPart')
open PySem.MeetsSeq PySem.MeetsSeq2 PySem.MeetsSeq3
end
section
variable {prog : Program} {w : World} {A : Around} {E : Value -> Shared -> Prop} {s : Shared}
theorem cat_tup {t b : Addr} {vs ws : List Value} {Q : Value -> Shared -> Prop} (ht : IsTup s.heap t vs.toArray) (hb : IsTup s.heap b ws.toArray) (hv : vs ≠ [])
  (h1 : ws = [] -> Q (.ref t) s) (h2 : ws ≠ [] -> Q (.ref s.heap.objs.size) { s with heap := s.heap.push { cls := .type "tuple", data := .seq (vs ++ ws).toArray } })
  (hsz : vs.length + ws.length <= sizeLine) : wpAny (model prog w) A (binaryOp .Add (.ref t) (.ref b)) Q E s := by
 obtain ⟨⟨cls, dd, data, sl⟩, ho, hc, n, hd⟩ := id ht
 obtain ⟨⟨cls2, dd2, data2, sl2⟩, ho2, hc2, n2, hd2⟩ := id hb
 simp only at hc hd hc2 hd2
 subst hc hd hc2 hd2
 have e : vs.toArray ++ ws.toArray = (vs ++ ws).toArray := by simp
 by_cases hw : ws = []
 ·exact concat_meets ⟨_, ho, rfl⟩ ⟨_, ho2, rfl⟩ noFill_tuple_add seq_tuple_add PySem.F.slot_tuple_add PySem.F.entry_tuple_add (PySem.F.args_tuple_add_2 _ _)
   (tuple_addW1 t b vs.toArray ws.toArray n n2 dd dd2 sl sl2 (by simpa using hv) (by simp [hw])) ⟨ho, ho2, h1 hw⟩
 ·refine concat_meets ⟨_, ho, rfl⟩ ⟨_, ho2, rfl⟩ noFill_tuple_add seq_tuple_add PySem.F.slot_tuple_add PySem.F.entry_tuple_add (PySem.F.args_tuple_add_2 _ _)
   (tuple_addW2 t b vs.toArray ws.toArray n n2 dd dd2 sl sl2 (by simpa using hv) (by simpa using hw) (by rw [List.size_toArray, List.size_toArray]; exact hsz)) ⟨ho, ho2, ?_⟩
  rw [e]
  exact h2 hw
noncomputable def sIx (n d : Nat) : Option Int -> Nat
 | none => d
 | some v => if v < 0 then (v + (n : Int)).toNat else min v.toNat n
theorem sIx_none (n d : Nat) : sIx n d none = d := rfl
theorem sIx_nat (n d k : Nat) : sIx n d (some (k : Int)) = min k n := by
 show (if (k : Int) < 0 then ((k : Int) + (n : Int)).toNat else min (k : Int).toNat n) = min k n
 rw [if_neg (by omega), Int.toNat_natCast]
theorem J5c (n d : Nat) (hd : d <= n) (o : Option Int) : sIx n d o <= n := by
 cases o with
 | none => exact hd
 | some v =>
  show (if v < 0 then (v + (n : Int)).toNat else min v.toNat n) <= n
  by_cases hv : v < 0
  ·rw [if_pos hv]; omega
  ·rw [if_neg hv]; exact Nat.min_le_right _ _
theorem Jvc (v : Int) (n d : Nat) : (if v < 0 then max (v + (n : Int)) 0 else min v (n : Int)) = ((sIx n d (some v) : Nat) : Int) := by
 show (if v < 0 then max (v + (n : Int)) 0 else min v (n : Int)) = (((if v < 0 then (v + (n : Int)).toNat else min v.toNat n) : Nat) : Int)
 by_cases hv : v < 0
 ·simp only [if_pos hv]; omega
 ·simp only [if_neg hv]; omega
theorem Juv (lo hi : Option Int) (n : Nat) : Builtin.Slice.sliceAdjust lo hi 1 (n : Int) = (((sIx n 0 lo : Nat) : Int), ((sIx n n hi : Nat) : Int)) := by
 have h1 : ¬ ((1 : Int) < 0) := by omega
 unfold Builtin.Slice.sliceAdjust
 simp only [h1, if_false]
 refine Prod.ext ?_ ?_
 ·cases lo with
  | none => rfl
  | some v => exact Jvc v n 0
 ·cases hi with
  | none => rfl
  | some v => exact Jvc v n n
theorem Juz (i j : Nat) : Builtin.Slice.slicePlaces (i : Int) (j : Int) 1 = j - i := by
 unfold Builtin.Slice.slicePlaces
 have h1 : (1 : Int) > 0 := by omega
 simp only [h1, if_true, Int.ediv_one]
 split <;> omega
theorem Joh {v : Value} {o : Option Int} {Q : Option Int -> Shared -> Prop} (p : IsPart v o) (h : Q o s) : wpAny (model prog w) A (Builtin.Slice.slicePartIndex v) Q E s := by
 cases p with
 | none => exact slicePart_none h
 | int i t => exact slicePart_int h
theorem Jll {sl : Addr} {vl vu : Value} {lo hi : Option Int} {n : Nat} {Q : Int × Int × Nat -> Shared -> Prop} (hs : s.heap.IsSliceOf sl vl vu .none) (pl : IsPart vl lo) (pu : IsPart vu hi)
  (h : Q (((sIx n 0 lo : Nat) : Int), 1, sIx n n hi - sIx n 0 lo) s) : wpAny (model prog w) A (Builtin.Slice.sliceApplied (.ref sl) (pure (n : Int))) Q E s := by
 obtain ⟨os, hos, hcs, hds⟩ := id hs
 unfold Builtin.Slice.sliceApplied Builtin.Slice.sliceFields
 refine wpAny_bind (wpAny_bind (wpAny_field hos hds (x := vl) rfl (wpAny_bind (wpAny_field hos hds (x := vu) rfl (wpAny_bind (wpAny_field hos hds (x := .none) rfl (wpAny_pure ?_)))))))
 refine wpAny_bind (slicePart_none ?_)
 show wpAny _ _ (if ((1 : Int) == 0) = true then _ else _) _ _ s
 rw [if_neg (by decide)]
 refine wpAny_bind (Joh pl (wpAny_bind (Joh pu (wpAny_bind (wpAny_pure ?_)))))
 show wpAny _ _ (match Builtin.Slice.sliceAdjust lo hi 1 (n : Int) with | (lo, hi) => pure (lo, (1 : Int), Builtin.Slice.slicePlaces lo hi 1)) _ _ s
 rw [Juv lo hi n]
 show wpAny _ _ (pure (((sIx n 0 lo : Nat) : Int), (1 : Int), Builtin.Slice.slicePlaces ((sIx n 0 lo : Nat) : Int) ((sIx n n hi : Nat) : Int) 1)) _ _ s
 rw [Juz]
 exact wpAny_pure h
theorem Jyv (xs : Array Value) (i k : Nat) : ((List.range k).filterMap λ (m : Nat) => xs[((i : Int) + (m : Int) * 1).toNat]?).toArray = ((xs.toList.drop i).take k).toArray := by
 have e : (λ (m : Nat) => xs[((i : Int) + (m : Int) * 1).toNat]?) = λ m => xs[i + m]? := by
  funext m
  have : ((i : Int) + (m : Int) * 1).toNat = i + m := by omega
  rw [this]
 rw [e]
 have := pick_run xs i k
 rw [List.filterMap_map] at this
 have e2 : ((λ x => xs[x]?) ∘ λ x => i + x) = λ m => xs[i + m]? := rfl
 rw [e2] at this
 rw [this]
theorem getItem_tuple_cut {t sl : Addr} {items : Array Value} {vl vu : Value} {lo hi : Option Int} {Q : Value -> Shared -> Prop} (ht : IsTup s.heap t items) (hs : s.heap.IsSliceOf sl vl vu .none) (pl : IsPart vl lo) (pu : IsPart vu hi)
  (hw : ¬ (sIx items.size 0 lo = 0 /\ sIx items.size items.size hi = items.size))
  (h : Q (.ref s.heap.objs.size) { s with heap := s.heap.push { cls := .type "tuple", data := .seq ((items.toList.drop (sIx items.size 0 lo)).take (sIx items.size items.size hi - sIx items.size 0 lo)).toArray } })
  (hsz : items.size <= sizeLine) : wpAny (model prog w) A (getItem (.ref t) (.ref sl)) Q E s := by
 have htake : sizeOk (.seq ((items.toList.drop (sIx items.size 0 lo)).take (sIx items.size items.size hi - sIx items.size 0 lo)).toArray) := by
  show ((items.toList.drop (sIx items.size 0 lo)).take (sIx items.size items.size hi - sIx items.size 0 lo)).toArray.size <= sizeLine
  rw [List.size_toArray, List.length_take, List.length_drop, Array.length_toList]
  omega
 have hj : sIx items.size items.size hi <= items.size := J5c _ _ (Nat.le_refl _) hi
 obtain ⟨os, hos, hcs, hds⟩ := id hs
 have hTs : s.TypeIs (.ref sl) "slice" := ⟨os, hos, hcs⟩
 unfold getItem
 try with_reducible refine wpAny_holding ?_
 first | refine wpAny_bind (wpAny_pure ?_) | skip
 refine wpAny_bind (wpAny_sequenceKey ht.typeIs (by decide) ?_)
 refine wpAny_bind (wpAny_callSpecial?_slot (name := Str.ofString "__getitem__") ht.typeIs PyProof.Rows.slot_tuple_getitem
  (wpAny_call_entry PyProof.Rows.slot_tuple_getitem ht.typeIs entry_tuple_getitem ?_ (args_tuple_getitem _ _)))
 show wpAny _ _ (Builtin.Tuple.tupleItemsOf (.ref t) >>= _) _ _ s
 refine wpAny_bind (tupleItemsOf_ ht ?_)
 refine wpAny_bind (wpAny_typeOf hTs ?_)
 rw [if_pos (by decide)]
 refine wpAny_bind (Jll hs pl pu ?_)
 have hno : ¬ ((((sIx items.size 0 lo : Nat) : Int) == 0 && (1 : Int) == 1 && (sIx items.size items.size hi - sIx items.size 0 lo) == items.size) = true) := by
  intro q
  rw [Bool.and_eq_true, Bool.and_eq_true] at q
  have q1 : ((sIx items.size 0 lo : Nat) : Int) = 0 := eq_of_beq q.1.1
  have q2 : sIx items.size items.size hi - sIx items.size 0 lo = items.size := eq_of_beq q.2
  exact hw ⟨by omega, by omega⟩
 show wpAny _ _ (if (((sIx items.size 0 lo : Nat) : Int) == 0 && (1 : Int) == 1 && (sIx items.size items.size hi - sIx items.size 0 lo) == items.size) = true then _ else _) _ _ s
 rw [if_neg hno, Jyv]
 first
  | exact wpAny_bind (m := Builtin.Tuple.tupleExact _) (wpAny_newObj_type (wpAny_pure ⟨_, rfl, wpAny_pure h⟩) htake)
  | exact wpAny_bind (m := Builtin.Tuple.tupleExact _) (wpAny_newObj_type (wpAny_bind (wpAny_pure (wpAny_pure ⟨_, rfl, wpAny_pure h⟩))) htake)
  | exact wpAny_bind (wpAny_bind (m := Builtin.Tuple.tupleExact _) (wpAny_newObj_type (wpAny_pure (wpAny_pure ⟨_, rfl, wpAny_pure h⟩)) htake))
  | exact wpAny_bind (wpAny_bind (m := Builtin.Tuple.tupleExact _) (wpAny_newObj_type (wpAny_pure ⟨_, rfl, wpAny_pure h⟩) htake))
end
end HT
namespace L2
open PySem PySem.Spec PyProof.Rows
noncomputable abbrev TO := St -> Hp -> (Option Int -> Hp -> Prop) -> Prop
section
variable {X : Cx} {e : Expr} {te : TE} {lo hi : Option Expr} {tl th : TO} {pos p2 : Pos}
noncomputable def SlR (X : Cx) (r : V -> Option Int -> Option Int -> Hp -> VK -> Prop) : Prop :=
 ∀ (pins : List (Addr × Obj)) (s : Shared) (σ : St) (H : Hp) (x : V) (v vl vu : Value) (lo hi : Option Int) (sl : Addr) (Q : VK), Inv X pins σ H s -> RelV x v -> s.heap.IsSliceOf sl vl vu .none -> IsPart vl lo -> IsPart vu hi -> r x lo hi H Q ->
  ∃ T id, typeLookup (.type T) "__getitem__" = pure (some (.builtin id)) /\ s.TypeIs v T /\ wpAny (model X.prog X.w) X.A (getItem v (.ref sl)) (EP X pins σ Q) X.xe s
noncomputable def cutV (xs : List V) (lo hi : Option Int) : List V := (xs.drop (HT.sIx xs.length 0 lo)).take (HT.sIx xs.length xs.length hi - HT.sIx xs.length 0 lo)
theorem Jm5 (xs : List V) (lo hi : Option Int) : (cutV xs lo hi).length <= xs.length := by
 unfold cutV
 rw [List.length_take, List.length_drop]
 omega
noncomputable def rSlT (K : W.Frag) : V -> Option Int -> Option Int -> Hp -> VK -> Prop := λ x lo hi H Q => ∃ a xs, x = .ref a /\ SqT K H a xs /\
 ¬ (HT.sIx xs.length 0 lo = 0 /\ HT.sIx xs.length xs.length hi = xs.length) /\ ∀ p, H p = none -> Q (.ref p) (upd H p (.tup (cutV xs lo hi)))
theorem J3t : SlR X (rSlT X.K) := by
 intro pins s σ H x v vl vu lo hi sl Q I rx hs pl pu h
 obtain ⟨a, xs, rfl, hx, hw, q⟩ := h
 cases rx
 obtain ⟨its, r, ht, hz⟩ := I.tuple hx
 have hlen : its.toArray.size = xs.length := by rw [List.size_toArray]; exact r.length.symm
 refine ⟨"tuple", _, PyProof.Rows.slot_tuple_getitem.lookup, ht.typeIs, ?_⟩
 refine HT.getItem_tuple_cut ht hs pl pu (by rw [hlen]; exact hw) ?_ (by rw [hlen]; exact hz)
 rw [hlen]
 refine ⟨.ref s.heap.objs.size, _, I.laid (t' := s.toks) (o := .tup (cutV xs lo hi)) (λ b ob q => Heap.get?_push_of_some _ q) (Nat.le_refl _) ?_, rfl, q _ (I.hok.fresh (Nat.le_refl _))⟩
 exact ⟨Nat.le_trans (Jm5 xs lo hi) hz, _, (r.drop (HT.sIx xs.length 0 lo)).take (HT.sIx xs.length xs.length hi - HT.sIx xs.length 0 lo), IsTup.new _ _⟩
noncomputable def rCatT (K : W.Frag) : R2 := λ x y H Q => ∃ a b xs ys, x = .ref a /\ y = .ref b /\ SqT K H a xs /\ SqT K H b ys /\ xs ≠ [] /\ xs.length + ys.length <= sizeLine /\
 (ys = [] -> Q (.ref a) H) /\ (ys ≠ [] -> ∀ p, H p = none -> Q (.ref p) (upd H p (.tup (xs ++ ys))))
theorem Vals.nil_iff {xs : List V} {us : List Value} (r : Vals xs us) : us = [] ↔ xs = [] := by
 cases r with
 | nil => simp
 | cons _ _ => simp
theorem J1n : OpR X (binaryOp .Add) (rCatT X.K) := by
 intro pins s σ H x y v u Q I rx ry h
 obtain ⟨a, b, xs, ys, rfl, rfl, ha, hb, hx, hz, q1, q2⟩ := h
 cases rx
 cases ry
 obtain ⟨its, r1, p1, _⟩ := I.tuple ha
 obtain ⟨its2, r2, p2, _⟩ := I.tuple hb
 refine HT.cat_tup p1 p2 (λ z => hx (r1.nil_iff.mp z)) (λ z => ⟨.ref a, H, I, rfl, q1 (r2.nil_iff.mp z)⟩) (λ z => ?_) (by rw [<- r1.length, <- r2.length]; exact hz)
 refine ⟨.ref s.heap.objs.size, _, I.laid (t' := s.toks) (o := .tup (xs ++ ys)) (λ b ob q => Heap.get?_push_of_some _ q) (Nat.le_refl _) ?_, rfl, q2 (λ w => z (r2.nil_iff.mpr w)) _ (I.hok.fresh (Nat.le_refl _))⟩
 exact ⟨by rw [List.length_append]; exact hz, _, r1.append r2, IsTup.new _ _⟩
end
end L2
namespace L2
open PySem PySem.Spec PyProof.Rows
noncomputable def ixN (n : Nat) (i : Int) : Option Nat := if 0 <= i then (if i < n then some i.toNat else none) else if -(n : Int) <= i then some (i + n).toNat else none
noncomputable def atI {α : Type} (xs : List α) (i : Int) : Option α := (ixN xs.length i).bind λ j => xs[j]?
theorem Jvv {n : Nat} {i : Int} {j : Nat} (h : ixN n i = some j) : seqIndex? i n = some j /\ j < n /\ -(n : Int) <= i /\ i < n := by
 unfold ixN at h
 by_cases h0 : 0 <= i
 ·rw [if_pos h0] at h
  by_cases h1 : i < n
  ·rw [if_pos h1] at h
   have e : i.toNat = j := Option.some.inj h
   exact ⟨by rw [seqIndex_of h0 h1, e], by omega, by omega, h1⟩
  ·rw [if_neg h1] at h; cases h
 ·rw [if_neg h0] at h
  by_cases h1 : -(n : Int) <= i
  ·rw [if_pos h1] at h
   have e : (i + n).toNat = j := Option.some.inj h
   exact ⟨by rw [seqIndex_neg (by omega) h1, e], by omega, h1, by omega⟩
  ·rw [if_neg h1] at h; cases h
theorem Jsk {α : Type} {xs : List α} {i : Int} {v : α} (h : atI xs i = some v) : ∃ j, seqIndex? i xs.length = some j /\ xs[j]? = some v /\ j < xs.length /\ -(xs.length : Int) <= i /\ i < xs.length := by
 unfold atI at h
 cases e : ixN xs.length i with
 | none => rw [e] at h; cases h
 | some j =>
  rw [e] at h
  obtain ⟨h1, h2, h3, h4⟩ := Jvv e
  exact ⟨j, h1, h, h2, h3, h4⟩
noncomputable def Jwz (b : Expr) : Prop := ∀ o i, subscripted b false o i = operate [o, i] (getItem o i)
noncomputable def IxR (X : Cx) (r : R2) : Prop :=
 ∀ (value slice : Expr) (pins : List (Addr × Obj)) (s : Shared) (σ : St) (H : Hp) (x y : V) (v u : Value) (Q : VK), Inv X pins σ H s -> RelV x v -> RelV y u -> r x y H Q ->
  subscripted slice false v u = operate [v, u] (getItem v u) -> wpAny (model X.prog X.w) X.A (subscriptTail value slice v u) (EP X pins σ Q) X.xe s
section
variable {X : Cx} {a b : Expr} {ta tb : TE} {pos : Pos}
noncomputable def rIxL (K : W.Frag) : R2 := λ x y H Q => ∃ p xs i v, x = .ref p /\ y = .int i /\ SqL K H p xs /\ atI xs i = some v /\ Q v H
noncomputable def rIxT (K : W.Frag) : R2 := λ x y H Q => ∃ p xs i v, x = .ref p /\ y = .int i /\ SqT K H p xs /\ atI xs i = some v /\ Q v H
noncomputable def rIxS : R2 := λ x y H Q => ∃ z i c, x = .str z /\ y = .int i /\ z.length <= sizeLine /\ atI z.cps.toList i = some c /\ Q (.str ⟨#[c]⟩) H
theorem Jwr : IxR X (rIxL X.K) := by
 intro value slice pins s σ H x y v u Q I rx ry h hs
 obtain ⟨p, xs, i, z, rfl, rfl, hq, he, q⟩ := h
 cases rx
 obtain ⟨t, rfl⟩ := ry
 obtain ⟨its, r, pl, hz⟩ := I.list hq
 obtain ⟨j, h1, h2, h3, h4, h5⟩ := Jsk he
 obtain ⟨w, ew, rw'⟩ := r.get h2
 have hl := r.length
 have hn := Jof
 have fin : EP X pins σ Q w s := ⟨z, H, I, rw', q⟩
 by_cases h0 : 0 <= i
 ·have hj : i.toNat = j := by
   rw [seqIndex_of h0 h5] at h1
   exact Option.some.inj h1
  exact item_listR pl.isList h0 (by omega) (by rw [hj]; simpa using ew) fin hs
 ·have hj : (i + (its.toArray.size : Int)).toNat = j := by
   rw [seqIndex_neg (by omega) h4] at h1
   rw [List.size_toArray, <- hl]
   exact Option.some.inj h1
  exact subscriptTail_builtinR (x := w) pl.isList.typeIs slot_list_getitem.lookup
   (wpAny_getItem_list_neg (Q := λ r s' => r = w /\ EP X pins σ Q r s') pl.isList (by omega) (by rw [List.size_toArray] <;> omega) (by omega) (by rw [hj]; simpa using ew) ⟨rfl, fin⟩) hs
theorem J4e : IxR X (rIxT X.K) := by
 intro value slice pins s σ H x y v u Q I rx ry h hs
 obtain ⟨p, xs, i, z, rfl, rfl, hq, he, q⟩ := h
 cases rx
 obtain ⟨t, rfl⟩ := ry
 obtain ⟨its, r, pl, hz⟩ := I.tuple hq
 obtain ⟨j, h1, h2, h3, h4, h5⟩ := Jsk he
 obtain ⟨w, ew, rw'⟩ := r.get h2
 have hl := r.length
 have hn := Jof
 have fin : EP X pins σ Q w s := ⟨z, H, I, rw', q⟩
 exact subscriptTail_builtinR (x := w) pl.typeIs slot_tuple_getitem.lookup
  (getItem_tuple (j := j) (Q := λ r s' => r = w /\ EP X pins σ Q r s') pl (by omega) (by omega) (by rw [List.size_toArray, <- hl]; exact h1) (by simpa using ew) ⟨rfl, fin⟩) hs
theorem J3k : IxR X rIxS := by
 intro value slice pins s σ H x y v u Q I rx ry h hs
 obtain ⟨z, i, c, rfl, rfl, hz, he, q⟩ := h
 obtain ⟨t, rfl⟩ := rx
 obtain ⟨t', rfl⟩ := ry
 obtain ⟨j, h1, h2, h3, h4, h5⟩ := Jsk he
 have hl : z.cps.toList.length = z.length := by simp [Str.length]
 rw [hl] at h1 h4 h5
 have hn := Jof
 exact tail_any (typeIs_str s z t) slot_str_getitem.lookup (getItem_str (c := c) (by
  have e1 : decide (i < -(2 ^ 63 : Int)) = false := decide_eq_false (by omega)
  have e2 : decide (i ≥ 2 ^ 63) = false := decide_eq_false (by omega)
  rw [e1, e2, Bool.or_false]) (by rw [h1]; simpa using h2) ⟨.str ⟨#[c]⟩, H, I.tok _, ⟨_, rfl⟩, q⟩) hs
theorem Jt6 (its : List Value) (n j : Nat) (u : Value) : Obj.mapSeq (·.setIfInBounds j u) { cls := .type "list", data := .seq its.toArray n } = { cls := .type "list", data := .seq (its.set j u).toArray n } := by
 simp [Obj.mapSeq]
theorem Inv.lst {pins : List (Addr × Obj)} {σ : St} {H : Hp} {s : Shared} {p : Addr} {xs : List V} (I : Inv X pins σ H s) (h : H p = some (.lst xs)) :
  ∃ (its : List Value) (n : Nat), Vals xs its /\ s.heap.get? p = some { cls := .type "list", data := .seq its.toArray n } /\ xs.length <= sizeLine := by
 obtain ⟨z, its, n, r, e⟩ := I.hok p _ h
 exact ⟨its, n, r, e, z⟩
theorem Inv.lstUpd {pins : List (Addr × Obj)} {σ : St} {H : Hp} {s : Shared} {p : Addr} {xs ys : List V} {its its' : List Value} {n n' : Nat} {f : Obj -> Obj} (I : Inv X pins σ H s) (h : H p = some (.lst xs))
  (ho : s.heap.get? p = some { cls := .type "list", data := .seq its.toArray n }) (hf : f { cls := .type "list", data := .seq its.toArray n } = { cls := .type "list", data := .seq its'.toArray n' }) (r : Vals ys its') (hz : ys.length <= sizeLine) (t : Nat) :
  Inv X pins σ (upd H p (.lst ys)) { s with heap := s.heap.update p f, toks := t } := by
 have e : (s.heap.update p f).get? p = some { cls := .type "list", data := .seq its'.toArray n' } := by
  rw [Heap.get?_update_self f ho (by rw [hf] <;> rfl), hf]
 refine I.write (x := p) (e := p) (by rw [h]; trivial) (.inl rfl) (λ b u hb q => (Heap.get?_update_other _ _ (Ne.symm hb)).trans q) ⟨_, e⟩ ?_
 exact ⟨hz, its', n', r, e⟩
noncomputable def rSetL : V -> V -> V -> Hp -> (Hp -> Prop) -> Prop := λ o i v H Q => ∃ p xs k j, o = .ref p /\ i = .int k /\ H p = some (.lst xs) /\ ixN xs.length k = some j /\ Q (upd H p (.lst (xs.set j v)))
theorem Jya : PSet X rSetL := by
 intro pins s σ H o i v ov iv u Q I ro ri rv h
 obtain ⟨p, xs, k, j, rfl, rfl, hp, hj, q⟩ := h
 cases ro
 obtain ⟨t, rfl⟩ := ri
 obtain ⟨its, n, r, ho, hz⟩ := I.lst hp
 obtain ⟨h1, h2, h3, h4⟩ := Jvv hj
 have hl := r.length
 have hn := Jof
 have I' : Inv X pins σ (upd H p (.lst (xs.set j v))) { s with heap := s.heap.update p (Obj.mapSeq (·.setIfInBounds j u)) } :=
  I.lstUpd hp ho (Jt6 its n j u) (r.set rv j) (by rw [List.length_set]; exact hz) s.toks
 by_cases h0 : 0 <= k
 ·have hk : k.toNat = j := by
   rw [seqIndex_of h0 h4] at h1
   exact Option.some.inj h1
  exact W.ki_setAt ho h0 (by omega) (by rw [List.size_toArray, <- hl]; exact h4) (by rw [hk]; exact ⟨_, I', q⟩)
 ·have hk : (k + (its.toArray.size : Int)).toNat = j := by
   rw [seqIndex_neg (by omega) h3] at h1
   rw [List.size_toArray, <- hl]
   exact Option.some.inj h1
  exact W.ki_setBack ho (by omega) (by rw [List.size_toArray, <- hl]; exact h3) (by omega) (by rw [hk]; exact ⟨_, I', q⟩)
theorem Jp7 (lo hi : Option Int) (n : Nat) : (sliceBounds lo hi none n).1 = ((HT.sIx n 0 lo : Nat) : Int) /\ (sliceBounds lo hi none n).2.1 = ((HT.sIx n n hi : Nat) : Int) /\ (sliceBounds lo hi none n).2.2 = 1 := by
 refine ⟨?_, ?_, rfl⟩
 ·cases lo with
  | none => simp [sliceBounds, HT.sIx]
  | some i =>
   simp only [sliceBounds, HT.sIx, Option.getD_none, show (1 : Int) > 0 by decide, if_true]
   by_cases h : i < 0
   ·simp only [h, if_true] <;> omega
   ·simp only [h, if_false] <;> omega
 ·cases hi with
  | none => simp [sliceBounds, HT.sIx]
  | some i =>
   simp only [sliceBounds, HT.sIx, Option.getD_none, show (1 : Int) > 0 by decide, if_true]
   by_cases h : i < 0
   ·simp only [h, if_true] <;> omega
   ·simp only [h, if_false] <;> omega
theorem Jow (its : List Value) (lo hi : Option Int) : slicePick its.toArray lo hi none = ((its.drop (HT.sIx its.length 0 lo)).take (HT.sIx its.length its.length hi - HT.sIx its.length 0 lo)).toArray := by
 obtain ⟨h1, h2, h3⟩ := Jp7 lo hi its.toArray.size
 unfold slicePick
 rw [h1, h2, h3]
 simp only [sliceRange_one, pick_run, List.size_toArray] <;> rfl
noncomputable def rSlL (K : W.Frag) : V -> Option Int -> Option Int -> Hp -> VK -> Prop := λ x lo hi H Q => ∃ a xs, x = .ref a /\ SqL K H a xs /\ ∀ p, H p = none -> Q (.ref p) (upd H p (.lst (cutV xs lo hi)))
theorem Jwm : SlR X (rSlL X.K) := by
 intro pins s σ H x v vl vu lo hi sl Q I rx hs pl pu h
 obtain ⟨a, xs, rfl, hx, q⟩ := h
 cases rx
 obtain ⟨its, r, ht, hz⟩ := I.list hx
 have hlen := r.length
 refine ⟨"list", _, slot_list_getitem.lookup, ht.isList.typeIs, ?_⟩
 refine wpAny_getItem_list_slice ht.isList hs pl pu .none (by simp) ?_ (by rw [List.size_toArray] <;> omega)
 rw [Jow, <- hlen]
 refine ⟨.ref s.heap.objs.size, _, I.laid (t' := s.toks) (o := .lst (cutV xs lo hi)) (λ b ob q => Heap.get?_push_of_some _ q) (Nat.le_refl _) ?_, rfl, q _ (I.hok.fresh (Nat.le_refl _))⟩
 exact ⟨Nat.le_trans (Jm5 xs lo hi) hz, _, 0, (r.drop (HT.sIx xs.length 0 lo)).take (HT.sIx xs.length xs.length hi - HT.sIx xs.length 0 lo), Heap.get?_push_size _ rfl⟩
noncomputable def eqV : V -> V -> Bool
 | .non, .non => true
 | .bl a, .bl b => a == b
 | .bl a, .int b => (if a then 1 else 0) == b
 | .int a, .bl b => a == (if b then 1 else 0)
 | .int a, .int b => a == b
 | .str a, .str b => a == b
 | _, _ => false
noncomputable def inV (x : V) (xs : List V) : Bool := xs.any λ y => eqV y x
theorem Jfb : Jtv X (.type "list") (λ xs H Q => ∃ p ys, xs = [.ref p] /\ (SqL X.K H p ys ∨ SqT X.K H p ys) /\ ∀ l, H l = none -> Q (.ref l) (upd H l (.lst ys))) := by
 intro pins s σ H xs us Q I r h
 obtain ⟨p, ys, rfl, hq, q⟩ := h
 obtain ⟨u, rfl, rx⟩ := Jng r
 cases rx
 have fin : ∀ (its : List Value), Vals ys its -> ys.length <= sizeLine -> ∀ (h' : Heap) (c' : Nat), (∀ b o', s.heap.get? b = some o' -> h'.get? b = some o') ->
   h'.get? s.heap.objs.size = some { cls := .type "list", dict := none, data := .seq its.toArray c', slots := #[] } -> EP X pins σ Q (.ref s.heap.objs.size) { s with heap := h' } := λ its r' hz h' c' kp e =>
  ⟨.ref s.heap.objs.size, _, I.laid (t' := s.toks) kp (Nat.le_refl _) (show Jb5 X.prog X.w _ h' _ (.lst ys) from ⟨hz, its, c', r', e⟩), rfl, q _ (I.hok.fresh (Nat.le_refl _))⟩
 rcases hq with hq | hq
 ·obtain ⟨its, r', pl, hz⟩ := I.list hq
  have hlen := r'.length
  obtain ⟨o, ho, hc, n, hd⟩ := pl.isList
  exact call_list_seq p (.inl rfl) ho hc hd (λ h' c' kp e => fin its r' hz h' c' kp e) (by simp only [List.size_toArray] <;> omega)
 ·obtain ⟨its, r', pl, hz⟩ := I.tuple hq
  have hlen := r'.length
  obtain ⟨o, ho, hc, n, hd⟩ := pl
  exact call_list_seq p (.inr rfl) ho hc hd (λ h' c' kp e => fin its r' hz h' c' kp e) (by simp only [List.size_toArray] <;> omega)
theorem Jj6 : Jtv X (.type "tuple") (λ xs H Q => ∃ p ys, xs = [.ref p] /\ ((SqL X.K H p ys /\ ∀ l, H l = none -> Q (.ref l) (upd H l (.tup ys))) ∨ (SqT X.K H p ys /\ Q (.ref p) H))) := by
 intro pins s σ H xs us Q I r h
 obtain ⟨p, ys, rfl, h⟩ := h
 obtain ⟨u, rfl, rx⟩ := Jng r
 cases rx
 rcases h with ⟨hq, q⟩ | ⟨hq, q⟩
 ·obtain ⟨its, r', pl, hz⟩ := I.list hq
  have hlen := r'.length
  refine call_tuple_list pl.isList (λ h' kp => ?_) (by simp only [List.size_toArray] <;> omega)
  have I1 : Inv X pins σ H { s with heap := h' } := I.kept (t' := s.toks) kp
  have I2 : Inv X pins σ (upd H h'.objs.size (.tup ys)) { s with heap := h'.push { cls := .type "tuple", data := .seq its.toArray } } :=
   I1.laid (t' := s.toks) (λ b o e => Heap.get?_push_of_some _ e) (Nat.le_refl _) (show Jb5 X.prog X.w _ _ _ (.tup ys) from ⟨hz, its, r', IsTup.new _ _⟩)
  exact ⟨.ref h'.objs.size, _, I2, rfl, q _ (I1.hok.fresh (Nat.le_refl _))⟩
 ·obtain ⟨its, r', pl, hz⟩ := I.tuple hq
  exact call_tuple_same pl ⟨.ref p, H, I, rfl, q⟩
noncomputable def tyV (K : W.Frag) (T : String) (x : V) (H : Hp) : Prop := match x with
 | .str _ => T = "str"
 | .int _ => T = "int"
 | .ref p => (T = "list" /\ ∃ xs, SqL K H p xs) ∨ (T = "tuple" /\ ∃ o, K.lookup p = some o /\ o.cls = .type "tuple" /\ o.dict = none) ∨
   (T = "dict" /\ ((∃ kvs, H p = some (.dK kvs)) ∨ ∃ kvs, H p = some (.dT kvs))) ∨ (T = "set" /\ ∃ S n, H p = some (.set S n))
 | _ => False
theorem J0p {pins : List (Addr × Obj)} {σ : St} {H : Hp} {s : Shared} {T : String} {x : V} {v : Value} (I : Inv X pins σ H s) (r : RelV x v) (ty : tyV X.K T x H) :
  s.TypeIs v T /\ ∀ a, v = .ref a -> ∃ ob, s.heap.get? a = some ob /\ ob.dict = none := by
 cases x with
 | str z =>
  obtain ⟨t, rfl⟩ := r
  cases (show T = "str" from ty)
  exact ⟨typeIs_str s z t, λ _ e => nomatch e⟩
 | int i =>
  obtain ⟨t, rfl⟩ := r
  cases (show T = "int" from ty)
  exact ⟨typeIs_int s i t, λ _ e => nomatch e⟩
 | ref p =>
  cases r
  rcases ty with ⟨rfl, xs, hq⟩ | ⟨rfl, o, hk, hc, hd⟩ | ⟨rfl, hk⟩ | ⟨rfl, S, n, hk⟩
  ·obtain ⟨its, _, pl, _⟩ := I.list hq
   refine ⟨pl.isList.typeIs, λ a e => ?_⟩
   cases e
   obtain ⟨o, n, e, c, hd, _⟩ := pl
   exact ⟨o, e, hd⟩
  ·refine ⟨⟨o, I.kIn p o hk, hc⟩, λ a e => ?_⟩
   cases e
   exact ⟨o, I.kIn _ o hk, hd⟩
  ·have z : ∃ o, s.heap.get? p = some o /\ o.ExactDict := by
    rcases hk with ⟨kvs, hk⟩ | ⟨kvs, hk⟩
    ·obtain ⟨_, _, _, _, o, _, _, e, ex, _⟩ := I.hok p _ hk
     exact ⟨o, e, ex⟩
    ·obtain ⟨_, _, _, _, o, _, _, e, ex, _⟩ := I.hok p _ hk
     exact ⟨o, e, ex⟩
   obtain ⟨o, e, ex⟩ := z
   refine ⟨⟨o, e, ex.1⟩, λ a e2 => ?_⟩
   cases e2
   exact ⟨o, e, ex.2.1⟩
  ·obtain ⟨o, _, _, _, e, ex, _⟩ := I.hok p _ hk
   refine ⟨⟨o, e, ex.1⟩, λ a e2 => ?_⟩
   cases e2
   exact ⟨o, e, ex.2.1⟩
 | _ => exact False.elim ty
variable {o e : Expr} {es : List Expr} {to : TE} {t : TA} {name : Str} {apos cpos : Pos} {T id : String} {r : V -> List V -> Hp -> VK -> Prop}
end
end L2
namespace L2
open PySem PySem.Spec PyProof.Rows
noncomputable def MtM (X : Cx) (id : String) (r : V -> List V -> Hp -> VK -> Prop) : Prop :=
 ∀ (pins : List (Addr × Obj)) (s : Shared) (σ : St) (H : Hp) (x : V) (xs : List V) (v : Value) (us : List Value) (Q : VK), Inv X pins σ H s -> RelV x v -> Vals xs us -> r x xs H Q ->
  wpAny (model X.prog X.w) X.A (call (.builtin id) (v :: us)) (EP X pins σ Q) X.xe s
theorem Vals.one : ∀ {x : V} {us : List Value}, Vals [x] us -> ∃ u, us = [u] /\ RelV x u
 | _, _, .cons r .nil => ⟨_, rfl, r⟩
theorem Vals.two : ∀ {x y : V} {us : List Value}, Vals [x, y] us -> ∃ u v, us = [u, v] /\ RelV x u /\ RelV y v
 | _, _, _, .cons r (.cons q .nil) => ⟨_, _, rfl, r, q⟩
theorem Vals.zero : ∀ {us : List Value}, Vals [] us -> us = []
 | _, .nil => rfl
theorem Vals.rep {xs : List V} {us : List Value} (h : Vals xs us) : ∀ k : Nat, Vals (List.replicate k xs).flatten (List.replicate k us).flatten
 | 0 => .nil
 | k + 1 => by
  rw [List.replicate_succ, List.replicate_succ, List.flatten_cons, List.flatten_cons]
  exact Vals.append h (Vals.rep h k)
theorem Jrm (its : List Value) : ∀ (k : Nat) (acc : List Value),
  List.foldl (λ x1 x2 => x1 ++ x2) acc.toArray (List.replicate k its.toArray) = (acc ++ (List.replicate k its).flatten).toArray
 | 0, acc => by simp
 | k + 1, acc => by
  have e : acc.toArray ++ its.toArray = (acc ++ its).toArray := by simp
  have e2 : (acc ++ its) ++ (List.replicate k its).flatten = acc ++ (List.replicate (k + 1) its).flatten := by
   rw [List.replicate_succ, List.flatten_cons, List.append_assoc]
  rw [<- e2, <- Jrm its k (acc ++ its), <- e, List.replicate_succ, List.foldl_cons]
section
variable {X : Cx} {pins : List (Addr × Obj)} {σ : St} {H : Hp} {s : Shared} {l b : Addr} {xs ys zs : List V}
theorem Inv.lset {its its' : List Value} {n : Nat} {f : Array Value -> Array Value} {t' : Nat} (I : Inv X pins σ H s) (hH : H l = some (.lst xs))
  (e : s.heap.get? l = some { cls := .type "list", data := .seq its.toArray n }) (hf : f its.toArray = its'.toArray) (hv : Vals ys its') (hz : ys.length <= sizeLine) :
  Inv X pins σ (upd H l (.lst ys)) { s with heap := s.heap.update l (Obj.mapSeq f), toks := t' } := by
 have q := PySem.IsL.update e f
 rw [hf] at q
 refine I.write (x := l) (e := l) (by rw [hH]; exact trivial) (.inl rfl) (λ b' u hb hu => (Heap.get?_update_other s.heap (Obj.mapSeq f) (Ne.symm hb)).trans hu) ⟨_, q⟩ ?_
 exact ⟨hz, its', _, hv, q⟩
theorem Inv.lnew {its : List Value} {t' : Nat} (I : Inv X pins σ H s) (hv : Vals ys its) (hz : ys.length <= sizeLine) :
  Inv X pins σ (upd H s.heap.objs.size (.lst ys)) { s with heap := s.heap.push { cls := .type "list", data := .seq its.toArray }, toks := t' } :=
 I.laid (λ _ _ q => Heap.get?_push_of_some _ q) (Nat.le_refl _) ⟨hz, its, 0, hv, Heap.get?_push_size _ rfl⟩
theorem Inv.fresh (I : Inv X pins σ H s) : H s.heap.objs.size = none := I.hok.fresh (Nat.le_refl _)
theorem Inv.lstM (I : Inv X pins σ H s) (hH : H l = some (.lst xs)) : xs.length <= sizeLine /\ ∃ (its : List Value) (n : Nat), Vals xs its /\ xs.length = its.length /\ s.heap.get? l = some { cls := .type "list", data := .seq its.toArray n } := by
 obtain ⟨z, its, n, r, e⟩ := I.hok l _ hH
 exact ⟨z, its, n, r, r.length, e⟩
theorem Js5 {n : Nat} (h : n <= sizeLine) : Builtin.List.listTooLong n = false := by
 unfold Builtin.List.listTooLong
 exact decide_eq_false (by omega)
end
section
variable {X : Cx}
noncomputable def J0v : V -> List V -> Hp -> VK -> Prop := λ x vs H Q => ∃ l xs y, x = .ref l /\ vs = [y] /\ H l = some (.lst xs) /\ xs.length < sizeLine /\ Q .non (upd H l (.lst (xs ++ [y])))
theorem Jqs : MtM X "list.append" J0v := by
 intro pins s σ H x vs v us Q I rx rv h
 obtain ⟨l, xs, y, rfl, rfl, hH, hz, q⟩ := h
 cases rx
 obtain ⟨u, rfl, ru⟩ := rv.one
 obtain ⟨z, its, n, r, hl, e⟩ := I.lstM hH
 refine call_meets F.slot_list_append ⟨_, e, rfl⟩ F.entry_list_append (F.args_list_append_2 _ _) (PySem.list_append l its.toArray n u (by rw [List.size_toArray]; omega)) ⟨e, ?_⟩
 refine ⟨.non, _, I.lset (its' := its ++ [u]) hH e (by simp) (r.append (.cons ru .nil)) ?_, rfl, q⟩
 rw [List.length_append, List.length_singleton]
 omega
noncomputable def J0r : V -> List V -> Hp -> VK -> Prop := λ x vs H Q => ∃ l b xs zs, x = .ref l /\ vs = [.ref b] /\ H l = some (.lst xs) /\ H b = some (.lst zs) /\ xs.length + zs.length <= sizeLine /\ Q .non (upd H l (.lst (xs ++ zs)))
theorem J43 : MtM X "list.extend" J0r := by
 intro pins s σ H x vs v us Q I rx rv h
 obtain ⟨l, b, xs, zs, rfl, rfl, hH, hB, hz, q⟩ := h
 cases rx
 obtain ⟨u, rfl, ru⟩ := rv.one
 cases ru
 obtain ⟨z, its, n, r, hl, e⟩ := I.lstM hH
 obtain ⟨z2, its2, n2, r2, hl2, e2⟩ := I.lstM hB
 have hsz : its.toArray.size + its2.toArray.size <= sizeLine := by rw [List.size_toArray, List.size_toArray]; omega
 have hlong : ¬ (!its.toArray.isEmpty && Builtin.List.listTooLong (its.toArray.size + its2.toArray.size)) = true := by
  rw [Js5 hsz, Bool.and_false]
  exact Bool.false_ne_true
 refine call_meets F.slot_list_extend ⟨_, e, rfl⟩ F.entry_list_extend (F.args_list_extend_2 _ _)
  (AutoSeq1.list_extend_list_list_0 l its.toArray n b its2.toArray n2 hlong (by rw [List.size_toArray]; omega) (by omega)) ⟨e, e2, ?_⟩
 refine ⟨.non, _, I.lset (its' := its ++ its2) hH e (by simp) (r.append r2) ?_, rfl, q⟩
 rw [List.length_append]
 omega
noncomputable def rCat : R2 := λ x y H Q => ∃ l b xs zs, x = .ref l /\ y = .ref b /\ H l = some (.lst xs) /\ H b = some (.lst zs) /\ xs.length + zs.length <= sizeLine /\ ∀ p, H p = none -> Q (.ref p) (upd H p (.lst (xs ++ zs)))
theorem J4m : OpR X (binaryOp .Add) rCat := by
 intro pins s σ H x y v u Q I rx ry h
 obtain ⟨l, b, xs, zs, rfl, rfl, hH, hB, hz, q⟩ := h
 cases rx
 cases ry
 obtain ⟨z, its, n, r, hl, e⟩ := I.lstM hH
 obtain ⟨z2, its2, n2, r2, hl2, e2⟩ := I.lstM hB
 refine PySem.P.add_list e e2 ?_ (by rw [List.size_toArray, List.size_toArray]; omega)
 have ea : its.toArray ++ its2.toArray = (its ++ its2).toArray := by simp
 rw [ea]
 exact ⟨.ref _, _, I.lnew (t' := s.toks) (r.append r2) (by rw [List.length_append]; omega), rfl, q _ I.fresh⟩
noncomputable def rRep : R2 := λ x y H Q => ∃ l k xs, x = .ref l /\ y = .int k /\ H l = some (.lst xs) /\ -(2 ^ 63) <= k /\ k < 2 ^ 63 /\ xs.length * k.toNat <= sizeLine /\
 ∀ p, H p = none -> Q (.ref p) (upd H p (.lst (List.replicate k.toNat xs).flatten))
theorem J08 {α : Type} (xs : List α) (k : Nat) : (List.replicate k xs).flatten.length = k * xs.length := by
 induction k with
 | zero => simp
 | succ k ih => rw [List.replicate_succ, List.flatten_cons, List.length_append, ih, Nat.succ_mul, Nat.add_comm]
theorem J4j : OpR X (binaryOp .Mult) rRep := by
 intro pins s σ H x y v u Q I rx ry h
 obtain ⟨l, k, xs, rfl, rfl, hH, h1, h2, hz, q⟩ := h
 cases rx
 obtain ⟨t, rfl⟩ := ry
 obtain ⟨z, its, n, r, hl, e⟩ := I.lstM hH
 have hlen : its.toArray.size * k.toNat <= sizeLine := by rw [List.size_toArray, <- hl]; exact hz
 have hcap : ¬ its.toArray.size * k.toNat > (2 ^ 63 - 1) / 8 := by
  have : (sizeLine : Nat) <= (2 ^ 63 - 1) / 8 := by decide
  omega
 have hfit : ¬ (!Builtin.List.listFitsIndex k) = true := by
  rw [fitsIndex_both h1 h2]
  exact Bool.false_ne_true
 have hlong : ¬ Builtin.List.listTooLong (its.toArray.size * k.toNat) = true := by
  rw [Js5 hlen]
  exact Bool.false_ne_true
 have hnew : List.foldl (λ x1 x2 => x1 ++ x2) #[] (List.replicate (if its.toArray.isEmpty = true then 0 else k.toNat) its.toArray) = (List.replicate k.toNat its).flatten.toArray := by
  have f0 : ∀ m : Nat, List.foldl (λ x1 x2 => x1 ++ x2) #[] (List.replicate m its.toArray) = (List.replicate m its).flatten.toArray := λ m => by
   have := Jrm its m []
   rw [List.nil_append] at this
   exact this
  rw [f0]
  cases its with
  | nil => simp
  | cons a r' => rw [if_neg (by simp)]
 refine wpAny_binaryOp_repeat_ref (T := "list") (U := "int") (by decide) ⟨_, e, rfl⟩ (λ s' => typeIs_int s' k t) noFill_list_mul F.fills_int_mul F.slot_int_rmul repeat_list F.slot_int_index.lookup
  (call_meets F.slot_int_rmul (typeIs_int s k t) F.entry_int_rmul (F.args_int_rmul_2 _ _) (int___rmul___int_list k t l its.toArray n)
   ⟨e, rfl, ⟨_, e, rfl⟩, call_meets F.slot_list_mul ⟨_, e, rfl⟩ F.entry_list_mul (F.args_list_mul_2 _ _) (AutoListH.list___mul___list_int_3 l its.toArray n k t hfit hcap hlong) ⟨e, ?_⟩⟩)
 rw [hnew]
 exact ⟨.ref _, _, I.lnew (t' := s.toks) (r.rep k.toNat) (by rw [J08, Nat.mul_comm]; exact hz), rfl, q _ I.fresh⟩
end
section
variable {prog : Program} {w : World} {A : Around} {E : Value -> Shared -> Prop} {s : Shared}
end
section
variable {X : Cx}
end
end L2
namespace L2
open PySem PySem.Spec PyProof.Rows
section
variable {κ : Type} [DecidableEq κ]
noncomputable def valV (kvs : List (κ × V)) (k : κ) : Option V := (kvs.find? λ kv => decide (kv.1 = k)).map (·.2)
noncomputable def putK (kvs : List (κ × V)) (k : κ) (v : V) : List (κ × V) :=
 if (kvs.any λ kv => decide (kv.1 = k)) = true then kvs.map (λ kv => if kv.1 = k then (kv.1, v) else kv) else kvs ++ [(k, v)]
noncomputable def J3c (kvs : List (κ × V)) (k : κ) : List (κ × V) := kvs.filter λ kv => decide (kv.1 ≠ k)
theorem Jlx {p : κ × V} {r : List (κ × V)} {k : κ} (e : p.1 = k) : valV (p :: r) k = some p.2 := by simp [valV, List.find?_cons, e]
theorem Jls {p : κ × V} {r : List (κ × V)} {k : κ} (e : ¬ p.1 = k) : valV (p :: r) k = valV r k := by simp [valV, List.find?_cons, e]
theorem Jps (k : κ) : ∀ kvs : List (κ × V), (kvs.any λ kv => decide (kv.1 = k)) = (valV kvs k).isSome
 | [] => rfl
 | p :: r => by
  rw [List.any_cons]
  by_cases e : p.1 = k
  ·simp only [Jlx e, decide_eq_true e, Bool.true_or, Option.isSome_some]
  ·rw [Jls e, decide_eq_false e, Bool.false_or]; exact Jps k r
theorem Jmk (kvs : List (κ × V)) (k : κ) (v : V) : (putK kvs k v).length <= kvs.length + 1 := by
 unfold putK
 split
 ·rw [List.length_map]; omega
 ·rw [List.length_append, List.length_cons, List.length_nil]; omega
theorem Jpb {kvs : List (κ × V)} {k : κ} (v : V) (h : valV kvs k = none) : putK kvs k v = kvs ++ [(k, v)] := by
 unfold putK
 rw [Jps, h]
 exact if_neg (by decide)
theorem RelO.isSome_eq {o : Option V} {u : Option Value} (r : RelO o u) : o.isSome = u.isSome := by
 cases o with
 | none => cases u with
  | none => rfl
  | some _ => exact Zf r
 | some _ => cases u with
  | none => exact Zf r
  | some _ => rfl
theorem RelO.getD {o : Option V} {u : Option Value} {d : V} {d' : Value} (r : RelO o u) (rd : RelV d d') : RelV (o.getD d) (u.getD d') := by
 cases o with
 | none => cases u with
  | none => exact rd
  | some _ => exact Zf r
 | some _ => cases u with
  | none => exact Zf r
  | some _ => exact r
theorem KV.val {kvs : List (κ × V)} {vs : List (κ × Value)} (r : KV kvs vs) (k : κ) : RelO (valV kvs k) (valueAt vs k) := by
 unfold KV at r
 induction r with
 | nil => exact True.intro
 | @cons p q ps qs h t ih =>
  obtain ⟨h1, h2⟩ := h
  by_cases e : p.1 = k
  ·have e' : q.1 = k := h1.symm.trans e
   have b : valueAt (q :: qs) k = some q.2 := by simp [valueAt, List.find?_cons, e']
   rw [Jlx e, b]; exact h2
  ·have e' : ¬ q.1 = k := λ z => e (h1.trans z)
   have b : valueAt (q :: qs) k = valueAt qs k := by simp [valueAt, List.find?_cons, e']
   rw [Jls e, b]; exact ih
theorem KV.any {kvs : List (κ × V)} {vs : List (κ × Value)} (r : KV kvs vs) (k : κ) : (kvs.any λ kv => decide (kv.1 = k)) = vs.any λ kv => decide (kv.1 = k) := by
 unfold KV at r
 induction r with
 | nil => rfl
 | cons h t ih => rw [List.any_cons, List.any_cons, ih, h.1]
theorem KV.repl {kvs : List (κ × V)} {vs : List (κ × Value)} (r : KV kvs vs) (k : κ) {y : V} {u : Value} (ry : RelV y u) :
  KV (kvs.map λ kv => if kv.1 = k then (kv.1, y) else kv) (vs.map λ kv => if kv.1 = k then (kv.1, u) else kv) := by
 unfold KV at r ⊢
 induction r with
 | nil => exact .nil
 | @cons p q ps qs h t ih =>
  rw [List.map_cons, List.map_cons]
  refine .cons ?_ ih
  obtain ⟨h1, h2⟩ := h
  by_cases e : p.1 = k
  ·rw [if_pos e, if_pos (h1.symm.trans e)]; exact ⟨h1, ry⟩
  ·rw [if_neg e, if_neg (λ z => e (h1.trans z))]; exact ⟨h1, h2⟩
theorem KV.put {kvs : List (κ × V)} {vs : List (κ × Value)} (r : KV kvs vs) (k : κ) {y : V} {u : Value} (ry : RelV y u) : KV (putK kvs k y) (stored vs k u) := by
 unfold putK stored
 rw [r.any k]
 by_cases e : (vs.any λ kv => decide (kv.1 = k)) = true
 ·rw [if_pos e, if_pos e]; exact r.repl k ry
 ·rw [if_neg e, if_neg e]; exact Paired.snoc r ⟨rfl, ry⟩
theorem KV.drop {kvs : List (κ × V)} {vs : List (κ × Value)} (r : KV kvs vs) (k : κ) : KV (J3c kvs k) (without vs k) := by
 unfold KV at r ⊢
 unfold J3c without
 induction r with
 | nil => exact .nil
 | @cons p q ps qs h t ih =>
  obtain ⟨h1, h2⟩ := h
  rw [List.filter_cons, List.filter_cons]
  by_cases e : p.1 = k
  ·have a : ¬ decide (p.1 ≠ k) = true := by simp [e]
   have b : ¬ decide (q.1 ≠ k) = true := by simp [h1.symm.trans e]
   rw [if_neg a, if_neg b]; exact ih
  ·have e' : ¬ q.1 = k := λ z => e (h1.trans z)
   have a : decide (p.1 ≠ k) = true := by simp [e]
   have b : decide (q.1 ≠ k) = true := by simp [e']
   rw [if_pos a, if_pos b]; exact .cons ⟨h1, h2⟩ ih
theorem KV.keys {kvs : List (κ × V)} {vs : List (κ × Value)} (r : KV kvs vs) : kvs.map (·.1) = vs.map (·.1) := by
 unfold KV at r
 induction r with
 | nil => rfl
 | cons h t ih => rw [List.map_cons, List.map_cons, ih, h.1]
theorem KV.length {kvs : List (κ × V)} {vs : List (κ × Value)} (r : KV kvs vs) : kvs.length = vs.length := Paired.length r
end
theorem Ju8 {P : Program} {w : World} {k : Key} {u : Value} (r : RelV (kV k) u) : (Jbn P w).is k u = true := by
 cases k with
 | inl i => obtain ⟨t, e⟩ := (show ∃ t, u = Value.int i t from r); subst e; exact Jsc P w i t
 | inr x => obtain ⟨t, e⟩ := (show ∃ t, u = Value.str x t from r); subst e; exact Jsm P w x t
noncomputable abbrev KT (H : Hp) : List (List Key × V) -> List (List Key × Addr × Value) -> Prop := Paired λ p q => p.1 = q.1 /\ H q.2.1 = some (.tup (p.1.map kV)) /\ RelV p.2 q.2.2
theorem KT.val {H : Hp} {kvs : List (List Key × V)} {xs : List (List Key × Addr × Value)} (r : KT H kvs xs) (k : List Key) : RelO (valV kvs k) ((atKey xs k).map (·.2)) := by
 induction r with
 | nil => exact True.intro
 | @cons p q ps qs h t ih =>
  obtain ⟨h1, _, h2⟩ := h
  by_cases e : p.1 = k
  ·have e' : q.1 = k := h1.symm.trans e
   have b : atKey (q :: qs) k = some q.2 := by simp [atKey, List.find?_cons, e']
   rw [Jlx e, b]; exact h2
  ·have e' : ¬ q.1 = k := λ z => e (h1.trans z)
   have b : atKey (q :: qs) k = atKey qs k := by simp [atKey, List.find?_cons, e']
   rw [Jls e, b]; exact ih
theorem KT.keeps {H H' : Hp} {kvs : List (List Key × V)} {xs : List (List Key × Addr × Value)} (r : KT H kvs xs) (ht : ∀ b ys, H b = some (.tup ys) -> H' b = some (.tup ys)) : KT H' kvs xs :=
 Paired.mapP r λ _ _ z => ⟨z.1, ht _ _ z.2.1, z.2.2⟩
section
variable {P : Program} {w : World} {H : Hp} {h : Heap} {a : Addr}
theorem rd_of {u : HO} (ok : HOk P w H h) (e : Rd H a u) : Jb5 P w H h a u := e.ok ok
theorem J5d {kvs : List (Key × V)} (ok : HOk P w H h) (e : Rd H a (.dK kvs)) : kvs.length <= sizeLine /\ (a == sysModules) = false /\ ∃ vs, KV kvs vs /\ h.DictOf (Jbn P w) a vs :=
 show Jb5 P w H h a (.dK kvs) from rd_of ok e
theorem Jww {kvs : List (Key × V)} (ok : HOk P w H h) (e : H a = some (.dK kvs)) : kvs.length <= sizeLine /\ (a == sysModules) = false /\ ∃ vs, KV kvs vs /\ h.DictOf (Jbn P w) a vs := J5d ok (.inl e)
end
noncomputable def DGet (H : Hp) (a : Addr) (y : V) (r : Option V) : Prop :=
 (∃ kvs k, Rd H a (.dK kvs) /\ y = kV k /\ r = valV kvs k) ∨ ∃ kvs k b, Rd H a (.dT kvs) /\ y = .ref b /\ H b = some (.tup (k.map kV)) /\ r = valV kvs k
noncomputable def DPut (H : Hp) (a : Addr) (y v : V) (H' : Hp) : Prop :=
 (∃ kvs k, H a = some (.dK kvs) /\ y = kV k /\ kvs.length < sizeLine /\ H' = upd H a (.dK (putK kvs k v))) ∨
 ∃ kvs k b, H a = some (.dT kvs) /\ y = .ref b /\ H b = some (.tup (k.map kV)) /\ kvs.length < sizeLine /\ H' = upd H a (.dT (putK kvs k v))
theorem DGet.k {H : Hp} {a : Addr} {kvs : List (Key × V)} {k : Key} (e : H a = some (.dK kvs)) : DGet H a (kV k) (valV kvs k) := .inl ⟨kvs, k, .inl e, rfl, rfl⟩
theorem DGet.t {H : Hp} {a b : Addr} {kvs : List (List Key × V)} {k : List Key} (e : H a = some (.dT kvs)) (eb : H b = some (.tup (k.map kV))) : DGet H a (.ref b) (valV kvs k) := .inr ⟨kvs, k, b, .inl e, rfl, eb, rfl⟩
theorem DPut.k {H : Hp} {a : Addr} {kvs : List (Key × V)} {k : Key} {v : V} (e : H a = some (.dK kvs)) (hl : kvs.length < sizeLine) : DPut H a (kV k) v (upd H a (.dK (putK kvs k v))) := .inl ⟨kvs, k, e, rfl, hl, rfl⟩
theorem DPut.t {H : Hp} {a b : Addr} {kvs : List (List Key × V)} {k : List Key} {v : V} (e : H a = some (.dT kvs)) (eb : H b = some (.tup (k.map kV))) (hl : kvs.length < sizeLine) :
  DPut H a (.ref b) v (upd H a (.dT (putK kvs k v))) := .inr ⟨kvs, k, b, e, rfl, eb, hl, rfl⟩
section
variable {X : Cx} {pins : List (Addr × Obj)} {σ : St} {H : Hp} {s : Shared} {a : Addr} {y v : V} {u r : Value} {o : Option V} {A : Around} {E : Value -> Shared -> Prop}
theorem Inv.big (I : Inv X pins σ H s) : sysModules < s.heap.objs.size := by
 have h : mainGlobals < s.heap.objs.size := (I.mod.glob.keeps I.bk).lt
 exact Nat.lt_trans (by decide) h
theorem Jsd {h' : Heap} {t' : Nat} {ob : HO} (I : Inv X pins σ H s) (mu : Mut (H a)) (hs : Heap.SameBut a s.heap h') (he : ∃ q, h'.get? a = some q) (new : Jb5 X.prog X.w (upd H a ob) h' a ob) :
  Inv X pins σ (upd H a ob) { s with heap := h', toks := t' } :=
 I.write (x := a) (e := a) mu (.inl rfl) (λ b q hb z => (hs.2 b hb).trans z) he new
theorem Jvt {P : Program} {w : World} {H' : Hp} {h' : Heap} {kvs : List (Key × V)} {vs : List (Key × Value)} (z : kvs.length <= sizeLine) (hd : (a == sysModules) = false) (rel : KV kvs vs) (dd : h'.DictOf (Jbn P w) a vs) :
  Jb5 P w H' h' a (.dK kvs) := ⟨z, hd, vs, rel, dd⟩
end
section
variable {X : Cx} {pins : List (Addr × Obj)} {σ : St} {H : Hp} {s : Shared} {a : Addr} {kvs : List (Key × V)} {k : Key} {u : Value} {A : Around} {E : Value -> Shared -> Prop}
theorem d_len {Q : Value -> Shared -> Prop} (I : Inv X pins σ H s) (e : Rd H a (.dK kvs)) (h : ∀ t s', Inv X pins σ H s' -> Q (.int kvs.length t) s') : wpAny (model X.prog X.w) A (call (.builtin "len") [.ref a]) Q E s := by
 obtain ⟨z, hd, vs, rel, dd⟩ := J5d I.hok e
 refine call_len_dict hd dd (by rw [<- rel.length]; rw [sizeLine_eq] at z; omega) ?_
 rw [<- rel.length]
 exact h _ _ (I.tok _)
end
section
variable {X : Cx} {o i e value : Expr} {pos pos' tpos : Pos} {td ty tv : TE}
end
theorem Jti {P : Program} {w : World} {H : Hp} (h : Heap) (hb : sysModules < h.objs.size) : Jb5 P w H (h.push { cls := .type "dict", data := .dict #[] }) h.objs.size (.dK []) :=
 ⟨Nat.zero_le _, beq_eq_false_iff_ne.mpr (Ne.symm (Nat.ne_of_lt hb)), [], .nil, Heap.DictOf.new h⟩
section
variable {X : Cx} {pos : Pos}
end
noncomputable abbrev VV : List (V × V) -> List (Value × Value) -> Prop := Paired λ p q => RelV p.1 q.1 /\ RelV p.2 q.2
noncomputable def Joi (kvs more : List (Key × V)) : List (Key × V) := more.foldl (λ acc kv => putK acc kv.1 kv.2) kvs
theorem KV.merge : ∀ {more : List (Key × V)} {rs : List (Key × Value)} {kvs : List (Key × V)} {vs : List (Key × Value)}, KV more rs -> KV kvs vs -> KV (Joi kvs more) (merged vs rs) := by
 intro more rs kvs vs r
 unfold KV at r
 induction r generalizing kvs vs with
 | nil => intro q; exact q
 | @cons p q ps qs h t ih =>
  intro r0
  have e : KV (putK kvs p.1 p.2) (stored vs q.1 q.2) := by
   have := r0.put p.1 h.2
   rw [<- h.1]; exact this
  exact ih e
theorem Ji0 : ∀ (more kvs : List (Key × V)), (Joi kvs more).length <= kvs.length + more.length
 | [], kvs => by show kvs.length <= kvs.length + 0; omega
 | p :: r, kvs => by
  have h1 := Ji0 r (putK kvs p.1 p.2)
  have h2 := Jmk kvs p.1 p.2
  show (Joi (putK kvs p.1 p.2) r).length <= _
  rw [List.length_cons]; omega
theorem Jol {P : Program} {w : World} : ∀ {kvs : List (Key × V)} {ws : List (Value × Value)}, VV (kvs.map λ kv => (kV kv.1, kv.2)) ws -> ∃ rs, Carries (Jbn P w) ws rs /\ KV kvs rs
 | [], _, r => by rw [List.map_nil] at r; cases r; exact ⟨[], True.intro, .nil⟩
 | p :: kvs, _, r => by
  rw [List.map_cons] at r
  cases r with
  | @cons a b as bs h t =>
   obtain ⟨rs, c, q⟩ := Jol (P := P) (w := w) t
   obtain ⟨b1, b2⟩ := b
   exact ⟨(p.1, b2) :: rs, ⟨Ju8 h.1, rfl, c⟩, .cons ⟨rfl, h.2⟩ q⟩
structure M1 (X : Cx) (o : Expr) (m : Str) (apos : Pos) (e : Expr) (cpos : Pos) : Prop where
 base : attributeBase o m X.env (eval o X.env) = eval o X.env
 few : ((backTo cpos (starEach [e] X.env)).all (λ x => !x.1) && (backToKw cpos (keywordEach [] X.env)).all (λ x => x.1.isSome)
  && decide (([e] : List Expr).length + ([] : List Keyword).length + (if ([] : List Keyword).isEmpty then 0 else 1) < 30)) = true
 line : (apos.endLine == cpos.line) = true
 trees : backTo cpos (starEach [e] X.env) = [(false, eval e X.env)]
structure M2 (X : Cx) (o : Expr) (m : Str) (apos : Pos) (e f : Expr) (cpos : Pos) : Prop where
 base : attributeBase o m X.env (eval o X.env) = eval o X.env
 few : ((backTo cpos (starEach [e, f] X.env)).all (λ x => !x.1) && (backToKw cpos (keywordEach [] X.env)).all (λ x => x.1.isSome)
  && decide (([e, f] : List Expr).length + ([] : List Keyword).length + (if ([] : List Keyword).isEmpty then 0 else 1) < 30)) = true
 line : (apos.endLine == cpos.line) = true
 trees : backTo cpos (starEach [e, f] X.env) = [(false, eval e X.env), (false, eval f X.env)]
section
variable {X : Cx} {pins : List (Addr × Obj)} {σ : St} {H : Hp} {s : Shared} {a : Addr} {y d : V} {u r : Value} {o : Option V} {A : Around} {E : Value -> Shared -> Prop}
end
section
variable {X : Cx} {o e f : Expr} {apos cpos : Pos} {td ty tx : TE}
end
section
variable {X : Cx} {pins : List (Addr × Obj)} {σ : St} {H : Hp} {s : Shared} {a : Addr} {kvs : List (Key × V)} {A : Around} {E : Value -> Shared -> Prop}
end
end L2
namespace Att
open PySem PySem.W PySem.Calls PyProof.Rows
theorem Jm3 {P : Params} {h : Heap} : ∀ (ns : List Int) (vs : List Value), WellAll P h vs (ns.map WData.int) -> IntsAre vs ns := by
 intro ns
 induction ns with
 | nil =>
  intro vs w
  rw [List.map_nil] at w
  cases w
  exact .nil
 | cons n ns ih =>
  intro vs w
  rw [List.map_cons] at w
  cases w with
  | cons a b =>
   cases a
   exact .cons _ _ (ih _ b)
theorem Jxv {l : OpenLaw} {n : Nat} (hn : l.most = some n) {P : Params} {h : Heap} {args : List WData} {vals : List Value}
  (hpre : l.row.toRowW.claim.pre args = true) (hwl : WellAll P h vals args) :
  ∃ a vs ns, vals = [Value.ref a] /\ args = [WData.list (ns.map WData.int)] /\ h.get? a = some { cls := .type "list", data := .seq vs.toArray } /\ IntsAre vs ns /\ ns.length <= n := by
 have hsh : WShape.hasAll [] args [.list .int] = true := (pre_splitW hpre).1
 have hc : l.pre.holds [] { args := args } = true := (pre_splitW hpre).2
 obtain ⟨d, r, rfl, h1, h2⟩ := hasAllW_cons hsh
 obtain rfl := hasAllW_nil h2
 obtain ⟨xs, rfl, h3⟩ := hasW_list h1
 obtain ⟨ns, rfl⟩ := items_int h3
 have hlen : ns.length <= n := by
  unfold OpenLaw.pre at hc
  have h4 : (WTm.not (.lt (.lit (.int (n : Int))) (.len (.arg 0)))).holds [] { args := [.list (ns.map .int)] } = true := by
   have h4 := (holds_andW hc).1
   rw [hn] at h4
   exact h4
  have h5 := condW_of h4 (w_not (w_lt w_lit (w_len_list (w_arg rfl))))
  rw [List.length_map] at h5
  refine Nat.le_of_not_lt λ q => ?_
  have q' : (n : Int) < ((ns.length : Nat) : Int) := by omega
  first
   | (rw [decide_eq_true q'] at h5; exact absurd h5 (by decide))
   | (simp at h5; omega)
 cases hwl with
 | cons w1 w2 =>
  cases w2
  cases w1 with
  | list ho hall => exact ⟨_, _, ns, rfl, rfl, ho, Jm3 ns _ hall, hlen⟩
theorem Jvr (l : OpenLaw) (args : List WData) : l.row.toRowW.claim.post args (.bool true) args = true :=
 postW_of (r := l.row.toRowW) (X := (true == true))
  (show WShape.has [] (.bool true) .bool = true by first | rfl | decide | simp [WShape.has, WShape.arms, WShape.armsAll])
  (show (WTm.eq .res (.lit (.bool true))).value [] { args := args, res := some (.bool true), after := args } = some (.bool (true == true)) from w_eq_bool (w_res rfl) w_lit) rfl
theorem attach_call {l : OpenLaw} {n : Nat} {q : Program} {loose : List Str} {XP : (Str -> Option Value) -> Heap -> Prop} {YP : World -> Heap -> Prop} {d : DefRec}
  (hn : l.most = some n) (hdf : d.params.defaults = [])
  (call : ∀ (w : World) (s₀ s₁ : Shared) (mg mb : Str -> Option Value) (fa : Addr) (o : Obj) (pm cd doc : Value) (a : Addr) (vs : List Value) (ns : List Int),
   Ground q loose [] XP w s₀ mg mb s₁.heap -> YP w s₁.heap ->
   s₁.heap.get? fa = some o -> o.data = .func (docDef d.name d.params d.body d.scope pm cd doc) -> s₁.heap.CodeRec cd d.name -> mg d.name = some (.ref fa) ->
   s₁.heap.get? a = some { cls := .type "list", data := .seq vs.toArray } -> IntsAre vs ns -> ns.length <= n -> s₁.gens = #[] ->
   codeAny (model l.prog w) callerA (.call (.ref fa) ⟨[.ref a], []⟩) (λ r s' => r = .ok (.ret (.bool true)) /\ OldK s₁.heap s'.heap /\ s'.os = s₁.os /\ AllBare s'.gens) s₁) :
  WalkO q loose XP YP l.row.toRowW d [] (λ f vs => PySem.call f vs) := by
 intro w s₀ s₁ mg mb G Y fa o pm cd doc dV kV ho hd hcd hD hmg hg args vals as hpre hlay hrd hwl hlo
 obtain rfl : dV = .none := Dflts.none hD hdf
 obtain rfl : kV = .none := Dflts.noKw hD
 obtain ⟨a, vs, ns, rfl, rfl, hobj, hints, hlen⟩ := Jxv hn hpre hwl
 refine enter_call (codeAny_mono (call w s₀ s₁ mg mb fa o pm cd doc a vs ns G Y ho (fd_plain hd) hcd hmg hobj hints hlen hg) λ r s' hq => ?_)
 obtain ⟨rfl, h2, h3, h4⟩ := hq
 exact ⟨.inl ⟨.bool true, .bool true, [], rfl, λ _ => rfl, .bool true, Jvr l _, λ _ => ⟨List.Pairwise.nil, λ _ hm => (nomatch hm)⟩⟩, h2, h3, h4⟩
section
variable {prog : Program} {w : World} {A : Around} {E : Value -> Shared -> Prop} {s : Shared} {K : Frag}
end
end Att
namespace L2
open PySem PySem.Spec PyProof.Rows
theorem Jc9 : ∀ {vs : List Value} {ns : List Int}, IntsAre vs ns -> Vals (ns.map V.int) vs
 | _, _, .nil => .nil
 | _, _, .cons n t h => .cons ⟨t, rfl⟩ (Jc9 h)
noncomputable def Only (H : Hp) : Prop := ∀ b, H b = none ∨ ∃ o xs, H b = some (.frz o (.lst xs))
theorem Jzi {P : Program} {w : World} {K : W.Frag} {mg mb : Str -> Option Value} {CX : CXT} {k : Nat} {fa a : Addr} {fd : FuncData} {x : Str} {sp : Sp} {s₁ : Shared} {vs : List Value} {ns : List Int}
  (KX : K.In s₁.heap) (hns : s₁.heap.Ns mainGlobals mg) (hb : s₁.heap.Ns builtinsNs mb) (hbb : ∀ x : Str, x ≠ "__name__" -> mb x = bootBuiltins x) (hlim : s₁.heap.NoLimit) (hg : s₁.gens = #[])
  (ha : s₁.heap.get? a = some { cls := .type "list", data := .seq vs.toArray }) (hi : IntsAre vs ns) (hl : ns.length <= sizeLine) (hr : Room k callerA)
  (F : ∀ base : Heap, K.In base -> base.Ns mainGlobals mg -> FnOk P w K mg base CX k fa fd [x] sp) (hbind : ∀ (s : Shared) (u : Value), BindsTo s fd ⟨[u], []⟩ [(x, u)])
  (hsp : ∀ H : Hp, Only H -> SqL K H a (ns.map V.int) -> sp [.ref a] H (λ v _ => v = .bl true) λ _ _ _ => False)
  (hCX : ∀ H e s', CX [] H s₁ (λ _ _ _ => False) e s' -> False) :
  codeAny (model P w) callerA (.call (.ref fa) ⟨[.ref a], []⟩) (λ r s' => r = .ok (.ret (.bool true)) /\ OldK s₁.heap s'.heap /\ s'.os = s₁.os /\ AllBare s'.gens) s₁ := by
 have rv := Jc9 hi
 have lenV := hi.length
 -- from an abstract heap in which nothing but the script may be tracked
 have core : ∀ H : Hp, Only H -> SqL K H a (ns.map V.int) -> HOk P w H s₁.heap -> (∀ b, H b ≠ none -> b = a) -> (H a ≠ none -> K.lookup a = none) ->
   codeAny (model P w) callerA (.call (.ref fa) ⟨[.ref a], []⟩) (λ r s' => r = .ok (.ret (.bool true)) /\ OldK s₁.heap s'.heap /\ s'.os = s₁.os /\ AllBare s'.gens) s₁ := by
  intro H hO hS hok hA hK
  have base_of : ∀ {b : Addr} {o : Obj}, s₁.heap.get? b = some o -> H b = none -> (hidT s₁.heap H).get? b = some o := λ e n => Jyk e n
  have noA : ∀ {b : Addr} {o : Obj} {es : Array DictEntry} {ep : Nat}, s₁.heap.get? b = some o -> o.data = .dict es ep -> H b = none := λ {b o es ep} e d => by
   cases q : H b with
   | none => rfl
   | some u =>
    have e' : b = a := hA b (by rw [q]; simp)
    subst e'
    rw [ha] at e; cases e
    have d' : Data.seq vs.toArray _ = Data.dict es ep := d
    cases d'
  have nsK : ∀ {b : Addr} {m : Str -> Option Value}, s₁.heap.Ns b m -> (hidT s₁.heap H).Ns b m := λ {b m} ⟨o, es, ep, e, d, r⟩ => ⟨o, es, ep, base_of e (noA e d), d, r⟩
  have hKb : K.In (hidT s₁.heap H) := λ b o e => base_of (KX b o e) (by
   cases q : H b with
   | none => rfl
   | some u =>
    have e' : b = a := hA b (by rw [q]; simp)
    subst e'
    rw [hK (by rw [q]; simp)] at e; cases e)
  have hM : Mod K mg (hidT s₁.heap H) := ⟨hKb, nsK hns, ⟨mb, nsK hb, hbb⟩, let ⟨mc, h1, h2⟩ := hlim; ⟨mc, nsK h1, h2⟩⟩
  have e0 : Env0 P w K mg (hidT s₁.heap H) callerA [] s₁ H := ⟨rfl, hM, λ b o e => J2s e, Nat.le_of_eq (Jxs _ _), trivial, λ b hb => absurd (show b ∈ ([] : List Addr) from hb) (by simp), hok, .of_eq hg⟩
  refine codeAny_mono ((F _ hKb (nsK hns)).run callerA [] s₁ H ⟨[.ref a], []⟩ [.ref a] [.ref a] _ _ hr e0 (hbind s₁ (.ref a)) (.cons rfl .nil) (hsp H hO hS)) λ r s' h => ?_
  cases r with
  | error e => exact (hCX H e s' h).elim
  | ok fl =>
   cases fl with
   | next => exact False.elim h
   | brk => exact False.elim h
   | cont => exact False.elim h
   | ret u =>
    obtain ⟨v, H', os, bare, un, hok', r', q⟩ := h
    have q' : v = .bl true := q
    subst q'
    obtain rfl : u = Value.bool true := r'
    refine ⟨rfl, OldK.of_keep λ b o e => ?_, os, bare⟩
    cases q : H b with
    | none => exact un.keep b o e q (by intro z; exact absurd (show b ∈ ([] : List Addr) from z) (by simp)) (by simp)
    | some u =>
     rcases hO b with z | ⟨ob, xs, z⟩
     ·rw [q] at z; cases z
     ·have z2 := un.frzs b ob _ z
      obtain ⟨e1, _⟩ := hok b _ z
      obtain ⟨e2, _⟩ := hok' b _ z2
      rw [e] at e1; cases e1
      exact e2
 cases hk : K.lookup a with
 | some o =>
  -- the script is one of the module's own objects
  have e := KX a o hk
  rw [ha] at e
  cases e
  refine core (λ _ => none) (λ _ => .inl rfl) (.inr ⟨_, vs.toArray, _, hk, rfl, rfl, rfl, by rw [List.size_toArray, lenV]; exact hl, by simpa using rv⟩) (λ b u z => by have z' : (none : Option HO) = some u := z; cases z') (λ b z => absurd rfl z) λ z => absurd rfl z
 | none =>
  refine core (λ b => if b = a then some (.frz { cls := .type "list", data := .seq vs.toArray } (.lst (ns.map V.int))) else none) (λ b => ?_) (.inl (.inr ⟨{ cls := .type "list", data := .seq vs.toArray }, if_pos rfl⟩)) (λ b u z => ?_) (λ b z => ?_) λ _ => hk
  ·by_cases hb : b = a
   ·exact .inr ⟨_, _, if_pos hb⟩
   ·exact .inl (if_neg hb)
  ·by_cases hb : b = a
   ·have z' := (if_pos hb).symm.trans z
    cases z'
    subst hb
    exact ⟨ha, by rw [List.length_map]; exact hl, vs, _, rv, ha⟩
   ·have z' := (if_neg hb).symm.trans z
    cases z'
  ·by_cases hb : b = a
   ·exact hb
   ·exact absurd (if_neg hb) z
end L2
namespace L2
open PySem PySem.Spec PyProof.Rows
theorem J2u {l : W.OpenLaw} {n k : Nat} {q : Program} {loose : List Str} {XP : (Str -> Option Value) -> Heap -> Prop} {YP : World -> Heap -> Prop} {d : DefRec} {K : Params -> W.Frag} {CX : World -> CXT} {sp : World -> Sp} {x : Str}
  (hn : l.most = some n) (hn2 : n <= sizeLine) (hdf : d.params.defaults = []) (hr : Room k callerA)
  (hY : ∀ (w : World) (h : Heap), YP w h -> (K w.params).In h)
  (F : ∀ (w : World) (mg : Str -> Option Value) (fa : Addr) (h : Heap), (K w.params).In h -> h.Ns mainGlobals mg -> mg d.name = some (.ref fa) ->
   ∃ fd : FuncData, (∀ (s : Shared) (u : Value), BindsTo s fd ⟨[u], []⟩ [(x, u)]) /\
    ∀ base : Heap, (K w.params).In base -> base.Ns mainGlobals mg -> FnOk l.prog w (K w.params) mg base (CX w) k fa fd [x] (sp w))
  (hsp : ∀ (w : World) (H : Hp) (a : Addr) (ns : List Int), ns.length <= n -> Only H -> SqL (K w.params) H a (ns.map V.int) -> sp w [.ref a] H (λ v _ => v = .bl true) λ _ _ _ => False)
  (hCX : ∀ (w : World) (H : Hp) (s : Shared) (e : Value) (s' : Shared), CX w [] H s (λ _ _ _ => False) e s' -> False) :
  W.WalkO q loose XP YP l.row.toRowW d [] (λ f vs => PySem.call f vs) := by
 refine Att.attach_call hn hdf λ w s₀ s₁ mg mb fa o pm cd doc a vs ns G Y ho hd hcd hmg hobj hints hlen hg => ?_
 have KX := hY w _ Y
 obtain ⟨fd, hb, hF⟩ := F w mg fa _ KX G.T.g hmg
 exact Jzi KX G.T.g G.T.b G.T.builtins G.T.nolimit hg hobj hints (Nat.le_trans hlen hn2) hr hF hb (λ H hO hS => hsp w H a ns hlen hO hS) λ H e s' => hCX w H s₁ e s'
end L2
namespace L2
open PySem PySem.Spec PyProof.Rows
noncomputable def Jad (s : Stmt) (j : Nat) : Stmt := match s with
 | .ClassDef _ _ _ body _ _ _ _ _ _ _ => body.getD j (.Pass ⟨0, 0, 0, 0⟩)
 | _ => .Pass ⟨0, 0, 0, 0⟩
noncomputable def Ja1 (s : Stmt) : Arguments := match s with
 | .FunctionDef _ a _ _ _ _ _ _ _ _ => a
 | _ => { posonlyargs := [], args := [], vararg := none, kwonlyargs := [], kw_defaults := [], kwarg := none, defaults := [] }
noncomputable def J4 (s : Stmt) : List Stmt := match s with
 | .FunctionDef _ _ b _ _ _ _ _ _ _ => b
 | _ => []
noncomputable def Ji (s : Stmt) : Scope := match s with
 | .FunctionDef _ _ _ _ _ _ sc _ _ _ => sc
 | _ => { kind := .function, names := [], isGenerator := false, isCoroutine := false }
noncomputable abbrev CX0 : CXT := λ _ _ _ _ _ _ => False
structure Fun (K : W.Frag) (x qual : Str) (st : Stmt) (f : Addr) (fd : FuncData) : Prop where
 ex : ∃ (oc : Value) (od : Option Addr) (kV doc pm : Value) (an : Option Addr) (cdv ct : Value) (osl : Array (Option Value)),
  fd = W.fnOf x qual (Ja1 st) (J4 st) (Ji st) .none kV doc pm an cdv ct /\ K.lookup f = some ⟨oc, od, .func fd, osl⟩ /\ W.codeIn K cdv qual = true
 kp : W.keepIn K (.ref f) = true
section
variable {P : Program} {w : World} {K : W.Frag} {mg : Str -> Option Value} {base : Heap}
theorem Fun.ok {x qual : Str} {st : Stmt} {f : Addr} {fd : FuncData} {N ps : List Str} {k : Nat} {sp : Sp} (F : Fun K x qual st f fd) (S : FnScope N ps (Ji st)) (len : ∀ vs H Q E, sp vs H Q E -> vs.length = ps.length)
  (hbody : ∀ (cdv : Value) (A : Around) (outer : List Env) (s : Shared) (H : Hp) (vs : List V) (Q : VK) (E : XK), Room k (A.deeper (envOfC qual (Ji st) s.heap.objs.size f cdv)) -> sp vs H Q E ->
   ∃ t, PSs (cxOf CX0 P w K mg base N qual (Ji st) f cdv A outer s H E).nox (J4 st) t /\ t { nx := λ _ H' => Q .non H', rt := Q } (start N vs) H) : FnOk P w K mg base CX0 (k + 1) f fd ps sp := by
 obtain ⟨oc, od, kV, doc, pm, an, cdv, ct, osl, rfl, lk, hcd⟩ := F.ex
 refine J4f lk hcd S len λ A outer s H vs Q E hr hsp => ?_
 obtain ⟨t, h, q⟩ := hbody cdv A outer s H vs Q E hr hsp
 exact ⟨t, h.nox, q⟩
theorem Fun.binds {x qual : Str} {st : Stmt} {f : Addr} {fd : FuncData} {ps : List Str} (F : Fun K x qual st f fd)
  (h : ∀ (kV doc pm : Value) (an : Option Addr) (cdv ct : Value) (us : List Value), us.length = ps.length -> bindArgs (W.fnOf x qual (Ja1 st) (J4 st) (Ji st) .none kV doc pm an cdv ct) ⟨us, []⟩ = pure (ps.zip us)) : Jgr K fd ps [] := by
 obtain ⟨oc, od, kV, doc, pm, an, cdv, ct, osl, rfl, lk, hcd⟩ := F.ex
 exact .all (h kV doc pm an cdv ct)
end
section
variable {X : Cx}
end
noncomputable def Same (H H' : Hp) : Prop := ∀ b o, H b = some o -> H' b = some o
theorem Same.refl (H : Hp) : Same H H := λ _ _ h => h
theorem Same.trans {H H1 H2 : Hp} (a : Same H H1) (b : Same H1 H2) : Same H H2 := λ c o h => b c o (a c o h)
theorem Same.free {H H' : Hp} (e : Same H H') {l : Addr} (h : H' l = Option.none) : H l = Option.none := by
 cases q : H l with
 | none => rfl
 | some o =>
  rw [e l o q] at h
  cases h
theorem Same.seq {K : W.Frag} {H H' : Hp} {a : Addr} {xs : List V} (e : Same H H') (h : SqL K H a xs) : SqL K H' a xs := by
 rcases h with (h | ⟨o, h⟩) | h
 ·exact .inl (.inl (e _ _ h))
 ·exact .inl (.inr ⟨o, e _ _ h⟩)
 ·exact .inr h
end L2
set_option maxHeartbeats 4000000
namespace L3
open PySem PySem.Spec PyProof.Rows L2
inductive IV where
 | non | bl (b : Bool) | int (i : Int) | str (x : Str) | tup (xs : List IV) | rol (xs : List IV) | ref (i : Nat)
inductive IO where
 | lst (xs : List IV)
 | ins (c : Str) (fs : List (Str × IV))
 | dct (kvs : List (Key × IV))
 | exc (c : Str) (fs : List (Str × IV))
 | tab (q : Str)
noncomputable abbrev IH := List IO
noncomputable abbrev ISt := List (Option IV)
inductive Res (α : Type) where
 | ok (a : α) (h : IH) | exc (n : Nat) (h : IH) | stuck
noncomputable def Res.bind {α β : Type} : Res α -> (α -> IH -> Res β) -> Res β
 | .ok a h, f => f a h
 | .exc n h, _ => .exc n h
 | .stuck, _ => .stuck
inductive SRes where
 | next (σ : ISt) (h : IH) | ret (v : IV) (h : IH) | brk (σ : ISt) (h : IH) | cont (σ : ISt) (h : IH) | exc (n : Nat) (σ : ISt) (h : IH) | stuck
noncomputable def SqR (K : W.Frag) (H : Hp) (a : Addr) (xs : List V) : Prop :=
 (∃ o, H a = some (.frz o (.lst xs))) ∨
  ∃ (o : Obj) (its : Array Value) (n : Nat), K.lookup a = some o /\ o.cls = .type "list" /\ o.dict = none /\ o.data = .seq its n /\ its.size <= sizeLine /\ Vals xs its.toList
theorem SqR.sq {K : W.Frag} {H : Hp} {a : Addr} {xs : List V} (h : SqR K H a xs) : SqL K H a xs := by
 rcases h with ⟨o, h⟩ | h
 ·exact .inl (.inr ⟨o, h⟩)
 ·exact .inr h
mutual
noncomputable def RV (K : W.Frag) (ι : List Addr) (H : Hp) : IV -> V -> Prop
 | .non, v => v = .non
 | .bl b, v => v = .bl b
 | .int i, v => v = .int i
 | .str x, v => v = .str x
 | .tup xs, v => ∃ a vs, v = .ref a /\ SqT K H a vs /\ RVs K ι H xs vs
 | .rol xs, v => ∃ a vs, v = .ref a /\ SqR K H a vs /\ RVs K ι H xs vs
 | .ref i, v => ∃ a, v = .ref a /\ ι[i]? = some a
noncomputable def RVs (K : W.Frag) (ι : List Addr) (H : Hp) : List IV -> List V -> Prop
 | [], vs => vs = []
 | x :: xs, vs => ∃ v r, vs = v :: r /\ RV K ι H x v /\ RVs K ι H xs r
end
structure Ext (H H' : Hp) : Prop where
 tups : ∀ b xs, H b = some (.tup xs) -> H' b = some (.tup xs)
 frzs : ∀ b o u, H b = some (.frz o u) -> H' b = some (.frz o u)
structure Nxt (ι : List Addr) (H : Hp) (ι' : List Addr) (H' : Hp) : Prop where
 pre : ∃ m, ι' = ι ++ m
 ext : Ext H H'
theorem Nxt.refl {ι : List Addr} {H : Hp} : Nxt ι H ι H := ⟨⟨[], by simp⟩, ⟨λ _ _ h => h, λ _ _ _ h => h⟩⟩
theorem Nxt.trans {ι ι1 ι2 : List Addr} {H H1 H2 : Hp} (a : Nxt ι H ι1 H1) (b : Nxt ι1 H1 ι2 H2) : Nxt ι H ι2 H2 := by
 obtain ⟨⟨m, e⟩, x⟩ := a
 obtain ⟨⟨m', e'⟩, y⟩ := b
 exact ⟨⟨m ++ m', by rw [e', e, List.append_assoc]⟩, ⟨λ b xs h => y.tups b xs (x.tups b xs h), λ b o u h => y.frzs b o u (x.frzs b o u h)⟩⟩
theorem Nxt.at {ι ι' : List Addr} {H H' : Hp} (n : Nxt ι H ι' H') {i : Nat} {a : Addr} (h : ι[i]? = some a) : ι'[i]? = some a := by
 obtain ⟨⟨m, e⟩, _⟩ := n
 subst e
 rw [List.getElem?_append_left (List.getElem?_eq_some_iff.mp h).1]
 exact h
theorem Ext.rd {H H' : Hp} (x : Ext H H') {a : Addr} {xs : List V} (h : Rd H a (.tup xs)) : Rd H' a (.tup xs) := by
 rcases h with h | ⟨o, h⟩
 ·exact .inl (x.tups _ _ h)
 ·exact .inr ⟨o, x.frzs _ _ _ h⟩
theorem Ext.sqT {K : W.Frag} {H H' : Hp} (x : Ext H H') {a : Addr} {xs : List V} (h : SqT K H a xs) : SqT K H' a xs := by
 rcases h with h | h
 ·exact .inl (x.rd h)
 ·exact .inr h
theorem Ext.sqR {K : W.Frag} {H H' : Hp} (x : Ext H H') {a : Addr} {xs : List V} (h : SqR K H a xs) : SqR K H' a xs := by
 rcases h with ⟨o, h⟩ | h
 ·exact .inl ⟨o, x.frzs _ _ _ h⟩
 ·exact .inr h
mutual
theorem RV.mono {K : W.Frag} {ι ι' : List Addr} {H H' : Hp} (n : Nxt ι H ι' H') : ∀ (x : IV) (v : V), RV K ι H x v -> RV K ι' H' x v
 | .non, _, h => h
 | .bl _, _, h => h
 | .int _, _, h => h
 | .str _, _, h => h
 | .tup xs, _, h => by
  obtain ⟨a, vs, e, q, r⟩ := h
  exact ⟨a, vs, e, n.ext.sqT q, RVs.mono n xs vs r⟩
 | .rol xs, _, h => by
  obtain ⟨a, vs, e, q, r⟩ := h
  exact ⟨a, vs, e, n.ext.sqR q, RVs.mono n xs vs r⟩
 | .ref i, _, h => by
  obtain ⟨a, e, q⟩ := h
  exact ⟨a, e, n.at q⟩
theorem RVs.mono {K : W.Frag} {ι ι' : List Addr} {H H' : Hp} (n : Nxt ι H ι' H') : ∀ (xs : List IV) (vs : List V), RVs K ι H xs vs -> RVs K ι' H' xs vs
 | [], _, h => h
 | x :: xs, _, h => by
  obtain ⟨v, r, e, q, t⟩ := h
  exact ⟨v, r, e, RV.mono n x v q, RVs.mono n xs r t⟩
end
theorem RVs.length {K : W.Frag} {ι : List Addr} {H : Hp} : ∀ {xs : List IV} {vs : List V}, RVs K ι H xs vs -> vs.length = xs.length
 | [], _, h => by
  have e : _ = [] := h
  subst e
  rfl
 | x :: xs, _, h => by
  obtain ⟨v, r, e, _, t⟩ := h
  subst e
  simp [RVs.length t]
theorem RVs.get {K : W.Frag} {ι : List Addr} {H : Hp} : ∀ {xs : List IV} {vs : List V} {i : Nat} {x : IV}, RVs K ι H xs vs -> xs[i]? = some x -> ∃ v, vs[i]? = some v /\ RV K ι H x v
 | [], _, _, _, _, e => by simp at e
 | x :: xs, _, 0, y, h, e => by
  obtain ⟨v, r, e1, q, t⟩ := h
  subst e1
  simp at e
  subst e
  exact ⟨v, rfl, q⟩
 | x :: xs, _, i + 1, y, h, e => by
  obtain ⟨v, r, e1, q, t⟩ := h
  subst e1
  obtain ⟨u, h1, h2⟩ := RVs.get (i := i) (x := y) t (by simpa using e)
  exact ⟨u, by simpa using h1, h2⟩
theorem RVs.append {K : W.Frag} {ι : List Addr} {H : Hp} : ∀ {xs ys : List IV} {vs us : List V}, RVs K ι H xs vs -> RVs K ι H ys us -> RVs K ι H (xs ++ ys) (vs ++ us)
 | [], _, _, _, h, g => by
  have e : _ = [] := h
  subst e
  exact g
 | x :: xs, _, _, _, h, g => by
  obtain ⟨v, r, e, q, t⟩ := h
  subst e
  exact ⟨v, _, rfl, q, RVs.append t g⟩
theorem RVs.take {K : W.Frag} {ι : List Addr} {H : Hp} : ∀ {xs : List IV} {vs : List V} (n : Nat), RVs K ι H xs vs -> RVs K ι H (xs.take n) (vs.take n)
 | _, _, 0, _ => by simp; exact rfl
 | [], _, n + 1, h => by
  have e : _ = [] := h
  subst e
  exact rfl
 | x :: xs, _, n + 1, h => by
  obtain ⟨v, r, e, q, t⟩ := h
  subst e
  exact ⟨v, r.take n, rfl, q, RVs.take n t⟩
theorem RVs.drop {K : W.Frag} {ι : List Addr} {H : Hp} : ∀ {xs : List IV} {vs : List V} (n : Nat), RVs K ι H xs vs -> RVs K ι H (xs.drop n) (vs.drop n)
 | _, _, 0, h => h
 | [], _, n + 1, h => by
  have e : _ = [] := h
  subst e
  exact rfl
 | x :: xs, _, n + 1, h => by
  obtain ⟨v, r, e, q, t⟩ := h
  subst e
  exact RVs.drop n t
theorem RVs.set {K : W.Frag} {ι : List Addr} {H : Hp} {x : IV} {v : V} (q : RV K ι H x v) : ∀ {xs : List IV} {vs : List V} (i : Nat), RVs K ι H xs vs -> RVs K ι H (xs.set i x) (vs.set i v)
 | [], _, _, h => by
  have e : _ = [] := h
  subst e
  exact rfl
 | y :: xs, _, 0, h => by
  obtain ⟨u, r, e, _, t⟩ := h
  subst e
  exact ⟨v, r, rfl, q, t⟩
 | y :: xs, _, i + 1, h => by
  obtain ⟨u, r, e, p, t⟩ := h
  subst e
  exact ⟨u, r.set i v, rfl, p, RVs.set q i t⟩
theorem RVs.one {K : W.Frag} {ι : List Addr} {H : Hp} {x : IV} {v : V} (q : RV K ι H x v) : RVs K ι H [x] [v] := ⟨v, [], rfl, q, rfl⟩
theorem RVs.ints {K : W.Frag} {ι : List Addr} {H : Hp} : ∀ (ns : List Int), RVs K ι H (ns.map IV.int) (ns.map V.int)
 | [] => rfl
 | _ :: ns => ⟨_, _, rfl, rfl, RVs.ints ns⟩
noncomputable def RPs {κ : Type} (K : W.Frag) (ι : List Addr) (H : Hp) : List (κ × IV) -> List (κ × V) -> Prop
 | [], vs => vs = []
 | x :: xs, vs => ∃ v r, vs = (x.1, v) :: r /\ RV K ι H x.2 v /\ RPs K ι H xs r
theorem RPs.mono {κ : Type} {K : W.Frag} {ι ι' : List Addr} {H H' : Hp} (n : Nxt ι H ι' H') : ∀ (xs : List (κ × IV)) (vs : List (κ × V)), RPs K ι H xs vs -> RPs K ι' H' xs vs
 | [], _, h => h
 | x :: xs, _, h => by
  obtain ⟨v, r, e, q, t⟩ := h
  exact ⟨v, r, e, RV.mono n _ v q, RPs.mono n xs r t⟩
theorem RPs.length {κ : Type} {K : W.Frag} {ι : List Addr} {H : Hp} : ∀ {xs : List (κ × IV)} {vs : List (κ × V)}, RPs K ι H xs vs -> vs.length = xs.length
 | [], _, h => by
  have e : _ = [] := h
  subst e
  rfl
 | x :: xs, _, h => by
  obtain ⟨v, r, e, _, t⟩ := h
  subst e
  simp [RPs.length t]
theorem RPs.lookup {κ : Type} [BEq κ] {K : W.Frag} {ι : List Addr} {H : Hp} {f : κ} : ∀ {xs : List (κ × IV)} {vs : List (κ × V)}, RPs K ι H xs vs ->
  (∀ x, xs.lookup f = some x -> ∃ v, vs.lookup f = some v /\ RV K ι H x v) /\ (xs.lookup f = none -> vs.lookup f = none)
 | [], _, h => by
  have e : _ = [] := h
  subst e
  exact ⟨λ x e => by simp at e, λ _ => rfl⟩
 | (k, x) :: xs, _, h => by
  obtain ⟨v, r, e, q, t⟩ := h
  subst e
  have ih := RPs.lookup (f := f) t
  simp only [List.lookup_cons]
  cases hb : f == k with
  | true => exact ⟨λ y e => by cases e; exact ⟨v, rfl, q⟩, λ e => by cases e⟩
  | false => exact ih
noncomputable def Jo2 (H : Hp) (q : Str) (cv : Value) : Prop := ∃ c oc vs t, cv = .ref c /\ H c = some (.frz oc (.own 0)) /\ oc.data = .fields vs /\ vs[1]? = some (.str (q ++ ".<locals>." ++ "<lambda>") t)
noncomputable def TabO (K : W.Frag) (H : Hp) (q : Str) (a : Addr) : Prop := (∀ cdv, W.codeIn K cdv q = true -> ∃ c, cdv = .ref c /\ W.codeHdIn K c a = true) /\
 ∃ ps, H a = some (.tbl ps) /\ TriplesOk ps.toList /\ ∀ pos cv, codeAmong pos ps.toList = some cv -> Jo2 H q cv
theorem TabO.mono {K : W.Frag} {H H' : Hp} {q : Str} {a : Addr} (fz : ∀ b o u, H b = some (.frz o u) -> H' b = some (.frz o u)) (k : ∀ u, H a = some u -> H' a = some u) (h : TabO K H q a) : TabO K H' q a := by
 obtain ⟨h1, ps, e, ht, hc⟩ := h
 refine ⟨h1, ps, k _ e, ht, λ pos cv q => ?_⟩
 obtain ⟨c, oc, vs, t, e1, e2, r⟩ := hc pos cv q
 exact ⟨c, oc, vs, t, e1, fz _ _ _ e2, r⟩
noncomputable def ExF (a C : Addr) (tv : Value) : HO := .ext λ h => ∃ oe vs, h.get? a = some oe /\ oe.cls = .ref C /\ oe.data = .fields vs /\ vs[1]? = some tv
noncomputable def TvOk (H : Hp) (tv : Value) : Prop := tv = .none ∨ ∃ T oT ts, tv = .ref T /\ H T = some (.frz oT (.own 0)) /\ oT.data = .fields ts /\ ts[3]? = some .none
theorem TvOk.mono {H H' : Hp} {tv : Value} (fz : ∀ b o u, H b = some (.frz o u) -> H' b = some (.frz o u)) (h : TvOk H tv) : TvOk H' tv := by
 rcases h with h | ⟨T, oT, ts, e, q, r⟩
 ·exact .inl h
 ·exact .inr ⟨T, oT, ts, e, fz _ _ _ q, r⟩
noncomputable def RO (ce : Str -> Option Addr) (K : W.Frag) (ι : List Addr) (H : Hp) (a : Addr) : IO -> Prop
 | .lst xs => ∃ vs, H a = some (.lst vs) /\ RVs K ι H xs vs
 | .ins c fs => ∃ C dx vs, ce c = some C /\ H a = some (.ins C dx vs) /\ RPs K ι H fs vs
 | .dct kvs => ∃ vs, H a = some (.dK vs) /\ RPs K ι H kvs vs
 | .exc c fs => fs = [] /\ ∃ C tv, W.nsIn K mainGlobals c = some (some (.ref C)) /\ H a = some (ExF a C tv) /\ TvOk H tv
 | .tab q => TabO K H q a
theorem RO.some {ce : Str -> Option Addr} {K : W.Frag} {ι : List Addr} {H : Hp} {a : Addr} {o : IO} (h : RO ce K ι H a o) : ∃ u, H a = some u := by
 cases o with
 | lst xs => obtain ⟨vs, e, _⟩ := h; exact ⟨_, e⟩
 | ins c fs => obtain ⟨_, _, vs, _, e, _⟩ := h; exact ⟨_, e⟩
 | dct kvs => obtain ⟨vs, e, _⟩ := h; exact ⟨_, e⟩
 | exc c fs => obtain ⟨_, C, tv, _, e, _⟩ := h; exact ⟨_, e⟩
 | tab q => obtain ⟨_, ps, e, _⟩ := h; exact ⟨_, e⟩
theorem RO.mono {ce : Str -> Option Addr} {K : W.Frag} {ι ι' : List Addr} {H H' : Hp} {a : Addr} {o : IO} (n : Nxt ι H ι' H') (k : ∀ u, H a = Option.some u -> H' a = Option.some u) (h : RO ce K ι H a o) : RO ce K ι' H' a o := by
 cases o with
 | lst xs => obtain ⟨vs, e, r⟩ := h; exact ⟨vs, k _ e, RVs.mono n _ _ r⟩
 | ins c fs => obtain ⟨C, dx, vs, c1, e, r⟩ := h; exact ⟨C, dx, vs, c1, k _ e, RPs.mono n _ _ r⟩
 | dct kvs => obtain ⟨vs, e, r⟩ := h; exact ⟨vs, k _ e, RPs.mono n _ _ r⟩
 | exc c fs => obtain ⟨e0, C, tv, c1, e, r⟩ := h; exact ⟨e0, C, tv, c1, k _ e, r.mono n.ext.frzs⟩
 | tab q => exact TabO.mono n.ext.frzs k h
structure Rel (ce : Str -> Option Addr) (K : W.Frag) (ι : List Addr) (h : IH) (H : Hp) : Prop where
 len : ι.length = h.length
 nd : ι.Nodup
 at_ : ∀ (i : Nat) (o : IO), h[i]? = some o -> ∃ a, ι[i]? = some a /\ RO ce K ι H a o
section
variable {ce : Str -> Option Addr} {K : W.Frag} {ι : List Addr} {h : IH} {H : Hp}
theorem Rel.some (R : Rel ce K ι h H) {i : Nat} {a : Addr} (e : ι[i]? = some a) : ∃ u, H a = Option.some u := by
 have hi : i < h.length := by rw [<- R.len]; exact (List.getElem?_eq_some_iff.mp e).1
 obtain ⟨b, e', r⟩ := R.at_ i _ (List.getElem?_eq_getElem hi)
 rw [e] at e'
 cases e'
 exact r.some
theorem Rel.notin (R : Rel ce K ι h H) {l : Addr} (e : H l = none) : l ∉ ι := λ hl => by
 obtain ⟨i, hi, q⟩ := List.mem_iff_getElem.mp hl
 obtain ⟨u, hu⟩ := R.some (i := i) (a := l) (by rw [List.getElem?_eq_getElem hi, q])
 rw [e] at hu
 cases hu
theorem Ext.upd_new {l : Addr} {o : HO} (e : H l = none) : Ext H (upd H l o) :=
 ⟨λ b xs q => by rw [Jg (Jx q e)]; exact q, λ b o u q => by rw [Jg (Jx q e)]; exact q⟩
theorem Rel.grow {l : Addr} {o : HO} (R : Rel ce K ι h H) (e : H l = none) : Rel ce K ι h (upd H l o) /\ Nxt ι H ι (upd H l o) := by
 have n : Nxt ι H ι (upd H l o) := ⟨⟨[], by simp⟩, Ext.upd_new e⟩
 refine ⟨⟨R.len, R.nd, λ i u q => ?_⟩, n⟩
 obtain ⟨a, e1, r⟩ := R.at_ i u q
 exact ⟨a, e1, r.mono n λ w hw => by rw [Jg (Jx hw e)]; exact hw⟩
theorem Rel.alloc {l : Addr} {o : HO} {io : IO} (R : Rel ce K ι h H) (e : H l = none) (r : RO ce K (ι ++ [l]) (upd H l o) l io) : Rel ce K (ι ++ [l]) (h ++ [io]) (upd H l o) /\ Nxt ι H (ι ++ [l]) (upd H l o) := by
 have n : Nxt ι H (ι ++ [l]) (upd H l o) := ⟨⟨[l], rfl⟩, Ext.upd_new e⟩
 refine ⟨⟨by simp [R.len], ?_, λ i u q => ?_⟩, n⟩
 ·rw [List.nodup_append]
  refine ⟨R.nd, by simp, λ a ha b hb => ?_⟩
  have : b = l := by simpa using hb
  subst this
  rintro rfl
  exact R.notin e ha
 ·by_cases hi : i < h.length
  ·rw [List.getElem?_append_left hi] at q
   obtain ⟨a, e1, r1⟩ := R.at_ i u q
   exact ⟨a, n.at e1, r1.mono n λ w hw => by rw [Jg (Jx hw e)]; exact hw⟩
  ·have hi2 : i = h.length := by
    have := (List.getElem?_eq_some_iff.mp q).1
    simp at this
    omega
   subst hi2
   rw [List.getElem?_append_right (Nat.le_refl _)] at q
   simp at q
   subst q
   refine ⟨l, ?_, r⟩
   rw [<- R.len, List.getElem?_append_right (Nat.le_refl _)]
   simp
theorem Rel.inj (R : Rel ce K ι h H) {i j : Nat} {a : Addr} (e1 : ι[i]? = Option.some a) (e2 : ι[j]? = Option.some a) : i = j := by
 obtain ⟨h1, q1⟩ := List.getElem?_eq_some_iff.mp e1
 obtain ⟨h2, q2⟩ := List.getElem?_eq_some_iff.mp e2
 exact (List.getElem_inj R.nd).mp (q1.trans q2.symm)
theorem Ext.upd_mut {l : Addr} {o u : HO} (e : H l = Option.some u) (m : Mut (H l)) : Ext H (upd H l o) := by
 refine ⟨λ b xs q => ?_, λ b ob w q => ?_⟩
 ·by_cases hb : b = l
  ·subst hb
   rw [q] at m
   exact Zf m
  ·rw [Jg hb]; exact q
 ·by_cases hb : b = l
  ·subst hb
   rw [q] at m
   exact Zf m
  ·rw [Jg hb]; exact q
theorem Rel.write {i : Nat} {a : Addr} {o u : HO} {io : IO} (R : Rel ce K ι h H) (e : ι[i]? = Option.some a) (ha : H a = Option.some u) (m : Mut (H a)) (r : RO ce K ι (upd H a o) a io) : Rel ce K ι (h.set i io) (upd H a o) /\ Nxt ι H ι (upd H a o) := by
 have n : Nxt ι H ι (upd H a o) := ⟨⟨[], by simp⟩, Ext.upd_mut ha m⟩
 refine ⟨⟨by simp [R.len], R.nd, λ j w q => ?_⟩, n⟩
 by_cases hj : j = i
 ·subst hj
  have hl : j < h.length := by
   have := (List.getElem?_eq_some_iff.mp q).1
   simpa using this
  rw [List.getElem?_set_self hl] at q
  cases q
  exact ⟨a, e, r⟩
 ·rw [List.getElem?_set_ne (Ne.symm hj)] at q
  obtain ⟨b, e1, r1⟩ := R.at_ j w q
  refine ⟨b, e1, r1.mono n λ v hv => ?_⟩
  have : b ≠ a := by
   rintro rfl
   exact hj (R.inj e1 e)
  rw [Jg this]
  exact hv
end
end L3
namespace L3
open PySem PySem.Spec PyProof.Rows L2
structure RSt (K : W.Frag) (ι : List Addr) (H : Hp) (σi : ISt) (σ : L2.St) : Prop where
 len : σi.length = σ.length
 at_ : ∀ (j : Nat) (v : IV), σi[j]? = some (some v) -> ∃ u, σ[j]? = some (some u) /\ RV K ι H v u
theorem RSt.mono {K : W.Frag} {ι ι' : List Addr} {H H' : Hp} {σi : ISt} {σ : L2.St} (n : Nxt ι H ι' H') (r : RSt K ι H σi σ) : RSt K ι' H' σi σ :=
 ⟨r.len, λ j v e => let ⟨u, e1, q⟩ := r.at_ j v e; ⟨u, e1, RV.mono n _ _ q⟩⟩
theorem RSt.set {K : W.Frag} {ι : List Addr} {H : Hp} {σi : ISt} {σ : L2.St} (r : RSt K ι H σi σ) (i : Nat) {x : IV} {v : V} (q : RV K ι H x v) : RSt K ι H (σi.set i (some x)) (σ.set i (some v)) := by
 refine ⟨by simp [r.len], λ j w e => ?_⟩
 by_cases hj : j = i
 ·subst hj
  have hl : j < σi.length := by
   have := (List.getElem?_eq_some_iff.mp e).1
   simpa using this
  rw [List.getElem?_set_self hl] at e
  cases e
  exact ⟨v, by rw [List.getElem?_set_self (by rw [<- r.len]; exact hl)], q⟩
 ·rw [List.getElem?_set_ne (Ne.symm hj)] at e
  obtain ⟨u, e1, q1⟩ := r.at_ j w e
  exact ⟨u, by rw [List.getElem?_set_ne (Ne.symm hj)]; exact e1, q1⟩
structure Now (ce : Str -> Option Addr) (X : Cx) (pins : List (Addr × Obj)) (ι : List Addr) (σi : ISt) (h : IH) (σ : L2.St) (H : Hp) (s : Shared) : Prop where
 inv : Inv X pins σ H s
 rel : Rel ce X.K ι h H
 st : RSt X.K ι H σi σ
noncomputable def RU (K : W.Frag) (ι : List Addr) (H : Hp) (v : IV) (u : Value) : Prop := ∃ x, RelV x u /\ RV K ι H v x
theorem RU.mono {K : W.Frag} {ι ι' : List Addr} {H H' : Hp} {v : IV} {u : Value} (n : Nxt ι H ι' H') (r : RU K ι H v u) : RU K ι' H' v u :=
 let ⟨x, a, b⟩ := r; ⟨x, a, RV.mono n _ _ b⟩
noncomputable def RUs (K : W.Frag) (ι : List Addr) (H : Hp) (vs : List IV) (us : List Value) : Prop := ∃ xs, Vals xs us /\ RVs K ι H vs xs
theorem RUs.mono {K : W.Frag} {ι ι' : List Addr} {H H' : Hp} {v : List IV} {u : List Value} (n : Nxt ι H ι' H') (r : RUs K ι H v u) : RUs K ι' H' v u :=
 let ⟨x, a, b⟩ := r; ⟨x, a, RVs.mono n _ _ b⟩
noncomputable abbrev REL (α β : Type) := W.Frag -> List Addr -> Hp -> α -> β -> Prop
noncomputable def RB : REL Bool Bool := λ _ _ _ b c => c = b
section
variable {α β γ δ : Type}
noncomputable def Kont (ce : Str -> Option Addr) (X : Cx) (R : REL α β) (pins : List (Addr × Obj)) (ι : List Addr) (σi : ISt) (σ : L2.St) (H : Hp) (r : Res α) (Q : β -> Shared -> Prop) (E : Value -> Shared -> Prop) : Prop :=
 match r with
 | .ok v h' => ∀ u s' H' ι', Now ce X pins ι' σi h' σ H' s' -> Nxt ι H ι' H' -> R X.K ι' H' v u -> Q u s'
 | .exc n h' => ∀ pl a s' H' ι', Now ce X (pins ++ pl) ι' σi h' σ H' s' -> Nxt ι H ι' H' -> ι'[n]? = some a -> E (.ref a) s'
 | .stuck => False
variable {ce : Str -> Option Addr} {X : Cx} {R : REL α β} {R' : REL γ δ} {pins : List (Addr × Obj)} {ι ι' : List Addr} {σi : ISt} {σ : L2.St} {H H' : Hp}
theorem Kont.mono {r : Res α} {Q : β -> Shared -> Prop} {E : Value -> Shared -> Prop} (k : Kont ce X R pins ι σi σ H r Q E) (n : Nxt ι H ι' H') : Kont ce X R pins ι' σi σ H' r Q E := by
 cases r with
 | ok v h' => exact λ u s' H2 ι2 N n2 q => k u s' H2 ι2 N (n.trans n2) q
 | exc m h' => exact λ pl a s' H2 ι2 N n2 q => k pl a s' H2 ι2 N (n.trans n2) q
 | stuck => exact k
noncomputable def PX (ce : Str -> Option Addr) (X : Cx) (R : REL α β) (t : Sem β) (m : ISt -> IH -> Res α) : Prop :=
 ∀ (pins : List (Addr × Obj)) (s : Shared) (σ : L2.St) (H : Hp) (ι : List Addr) (σi : ISt) (h : IH) (Q : β -> Shared -> Prop) (E : Value -> Shared -> Prop), Now ce X pins ι σi h σ H s -> Kont ce X R pins ι σi σ H (m σi h) Q E ->
  wpAny (model X.prog X.w) X.A t Q E s
theorem PX.run {t : Sem β} {m : ISt -> IH -> Res α} (p : PX ce X R t m) {s : Shared} {h : IH} (N : Now ce X pins ι σi h σ H s) {g : α -> IH -> Res γ} {Q : δ -> Shared -> Prop} {E : Value -> Shared -> Prop} {Q1 : β -> Shared -> Prop}
  (K : Kont ce X R' pins ι σi σ H ((m σi h).bind g) Q E)
  (step : ∀ x h1 u s1 H1 ι1, Now ce X pins ι1 σi h1 σ H1 s1 -> Nxt ι H ι1 H1 -> R X.K ι1 H1 x u -> Kont ce X R' pins ι1 σi σ H1 (g x h1) Q E -> Q1 u s1) : wpAny (model X.prog X.w) X.A t Q1 E s := by
 refine p pins s σ H ι σi h Q1 E N ?_
 cases e : m σi h with
 | ok v h' =>
  rw [e] at K
  exact λ u s' H' ι' N' n' r => step v h' u s' H' ι' N' n' r (Kont.mono (r := g v h') K n')
 | exc n h' =>
  rw [e] at K
  exact K
 | stuck =>
  rw [e] at K
  exact K
end
noncomputable abbrev PEi (ce : Str -> Option Addr) (X : Cx) (e : Expr) (m : ISt -> IH -> Res IV) : Prop := PX ce X RU (eval e X.env) m
noncomputable abbrev PTi (ce : Str -> Option Addr) (X : Cx) (e : Expr) (m : ISt -> IH -> Res Bool) : Prop := PX ce X RB (isTrue e X.env (eval e X.env)) m
noncomputable def PWi (ce : Str -> Option Addr) (X : Cx) (e : Expr) (m : ISt -> IH -> Res Bool) : Prop := ∀ whole : Sem Value, PX ce X RB (isTrue e X.env whole) m
noncomputable def PAi (ce : Str -> Option Addr) (X : Cx) (es : List Expr) (m : ISt -> IH -> Res (List IV)) : Prop := ∀ pos : Pos, PX ce X RUs (spliced (backTo pos (starEach es X.env))) m
noncomputable abbrev E1 := ISt -> IH -> Res IV
noncomputable abbrev T1 := ISt -> IH -> Res Bool
noncomputable abbrev A1 := ISt -> IH -> Res (List IV)
noncomputable def eVar (i : Nat) : E1 := λ σ h => match σ[i]? with | some (some v) => .ok v h | _ => .stuck
noncomputable def eC (v : IV) : E1 := λ _ h => .ok v h
noncomputable def eBin (f : IV -> IV -> IH -> Res IV) (a b : E1) : E1 := λ σ h => (a σ h).bind λ x h1 => (b σ h1).bind λ y h2 => f x y h2
noncomputable def eUn (f : IV -> IH -> Res IV) (a : E1) : E1 := λ σ h => (a σ h).bind λ x h1 => f x h1
noncomputable def eAnd (a b : E1) (tr : IV -> IH -> Res Bool) : E1 := λ σ h => (a σ h).bind λ x h1 => (tr x h1).bind λ c h2 => if c then b σ h2 else .ok x h2
noncomputable def eOr (a b : E1) (tr : IV -> IH -> Res Bool) : E1 := λ σ h => (a σ h).bind λ x h1 => (tr x h1).bind λ c h2 => if c then .ok x h2 else b σ h2
noncomputable def eIf (t : T1) (a b : E1) : E1 := λ σ h => (t σ h).bind λ c h1 => if c then a σ h1 else b σ h1
noncomputable def Jtw (a b : T1) : T1 := λ σ h => (a σ h).bind λ c h1 => if c then b σ h1 else .ok false h1
noncomputable def tOrI (a b : T1) : T1 := λ σ h => (a σ h).bind λ c h1 => if c then .ok true h1 else b σ h1
noncomputable def Jb6 (a : T1) : T1 := λ σ h => (a σ h).bind λ c h1 => .ok (!c) h1
noncomputable def tOfB (tr : IV -> IH -> Res Bool) (a : E1) : T1 := λ σ h => (a σ h).bind λ x h1 => tr x h1
noncomputable def aNil : A1 := λ _ h => .ok [] h
noncomputable def Ja (a : E1) (r : A1) : A1 := λ σ h => (a σ h).bind λ x h1 => (r σ h1).bind λ xs h2 => .ok (x :: xs) h2
noncomputable def Je2 (f g : IV -> IV -> IH -> Res IV) (a b c : E1) : E1 := λ σ h => (a σ h).bind λ x h1 => (b σ h1).bind λ y h2 => (f x y h2).bind λ k h3 =>
 match k with
 | .bl true => (c σ h3).bind λ z h4 => g y z h4
 | .bl false => .ok (.bl false) h3
 | _ => .stuck
section
variable {ce : Str -> Option Addr} {X : Cx} {a b c : Expr} {ma mb mc : E1} {pos : Pos}
noncomputable def OpI (ce : Str -> Option Addr) (X : Cx) (f : Value -> Value -> Sem Value) (g : IV -> IV -> IH -> Res IV) : Prop :=
 ∀ (pins : List (Addr × Obj)) (s : Shared) (σ : L2.St) (H : Hp) (ι : List Addr) (σi : ISt) (h : IH) (x y : IV) (v u : Value) (Q : Value -> Shared -> Prop) (E : Value -> Shared -> Prop), Now ce X pins ι σi h σ H s -> RU X.K ι H x v -> RU X.K ι H y u ->
  Kont ce X RU pins ι σi σ H (g x y h) Q E -> wpAny (model X.prog X.w) X.A (f v u) Q E s
noncomputable def UnI (ce : Str -> Option Addr) (X : Cx) (f : Value -> Sem Value) (g : IV -> IH -> Res IV) : Prop :=
 ∀ (pins : List (Addr × Obj)) (s : Shared) (σ : L2.St) (H : Hp) (ι : List Addr) (σi : ISt) (h : IH) (x : IV) (v : Value) (Q : Value -> Shared -> Prop) (E : Value -> Shared -> Prop), Now ce X pins ι σi h σ H s -> RU X.K ι H x v ->
  Kont ce X RU pins ι σi σ H (g x h) Q E -> wpAny (model X.prog X.w) X.A (f v) Q E s
noncomputable def TrI (ce : Str -> Option Addr) (X : Cx) (g : IV -> IH -> Res Bool) : Prop :=
 ∀ (pins : List (Addr × Obj)) (s : Shared) (σ : L2.St) (H : Hp) (ι : List Addr) (σi : ISt) (h : IH) (x : IV) (v : Value) (Q : Bool -> Shared -> Prop) (E : Value -> Shared -> Prop), Now ce X pins ι σi h σ H s -> RU X.K ι H x v ->
  Kont ce X RB pins ι σi σ H (g x h) Q E -> wpAny (model X.prog X.w) X.A (truthy v) Q E s
noncomputable def Ji1 (ce : Str -> Option Addr) (X : Cx) (f : Value) (g : List IV -> IH -> Res IV) : Prop :=
 ∀ (pins : List (Addr × Obj)) (s : Shared) (σ : L2.St) (H : Hp) (ι : List Addr) (σi : ISt) (h : IH) (xs : List IV) (us : List Value) (Q : Value -> Shared -> Prop) (E : Value -> Shared -> Prop), Now ce X pins ι σi h σ H s -> RUs X.K ι H xs us ->
  Kont ce X RU pins ι σi σ H (g xs h) Q E -> wpAny (model X.prog X.w) X.A (call f us) Q E s
theorem Joc {pins : List (Addr × Obj)} {s : Shared} {σ : L2.St} {H : Hp} {Q : Value -> Shared -> Prop} {E : Value -> Shared -> Prop} {e : Expr} {t : TE} (p : PE (X.wish E) e t) (I : Inv X pins σ H s)
  (k : t σ H λ z H' => ∀ u s', Inv X pins σ H' s' -> RelV z u -> Q u s') : wpAny (model X.prog X.w) X.A (eval e X.env) Q E s :=
 wpAny_mono (p pins s σ H _ (I.wish E) k) (λ u s' ⟨_, _, I', r, q⟩ => q u s' I'.unwish r) λ _ _ z => z
theorem Jay {pins : List (Addr × Obj)} {s : Shared} {σ : L2.St} {H : Hp} {Q : Value -> Shared -> Prop} {E : Value -> Shared -> Prop} {f : Value -> Value -> Sem Value} {r : R2} {x y : V} {v u : Value} (p : OpR (X.wish E) f r) (I : Inv X pins σ H s) (rx : RelV x v) (ry : RelV y u)
  (k : r x y H λ z H' => ∀ u s', Inv X pins σ H' s' -> RelV z u -> Q u s') : wpAny (model X.prog X.w) X.A (f v u) Q E s :=
 wpAny_mono (p pins s σ H x y v u _ (I.wish E) rx ry k) (λ u s' ⟨_, _, I', r, q⟩ => q u s' I'.unwish r) λ _ _ z => z
theorem J4s {pins : List (Addr × Obj)} {s : Shared} {σ : L2.St} {H : Hp} {Q : Value -> Shared -> Prop} {E : Value -> Shared -> Prop} {f : Value -> Sem Value} {r : V -> Hp -> VK -> Prop} {x : V} {v : Value} (p : UnR (X.wish E) f r) (I : Inv X pins σ H s) (rx : RelV x v)
  (k : r x H λ z H' => ∀ u s', Inv X pins σ H' s' -> RelV z u -> Q u s') : wpAny (model X.prog X.w) X.A (f v) Q E s :=
 wpAny_mono (p pins s σ H x v _ (I.wish E) rx k) (λ u s' ⟨_, _, I', r, q⟩ => q u s' I'.unwish r) λ _ _ z => z
theorem Je7 {pins : List (Addr × Obj)} {s : Shared} {σ : L2.St} {H : Hp} {Q : Bool -> Shared -> Prop} {E : Value -> Shared -> Prop} {r : V -> Hp -> (Bool -> Hp -> Prop) -> Prop} {x : V} {v : Value} (p : TruR (X.wish E) r) (I : Inv X pins σ H s) (rx : RelV x v)
  (k : r x H λ z H' => ∀ s', Inv X pins σ H' s' -> Q z s') : wpAny (model X.prog X.w) X.A (truthy v) Q E s :=
 wpAny_mono (p pins s σ H x v _ (I.wish E) rx k) (λ _ s' ⟨_, I', q⟩ => q s' I'.unwish) λ _ _ z => z
theorem Jav {pins : List (Addr × Obj)} {s : Shared} {σ : L2.St} {H : Hp} {Q : Value -> Shared -> Prop} {E : Value -> Shared -> Prop} {f : Value} {r : List V -> Hp -> VK -> Prop} {xs : List V} {us : List Value} (p : Jtv (X.wish E) f r) (I : Inv X pins σ H s) (rx : Vals xs us)
  (k : r xs H λ z H' => ∀ u s', Inv X pins σ H' s' -> RelV z u -> Q u s') : wpAny (model X.prog X.w) X.A (call f us) Q E s :=
 wpAny_mono (p pins s σ H xs us _ (I.wish E) rx k) (λ u s' ⟨_, _, I', r, q⟩ => q u s' I'.unwish r) λ _ _ z => z
theorem J3p (i : Nat) {x : Str} {pos : Pos} (hN : X.N[i]? = some x := by rfl) (hv : Vis X.env.scope x := by assumption) (hd : (x == ("__debug__" : Str)) = false := by decide)
  (hcd : (x == ("__classdict__" : Str)) = false := by decide) : PEi ce X (.Name x pos) (eVar i) := by
 intro pins s σ H ι σi h Q E N K
 unfold eVar at K
 cases e : σi[i]? with
 | none =>
  rw [e] at K
  exact Zf K
 | some o =>
  cases o with
  | none =>
   rw [e] at K
   exact Zf K
  | some v =>
   rw [e] at K
   obtain ⟨u, e1, q⟩ := N.st.at_ i v e
   exact Joc (J4p (X := X.wish E) hN hv hd hcd) N.inv ⟨u, e1, λ u' s' I' r' => K u' s' H ι ⟨I', N.rel, N.st⟩ .refl ⟨u, r', q⟩⟩
theorem J4y {i j pos} : PEi ce X (.Constant (.int i) j pos) (eC (.int i)) := λ _ _ _ H ι _ _ _ E N K => Joc (J5w (X := X.wish E)) N.inv λ u' s' I' r' => K u' s' H ι ⟨I', N.rel, N.st⟩ .refl ⟨_, r', rfl⟩
theorem i_bl {i j pos} : PEi ce X (.Constant (.bool i) j pos) (eC (.bl i)) := λ _ _ _ H ι _ _ _ E N K => Joc (pe_bl (X := X.wish E)) N.inv λ u' s' I' r' => K u' s' H ι ⟨I', N.rel, N.st⟩ .refl ⟨_, r', rfl⟩
theorem J3v {j pos} : PEi ce X (.Constant .none j pos) (eC .non) := λ _ _ _ H ι _ _ _ E N K => Joc (J3f (X := X.wish E)) N.inv λ u' s' I' r' => K u' s' H ι ⟨I', N.rel, N.st⟩ .refl ⟨_, r', rfl⟩
theorem J4k {i j pos} : PEi ce X (.Constant (.str i) j pos) (eC (.str i)) := λ _ _ _ H ι _ _ _ E N K => Joc (J5b (X := X.wish E)) N.inv λ u' s' I' r' => K u' s' H ι ⟨I', N.rel, N.st⟩ .refl ⟨_, r', rfl⟩
theorem J3s {x : Str} {v : V} {iv : IV} {u : Value} {pos : Pos} (hg : Gl X x) (hm : X.mg x = some u) (r : RelV v u) (q : ∀ ι H, RV X.K ι H iv v) (hd : (x == ("__debug__" : Str)) = false := by decide) : PEi ce X (.Name x pos) (eC iv) :=
 λ _ _ _ H ι _ _ _ E N K => Joc (J2o (X := X.wish E) hg hm r hd) N.inv λ u' s' I' r' => K u' s' H ι ⟨I', N.rel, N.st⟩ .refl ⟨_, r', q _ _⟩
theorem i_bin {op : Operator} {f : IV -> IV -> IH -> Res IV} (ho : OpI ce X (binaryOp op) f) (ha : PEi ce X a ma) (hb : PEi ce X b mb) : PEi ce X (.BinOp a op b pos) (eBin f ma mb) :=
 λ pins s σ H ι σi h Q E N K => wpAny_BinOp (ha.run N K λ x h1 u s1 H1 ι1 N1 n1 r1 K1 => hb.run N1 K1 λ y h2 w s2 H2 ι2 N2 n2 r2 K2 => ho pins s2 σ H2 ι2 σi h2 x y u w Q E N2 (r1.mono n2) r2 K2)
theorem i_un {op : UnaryOp} {f : IV -> IH -> Res IV} (ho : UnI ce X (unaryOp op) f) (ha : PEi ce X a ma) : PEi ce X (.UnaryOp op a pos) (eUn f ma) :=
 λ pins s σ H ι σi h Q E N K => UnaryOp_ (ha.run N K λ x h1 u s1 H1 ι1 N1 n1 r1 K1 => ho pins s1 σ H1 ι1 σi h1 x u Q E N1 r1 K1)
theorem i_cmp {op : CmpOp} {f : IV -> IV -> IH -> Res IV} (ho : OpI ce X (compareOp op) f) (ha : PEi ce X a ma) (hb : PEi ce X b mb) (hm : behindInMarks op b = false := by assumption) : PEi ce X (.Compare a [op] [b] pos) (eBin f ma mb) :=
 λ pins s σ H ι σi h Q E N K => wpAny_Compare1 (ha.run N K λ x h1 u s1 H1 ι1 N1 n1 r1 K1 => hb.run N1 K1 λ y h2 w s2 H2 ι2 N2 n2 r2 K2 => ho pins s2 σ H2 ι2 σi h2 x y u w Q E N2 (r1.mono n2) r2 K2) hm
noncomputable def asB : IV -> IH -> Res Bool
 | .bl b, h => .ok b h
 | _, _ => .stuck
theorem Kont.asB {pins : List (Addr × Obj)} {σ : L2.St} {H : Hp} {ι : List Addr} {σi : ISt} {r : Res IV} {Q : Bool -> Shared -> Prop} {E : Value -> Shared -> Prop} (K : Kont ce X RB pins ι σi σ H (r.bind asB) Q E) :
  Kont ce X RU pins ι σi σ H r (λ v s => wpAny (model X.prog X.w) X.A (truthy v) Q E s) E := by
 cases r with
 | exc n h => exact K
 | stuck => exact K
 | ok v h =>
  intro u s' H' ι' N n q
  obtain ⟨x, rx, q⟩ := q
  cases v with
  | bl b =>
   have e : x = .bl b := q
   subst e
   cases rx
   exact wpAny_truthy_bool (K b s' H' ι' N n rfl)
  | _ => exact Zf K
theorem Res.bind_bind {α β γ : Type} (r : Res α) (f : α -> IH -> Res β) (g : β -> IH -> Res γ) : (r.bind f).bind g = r.bind λ x h => (f x h).bind g := by
 cases r <;> rfl
theorem t_cmp {op : CmpOp} {f : IV -> IV -> IH -> Res IV} (ho : OpI ce X (compareOp op) f) (ha : PEi ce X a ma) (hb : PEi ce X b mb) (hm : behindInMarks op b = false := by assumption) : PTi ce X (.Compare a [op] [b] pos) (tOfB asB (eBin f ma mb)) :=
 λ pins s σ H ι σi h Q E N K => by
  have K' : Kont ce X RB pins ι σi σ H ((ma σi h).bind λ x h1 => (mb σi h1).bind λ y h2 => (f x y h2).bind asB) Q E := by
   unfold tOfB eBin at K
   rw [Res.bind_bind] at K
   simp only [Res.bind_bind] at K
   exact K
  exact wpAny_isTrue_Compare1 (ha.run N K' λ x h1 u s1 H1 ι1 N1 n1 r1 K1 => hb.run N1 K1 λ y h2 w s2 H2 ι2 N2 n2 r2 K2 => ho pins s2 σ H2 ι2 σi h2 x y u w _ E N2 (r1.mono n2) r2 (Kont.asB K2)) hm
theorem J24 {tr : IV -> IH -> Res Bool} (ht : TrI ce X tr) (ha : PEi ce X a ma) (he : ∀ whole, isTrue a X.env whole = (do let v <- whole; standAt a.pos; holding [v] (truthy v)) := by intro _; rfl) : PTi ce X a (tOfB tr ma) :=
 λ pins s σ H ι σi h Q E N K => isTrue_plain (ha.run N K λ x h1 u s1 H1 ι1 N1 n1 r1 K1 => ht pins s1 σ H1 ι1 σi h1 x u Q E N1 r1 K1) (he _)
variable {rest : List Expr} {ta tb : T1}
theorem J18 (ha : PTi ce X a ta) : PWi ce X (.BoolOp .And [a] pos) ta := λ wh pins s σ H ι σi h Q E N K => by
 refine isTrue_and (ha pins s σ H ι σi h _ E N ?_)
 cases e : ta σi h with
 | ok v h' =>
  rw [e] at K
  intro u s' H' ι' N' n' r
  have r' : u = v := r
  subst r'
  cases u with
  | true => exact isTrue_and_nil (K true s' H' ι' N' n' rfl)
  | false => exact K false s' H' ι' N' n' rfl
 | exc n h' => rw [e] at K; exact K
 | stuck => rw [e] at K; exact K
theorem J3z (ha : PTi ce X a ta) : PWi ce X (.BoolOp .Or [a] pos) ta := λ wh pins s σ H ι σi h Q E N K => by
 refine isTrue_or (ha pins s σ H ι σi h _ E N ?_)
 cases e : ta σi h with
 | ok v h' =>
  rw [e] at K
  intro u s' H' ι' N' n' r
  have r' : u = v := r
  subst r'
  cases u with
  | false => exact isTrue_or_nil (K false s' H' ι' N' n' rfl)
  | true => exact K true s' H' ι' N' n' rfl
 | exc n h' => rw [e] at K; exact K
 | stuck => rw [e] at K; exact K
theorem J3r (ha : PTi ce X a ta) (hb : PWi ce X (.BoolOp .And (b :: rest) pos) tb) : PWi ce X (.BoolOp .And (a :: b :: rest) pos) (Jtw ta tb) := λ wh pins s σ H ι σi h Q E N K =>
 isTrue_and (ha.run N K λ c h1 u s1 H1 ι1 N1 n1 r1 K1 => by
  have r' : u = c := r1
  subst r'
  cases u with
  | true => exact hb wh pins s1 σ H1 ι1 σi h1 Q E N1 K1
  | false => exact K1 false s1 H1 ι1 N1 .refl rfl)
theorem tw_or (ha : PTi ce X a ta) (hb : PWi ce X (.BoolOp .Or (b :: rest) pos) tb) : PWi ce X (.BoolOp .Or (a :: b :: rest) pos) (tOrI ta tb) := λ wh pins s σ H ι σi h Q E N K =>
 isTrue_or (ha.run N K λ c h1 u s1 H1 ι1 N1 n1 r1 K1 => by
  have r' : u = c := r1
  subst r'
  cases u with
  | false => exact hb wh pins s1 σ H1 ι1 σi h1 Q E N1 K1
  | true => exact K1 true s1 H1 ι1 N1 .refl rfl)
theorem PWi.t (h : PWi ce X a ta) : PTi ce X a ta := h _
theorem J4u (ha : PTi ce X a ta) : PTi ce X (.UnaryOp .Not a pos) (Jb6 ta) := λ pins s σ H ι σi h Q E N K =>
 isTrue_not (ha.run N K λ c h1 u s1 H1 ι1 N1 n1 r1 K1 => by
  have r' : u = c := r1
  subst r'
  exact K1 (!u) s1 H1 ι1 N1 .refl rfl)
theorem J31 {op} (h : PEi ce X a ma) : PEi ce X (.BoolOp op [a] pos) ma := λ pins s σ H ι σi h' Q E N K => BoolOp_one (h pins s σ H ι σi h' Q E N K)
theorem i_and {tr : IV -> IH -> Res Bool} (ht : TrI ce X tr) (ha : PEi ce X a ma) (hb : PEi ce X (.BoolOp .And (b :: rest) pos) mb) : PEi ce X (.BoolOp .And (a :: b :: rest) pos) (eAnd ma mb tr) := λ pins s σ H ι σi h Q E N K =>
 BoolOp_and (ha.run N K λ x h1 u s1 H1 ι1 N1 n1 r1 K1 => by
  refine ht pins s1 σ H1 ι1 σi h1 x u _ E N1 r1 ?_
  cases e : tr x h1 with
  | ok c h2 =>
   rw [e] at K1
   intro d s2 H2 ι2 N2 n2 r2
   have r' : d = c := r2
   subst r'
   have K2 := Kont.mono (r := if d = true then mb σi h2 else .ok x h2) K1 n2
   cases d with
   | true => exact hb pins s2 σ H2 ι2 σi h2 Q E N2 K2
   | false => exact K2 u s2 H2 ι2 N2 .refl (r1.mono n2)
  | exc n h' => rw [e] at K1; exact K1
  | stuck => rw [e] at K1; exact K1)
theorem i_or {tr : IV -> IH -> Res Bool} (ht : TrI ce X tr) (ha : PEi ce X a ma) (hb : PEi ce X (.BoolOp .Or (b :: rest) pos) mb) : PEi ce X (.BoolOp .Or (a :: b :: rest) pos) (eOr ma mb tr) := λ pins s σ H ι σi h Q E N K =>
 BoolOp_or (ha.run N K λ x h1 u s1 H1 ι1 N1 n1 r1 K1 => by
  refine ht pins s1 σ H1 ι1 σi h1 x u _ E N1 r1 ?_
  cases e : tr x h1 with
  | ok c h2 =>
   rw [e] at K1
   intro d s2 H2 ι2 N2 n2 r2
   have r' : d = c := r2
   subst r'
   have K2 := Kont.mono (r := if d = true then .ok x h2 else mb σi h2) K1 n2
   cases d with
   | false => exact hb pins s2 σ H2 ι2 σi h2 Q E N2 K2
   | true => exact K2 u s2 H2 ι2 N2 .refl (r1.mono n2)
  | exc n h' => rw [e] at K1; exact K1
  | stuck => rw [e] at K1; exact K1)
noncomputable def Jub (tr : IV -> IH -> Res Bool) : IV -> IH -> Res IV := λ x h => (tr x h).bind λ c h1 => .ok (.bl (!c)) h1
theorem J23 {tr : IV -> IH -> Res Bool} (ht : TrI ce X tr) : UnI ce X (unaryOp .Not) (Jub tr) := λ pins s σ H ι σi h x v Q E N r K => by
 refine not_of (ht pins s σ H ι σi h x v _ E N r ?_)
 unfold Jub at K
 cases e : tr x h with
 | ok c h2 =>
  rw [e] at K
  intro d s2 H2 ι2 N2 n2 r2
  have r' : d = c := r2
  subst r'
  exact K _ s2 H2 ι2 N2 n2 ⟨.bl (!d), rfl, rfl⟩
 | exc n h' => rw [e] at K; exact K
 | stuck => rw [e] at K; exact K
theorem J0u {t : Expr} {mt : T1} (ht : PTi ce X t mt) (ha : PEi ce X a ma) (hb : PEi ce X b mb) : PEi ce X (.IfExp t a b pos) (eIf mt ma mb) := λ pins s σ H ι σi h Q E N K =>
 wpAny_IfExp (ht.run N K λ c h1 u s1 H1 ι1 N1 n1 r1 K1 => by
  have r' : u = c := r1
  subst r'
  cases u with
  | true => exact ha pins s1 σ H1 ι1 σi h1 Q E N1 K1
  | false => exact hb pins s1 σ H1 ι1 σi h1 Q E N1 K1)
theorem J05 {op op' : CmpOp} {f g : IV -> IV -> IH -> Res IV} (ho : OpI ce X (compareOp op) f) (ho' : OpI ce X (compareOp op') g) (ha : PEi ce X a ma) (hb : PEi ce X b mb) (hc : PEi ce X c mc)
  (hm : lastMarks [op, op'] [b, c] = false := by with_unfolding_all rfl) : PEi ce X (.Compare a [op, op'] [b, c] pos) (Je2 f g ma mb mc) := λ pins s σ H ι σi h Q E N K =>
 Compare_chain (ha.run N K λ x h1 u s1 H1 ι1 N1 n1 r1 K1 => chain_link (hb.run N1 K1 λ y h2 w s2 H2 ι2 N2 n2 r2 K2 => by
  refine ho pins s2 σ H2 ι2 σi h2 x y u w _ E N2 (r1.mono n2) r2 ?_
  cases e : f x y h2 with
  | exc n h' => rw [e] at K2; exact K2
  | stuck => rw [e] at K2; exact K2
  | ok k h3 =>
   rw [e] at K2
   intro d s3 H3 ι3 N3 n3 r3
   obtain ⟨z, rz, q⟩ := r3
   cases k with
   | bl k =>
    have e' : z = .bl k := q
    subst e'
    cases rz
    refine wpAny_truthy_bool ?_
    have K3 := Kont.mono (r := match IV.bl k with | .bl true => (mc σi h3).bind λ z h4 => g y z h4 | .bl false => .ok (.bl false) h3 | _ => .stuck) K2 n3
    cases k with
    | false => exact ite_ff (K3 _ s3 H3 ι3 N3 .refl ⟨.bl false, rfl, rfl⟩)
    | true => exact ite_tt (chain_last (hc.run N3 K3 λ z h4 w' s4 H4 ι4 N4 n4 r4 K4 => ho' pins s4 σ H4 ι4 σi h4 y z w w' Q E N4 ((r2.mono n3).mono n4) r4 K4))
   | _ => exact Zf K2)) hm
theorem J09 {op op' : CmpOp} {f g : IV -> IV -> IH -> Res IV} (ho : OpI ce X (compareOp op) f) (ho' : OpI ce X (compareOp op') g) (ha : PEi ce X a ma) (hb : PEi ce X b mb) (hc : PEi ce X c mc)
  (hm : lastMarks [op, op'] [b, c] = false := by with_unfolding_all rfl) : PTi ce X (.Compare a [op, op'] [b, c] pos) (tOfB asB (Je2 f g ma mb mc)) := λ pins s σ H ι σi h Q E N K => by
 have K' : Kont ce X RB pins ι σi σ H ((ma σi h).bind λ x h1 => (mb σi h1).bind λ y h2 => (f x y h2).bind λ k h3 => (match k with | .bl true => (mc σi h3).bind λ z h4 => g y z h4 | .bl false => .ok (.bl false) h3 | _ => .stuck : Res IV).bind asB) Q E := by
  unfold tOfB Je2 at K
  rw [Res.bind_bind] at K
  simp only [Res.bind_bind] at K
  exact K
 refine isTrue_chain (ha.run N K' λ x h1 u s1 H1 ι1 N1 n1 r1 K1 => test_link (hb.run N1 K1 λ y h2 w s2 H2 ι2 N2 n2 r2 K2 => ?_)) hm
 refine ho pins s2 σ H2 ι2 σi h2 x y u w _ E N2 (r1.mono n2) r2 ?_
 cases e : f x y h2 with
 | exc n h' => rw [e] at K2; exact K2
 | stuck => rw [e] at K2; exact K2
 | ok k h3 =>
  rw [e] at K2
  intro d s3 H3 ι3 N3 n3 r3
  obtain ⟨z, rz, q⟩ := r3
  cases k with
  | bl k =>
   have e' : z = .bl k := q
   subst e'
   cases rz
   refine wpAny_truthy_bool ?_
   have K3 := Kont.mono (r := (match IV.bl k with | .bl true => (mc σi h3).bind λ z h4 => g y z h4 | .bl false => .ok (.bl false) h3 | _ => .stuck : Res IV).bind asB) K2 n3
   cases k with
   | false => exact ite_ff (K3 _ s3 H3 ι3 N3 .refl rfl)
   | true =>
    have K3' : Kont ce X RB pins ι3 σi σ H3 ((mc σi h3).bind λ z h4 => (g y z h4).bind asB) Q E := by
     have := K3
     dsimp only at this
     rw [Res.bind_bind] at this
     exact this
    exact ite_tt (test_last (hc.run N3 K3' λ z h4 w' s4 H4 ι4 N4 n4 r4 K4 => ho' pins s4 σ H4 ι4 σi h4 y z w w' _ E N4 ((r2.mono n3).mono n4) r4 (Kont.asB K4)))
  | _ => exact Zf K2
variable {es : List Expr} {mr : A1}
theorem RUs.nil {K : W.Frag} {ι : List Addr} {H : Hp} : RUs K ι H [] [] := ⟨[], .nil, rfl⟩
theorem RUs.cons {K : W.Frag} {ι : List Addr} {H : Hp} {x : IV} {u : Value} {xs : List IV} {us : List Value} (a : RU K ι H x u) (b : RUs K ι H xs us) : RUs K ι H (x :: xs) (u :: us) :=
 let ⟨v, r, q⟩ := a; let ⟨vs, rs, qs⟩ := b; ⟨v :: vs, .cons r rs, v, vs, rfl, q, qs⟩
theorem Jpw : PAi ce X [] aNil := λ _ pins s σ H ι σi h Q E N K => Calls.spliced_nil (K [] s H ι N .refl .nil)
theorem Jhj (ha : PEi ce X a ma) (hr : PAi ce X es mr) (hs : starEach (a :: es) X.env = (false, eval a X.env) :: starEach es X.env := by rfl) : PAi ce X (a :: es) (Ja ma mr) := by
 intro pos pins s σ H ι σi h Q E N K
 rw [hs]
 show wpAny _ _ (spliced ((false, eval a X.env) :: backTo pos (starEach es X.env))) _ _ s
 exact Calls.spliced_cons (ha.run N K λ x h1 u s1 H1 ι1 N1 n1 r1 K1 => (hr pos).run N1 K1 λ xs h2 us s2 H2 ι2 N2 n2 r2 K2 => K2 _ s2 H2 ι2 N2 .refl (.cons (r1.mono n2) r2))
end
end L3
namespace L3
open PySem PySem.Spec PyProof.Rows L2
noncomputable def Jo : IV -> IV -> IH -> Res IV
 | .int i, .int j, h => .ok (.int (i + j)) h
 | .str x, .str y, h => if x.length + y.length <= sizeLine then .ok (.str (x ++ y)) h else .stuck
 | .ref i, .ref j, h => match h[i]?, h[j]? with
  | some (.lst xs), some (.lst ys) => if xs.length + ys.length <= sizeLine then .ok (.ref h.length) (h ++ [.lst (xs ++ ys)]) else .stuck
  | _, _ => .stuck
 | .tup xs, .tup ys, h => if xs ≠ [] /\ ys ≠ [] /\ xs.length + ys.length <= sizeLine then .ok (.tup (xs ++ ys)) h else .stuck
 | _, _, _ => .stuck
noncomputable def Jnk : IV -> IV -> IH -> Res IV
 | .int i, .int j, h => .ok (.int (i - j)) h
 | _, _, _ => .stuck
noncomputable def Jb1 (i j : Int) : Prop := i.natAbs < 2 ^ 64 ∨ j.natAbs < 2 ^ 64 ∨ (i.natAbs.log2 < 1048576 /\ j.natAbs.log2 < 1048576)
noncomputable instance (i j : Int) : Decidable (Jb1 i j) := by unfold Jb1; exact inferInstance
noncomputable def Jtr : IV -> IV -> IH -> Res IV
 | .int i, .int j, h => if Jb1 i j then .ok (.int (i * j)) h else .stuck
 | .ref i, .int k, h => match h[i]? with
  | some (.lst xs) => if -(2 ^ 63) <= k /\ k < 2 ^ 63 /\ xs.length * k.toNat <= sizeLine then .ok (.ref h.length) (h ++ [.lst (List.replicate k.toNat xs).flatten]) else .stuck
  | _ => .stuck
 | _, _, _ => .stuck
noncomputable def Jaj : IV -> IV -> IH -> Res IV
 | .int i, .int j, h => if 0 < j /\ j.natAbs.log2 < 9000 then .ok (.int (i / j)) h else .stuck
 | _, _, _ => .stuck
noncomputable def Ju : IV -> IV -> IH -> Res IV
 | .int i, .int j, h => if 0 < j then .ok (.int (i % j)) h else .stuck
 | _, _, _ => .stuck
noncomputable def Jiy : IV -> IV -> IH -> Res IV
 | .int i, .int j, h => if 0 <= j /\ j <= 1000000 /\ i.natAbs < 2 ^ 64 then .ok (.int (i ^ j.toNat)) h else .stuck
 | _, _, _ => .stuck
noncomputable def J1s : IV -> IH -> Res IV
 | .int i, h => .ok (.int (-i)) h
 | _, _ => .stuck
section
variable {ce : Str -> Option Addr} {X : Cx}
theorem fin0 {pins : List (Addr × Obj)} {s : Shared} {σ : L2.St} {H : Hp} {ι : List Addr} {σi : ISt} {h : IH} {v : IV} {w : V} {Q : Value -> Shared -> Prop} {E : Value -> Shared -> Prop} (N : Now ce X pins ι σi h σ H s) (K : Kont ce X RU pins ι σi σ H (.ok v h) Q E)
  (q : RV X.K ι H v w) : ∀ u s', Inv X pins σ H s' -> RelV w u -> Q u s' := λ u s' I r => K u s' H ι ⟨I, N.rel, N.st⟩ .refl ⟨w, r, q⟩
theorem finA {pins : List (Addr × Obj)} {s : Shared} {σ : L2.St} {H : Hp} {ι : List Addr} {σi : ISt} {h : IH} {io : IO} {o : HO} {Q : Value -> Shared -> Prop} {E : Value -> Shared -> Prop} (N : Now ce X pins ι σi h σ H s)
  (K : Kont ce X RU pins ι σi σ H (.ok (.ref h.length) (h ++ [io])) Q E) (l : Addr) (e : H l = none) (r : RO ce X.K (ι ++ [l]) (upd H l o) l io) : ∀ u s', Inv X pins σ (upd H l o) s' -> RelV (.ref l) u -> Q u s' := λ u s' I ru => by
 obtain ⟨R, n⟩ := N.rel.alloc e r
 refine K u s' _ _ ⟨I, R, N.st.mono n⟩ n ⟨.ref l, ru, l, rfl, ?_⟩
 rw [<- N.rel.len, List.getElem?_append_right (Nat.le_refl _)]
 simp
theorem finT {pins : List (Addr × Obj)} {s : Shared} {σ : L2.St} {H : Hp} {ι : List Addr} {σi : ISt} {h : IH} {xs : List IV} {vs : List V} {Q : Value -> Shared -> Prop} {E : Value -> Shared -> Prop} (N : Now ce X pins ι σi h σ H s)
  (K : Kont ce X RU pins ι σi σ H (.ok (.tup xs) h) Q E) (l : Addr) (e : H l = none) (r : RVs X.K ι H xs vs) : ∀ u s', Inv X pins σ (upd H l (.tup vs)) s' -> RelV (.ref l) u -> Q u s' := λ u s' I ru => by
 obtain ⟨R, n⟩ := N.rel.grow (o := .tup vs) e
 exact K u s' _ _ ⟨I, R, N.st.mono n⟩ n ⟨.ref l, ru, l, vs, rfl, SqT.of Jf, RVs.mono n _ _ r⟩
theorem RVs.new {K : W.Frag} {ι : List Addr} {H : Hp} {l : Addr} {o : HO} (e : H l = none) {xs : List IV} {vs : List V} (r : RVs K ι H xs vs) : RVs K (ι ++ [l]) (upd H l o) xs vs := RVs.mono ⟨⟨[l], rfl⟩, Ext.upd_new e⟩ _ _ r
theorem Now.at {pins : List (Addr × Obj)} {s : Shared} {σ : L2.St} {H : Hp} {ι : List Addr} {σi : ISt} {h : IH} (N : Now ce X pins ι σi h σ H s) {i : Nat} {o : IO} (e : h[i]? = some o) {a : Addr} (ha : ι[i]? = some a) : RO ce X.K ι H a o := by
 obtain ⟨b, e1, r⟩ := N.rel.at_ i o e
 rw [ha] at e1
 cases e1
 exact r
theorem o_add : OpI ce X (binaryOp .Add) Jo := by
 intro pins s σ H ι σi h x y v u Q E N rx ry K
 obtain ⟨xv, rx, qx⟩ := rx
 obtain ⟨yv, ry, qy⟩ := ry
 cases x with
 | int i =>
  cases y with
  | int j =>
   have e1 : xv = .int i := qx
   have e2 : yv = .int j := qy
   subst e1 e2
   exact Jay (J4g (X := X.wish E)) N.inv rx ry ⟨i, j, rfl, rfl, fin0 N K rfl⟩
  | _ => exact Zf K
 | str i =>
  cases y with
  | str j =>
   have e1 : xv = .str i := qx
   have e2 : yv = .str j := qy
   subst e1 e2
   dsimp only [Jo] at K
   split at K
   ·rename_i hz
    exact Jay (Jto (X := X.wish E)) N.inv rx ry ⟨i, j, rfl, rfl, hz, fin0 N K rfl⟩
   ·exact Zf K
  | _ => exact Zf K
 | tup xs =>
  cases y with
  | tup ys =>
   obtain ⟨a, vs, e1, sa, ra⟩ := qx
   obtain ⟨b, ws, e2, sb, rb⟩ := qy
   subst e1 e2
   dsimp only [Jo] at K
   split at K
   ·rename_i hz
    obtain ⟨h1, h2, h3⟩ := hz
    have n1 : vs ≠ [] := λ z => h1 (by have := ra.length; rw [z] at this; exact List.eq_nil_of_length_eq_zero this.symm)
    have n2 : ws ≠ [] := λ z => h2 (by have := rb.length; rw [z] at this; exact List.eq_nil_of_length_eq_zero this.symm)
    exact Jay (J1n (X := X.wish E)) N.inv rx ry ⟨a, b, vs, ws, rfl, rfl, sa, sb, n1, by rw [ra.length, rb.length]; exact h3, λ z => absurd z n2, λ _ p hp => finT N K p hp (ra.append rb)⟩
   ·exact Zf K
  | _ => exact Zf K
 | ref i =>
  cases y with
  | ref j =>
   obtain ⟨a, e1, ha⟩ := qx
   obtain ⟨b, e2, hb⟩ := qy
   subst e1 e2
   dsimp only [Jo] at K
   cases hi : h[i]? with
   | none => rw [hi] at K; exact Zf K
   | some oi =>
    cases hj : h[j]? with
    | none => rw [hi, hj] at K; cases oi <;> exact Zf K
    | some oj =>
     rw [hi, hj] at K
     cases oi with
     | lst xs =>
      cases oj with
      | lst ys =>
       dsimp only at K
       split at K
       ·rename_i hz
        obtain ⟨vs, e1, r1⟩ := N.at hi ha
        obtain ⟨ws, e2, r2⟩ := N.at hj hb
        exact Jay (J4m (X := X.wish E)) N.inv rx ry ⟨a, b, vs, ws, rfl, rfl, e1, e2, by rw [r1.length, r2.length]; exact hz, λ p hp => finA N K p hp ⟨_, Jf, RVs.new hp (r1.append r2)⟩⟩
       ·exact Zf K
      | _ => exact Zf K
     | _ => exact Zf K
  | _ => exact Zf K
 | _ => cases y <;> exact Zf K
theorem o_sub : OpI ce X (binaryOp .Sub) Jnk := by
 intro pins s σ H ι σi h x y v u Q E N rx ry K
 obtain ⟨xv, rx, qx⟩ := rx
 obtain ⟨yv, ry, qy⟩ := ry
 cases x with
 | int i =>
  cases y with
  | int j =>
   have e1 : xv = .int i := qx
   have e2 : yv = .int j := qy
   subst e1 e2
   exact Jay (J38 (X := X.wish E)) N.inv rx ry ⟨i, j, rfl, rfl, fin0 N K rfl⟩
  | _ => exact Zf K
 | _ => cases y <;> exact Zf K
theorem Jb1.ok {i j : Int} (h : Jb1 i j) : IntMulOk i j := by
 rcases h with h | h | ⟨h1, h2⟩
 ·exact .of_left (intBits_le_64 (by omega) (by omega))
 ·exact .of_right (intBits_le_64 (by omega) (by omega))
 ·refine .of_bits ?_ ?_
  ·unfold Builtin.Int.intBits
   split
   ·exact Nat.zero_le _
   ·have : (2 : Nat) ^ 20 = 1048576 := by decide
    omega
  ·unfold Builtin.Int.intBits
   split
   ·exact Nat.zero_le _
   ·have : (2 : Nat) ^ 20 = 1048576 := by decide
    omega
theorem J1k : OpR X (binaryOp .Mult) (rI Jb1 λ i j => .int (i * j)) := opI λ _ _ _ _ _ _ _ hc q => mul_int q hc.ok
theorem o_mul : OpI ce X (binaryOp .Mult) Jtr := by
 intro pins s σ H ι σi h x y v u Q E N rx ry K
 obtain ⟨xv, rx, qx⟩ := rx
 obtain ⟨yv, ry, qy⟩ := ry
 cases x with
 | int i =>
  cases y with
  | int j =>
   have e1 : xv = .int i := qx
   have e2 : yv = .int j := qy
   subst e1 e2
   dsimp only [Jtr] at K
   split at K
   ·rename_i hz
    exact Jay (J1k (X := X.wish E)) N.inv rx ry ⟨i, j, rfl, rfl, hz, fin0 N K rfl⟩
   ·exact Zf K
  | _ => exact Zf K
 | ref i =>
  cases y with
  | int k =>
   obtain ⟨a, e1, ha⟩ := qx
   have e2 : yv = .int k := qy
   subst e1 e2
   dsimp only [Jtr] at K
   cases hi : h[i]? with
   | none => rw [hi] at K; exact Zf K
   | some oi =>
    rw [hi] at K
    cases oi with
    | lst xs =>
     dsimp only at K
     split at K
     ·rename_i hz
      obtain ⟨vs, e1, r1⟩ := N.at hi ha
      have rr : ∀ n : Nat, RVs X.K ι H (List.replicate n xs).flatten (List.replicate n vs).flatten := λ n => by
       induction n with
       | zero => exact rfl
       | succ n ih =>
        rw [List.replicate_succ, List.replicate_succ, List.flatten_cons, List.flatten_cons]
        exact r1.append ih
      exact Jay (J4j (X := X.wish E)) N.inv rx ry ⟨a, k, vs, rfl, rfl, e1, hz.1, hz.2.1, by rw [r1.length]; exact hz.2.2, λ p hp => finA N K p hp ⟨_, Jf, RVs.new hp (rr _)⟩⟩
     ·exact Zf K
    | _ => exact Zf K
  | _ => exact Zf K
 | _ => cases y <;> exact Zf K
theorem Jyz : OpR X (binaryOp .FloorDiv) (rI (λ _ j => 0 < j /\ j.natAbs.log2 < 9000) λ i j => .int (i / j)) := opI λ i j _ _ _ _ _ hc q => by
 have h1 : (0 : Int) < j := hc.1
 exact floordiv_int (by omega) (by rw [Int.fdiv_eq_ediv_of_nonneg i (by omega)]; exact q) (.inl (PyProof.noPylong_of_log2 hc.2))
theorem J30 : OpI ce X (binaryOp .FloorDiv) Jaj := by
 intro pins s σ H ι σi h x y v u Q E N rx ry K
 obtain ⟨xv, rx, qx⟩ := rx
 obtain ⟨yv, ry, qy⟩ := ry
 cases x with
 | int i =>
  cases y with
  | int j =>
   have e1 : xv = .int i := qx
   have e2 : yv = .int j := qy
   subst e1 e2
   dsimp only [Jaj] at K
   split at K
   ·rename_i hz
    exact Jay (Jyz (X := X.wish E)) N.inv rx ry ⟨i, j, rfl, rfl, hz, fin0 N K rfl⟩
   ·exact Zf K
  | _ => exact Zf K
 | _ => cases y <;> exact Zf K
theorem o_mod : OpI ce X (binaryOp .Mod) Ju := by
 intro pins s σ H ι σi h x y v u Q E N rx ry K
 obtain ⟨xv, rx, qx⟩ := rx
 obtain ⟨yv, ry, qy⟩ := ry
 cases x with
 | int i =>
  cases y with
  | int j =>
   have e1 : xv = .int i := qx
   have e2 : yv = .int j := qy
   subst e1 e2
   dsimp only [Ju] at K
   split at K
   ·rename_i hz
    exact Jay (J53 (X := X.wish E)) N.inv rx ry ⟨i, j, rfl, rfl, hz, fin0 N K rfl⟩
   ·exact Zf K
  | _ => exact Zf K
 | _ => cases y <;> exact Zf K
theorem o_pow : OpI ce X (binaryOp .Pow) Jiy := by
 intro pins s σ H ι σi h x y v u Q E N rx ry K
 obtain ⟨xv, rx, qx⟩ := rx
 obtain ⟨yv, ry, qy⟩ := ry
 cases x with
 | int i =>
  cases y with
  | int j =>
   have e1 : xv = .int i := qx
   have e2 : yv = .int j := qy
   subst e1 e2
   dsimp only [Jiy] at K
   split at K
   ·rename_i hz
    exact Jay (J47 (X := X.wish E)) N.inv rx ry ⟨i, j, rfl, rfl, hz, fin0 N K rfl⟩
   ·exact Zf K
  | _ => exact Zf K
 | _ => cases y <;> exact Zf K
theorem u_neg : UnI ce X (unaryOp .USub) J1s := by
 intro pins s σ H ι σi h x v Q E N rx K
 obtain ⟨xv, rx, qx⟩ := rx
 cases x with
 | int i =>
  have e1 : xv = .int i := qx
  subst e1
  exact J4s (J3x (X := X.wish E)) N.inv rx ⟨i, rfl, fin0 N K rfl⟩
 | _ => exact Zf K
noncomputable def cLt : IV -> IV -> IH -> Res IV
 | .int i, .int j, h => .ok (.bl (decide (i < j))) h
 | .str x, .str y, h => .ok (.bl (decide (x.cps.toList < y.cps.toList))) h
 | _, _, _ => .stuck
noncomputable def cLe : IV -> IV -> IH -> Res IV
 | .int i, .int j, h => .ok (.bl (decide (i <= j))) h
 | .str x, .str y, h => .ok (.bl (!decide (y.cps.toList < x.cps.toList))) h
 | _, _, _ => .stuck
noncomputable def cGt : IV -> IV -> IH -> Res IV
 | .int i, .int j, h => .ok (.bl (decide (j < i))) h
 | _, _, _ => .stuck
noncomputable def cGe : IV -> IV -> IH -> Res IV
 | .int i, .int j, h => .ok (.bl (decide (j <= i))) h
 | _, _, _ => .stuck
theorem o_lt : OpI ce X (compareOp .Lt) cLt := by
 intro pins s σ H ι σi h x y v u Q E N rx ry K
 obtain ⟨xv, rx, qx⟩ := rx
 obtain ⟨yv, ry, qy⟩ := ry
 cases x with
 | int i =>
  cases y with
  | int j =>
   have e1 : xv = .int i := qx
   have e2 : yv = .int j := qy
   subst e1 e2
   exact Jay (op_lt (X := X.wish E)) N.inv rx ry ⟨i, j, rfl, rfl, fin0 N K rfl⟩
  | _ => exact Zf K
 | str i =>
  cases y with
  | str j =>
   have e1 : xv = .str i := qx
   have e2 : yv = .str j := qy
   subst e1 e2
   exact Jay (Jv1 (X := X.wish E)) N.inv rx ry ⟨i, j, rfl, rfl, fin0 N K rfl⟩
  | _ => exact Zf K
 | _ => cases y <;> exact Zf K
theorem o_le : OpI ce X (compareOp .LtE) cLe := by
 intro pins s σ H ι σi h x y v u Q E N rx ry K
 obtain ⟨xv, rx, qx⟩ := rx
 obtain ⟨yv, ry, qy⟩ := ry
 cases x with
 | int i =>
  cases y with
  | int j =>
   have e1 : xv = .int i := qx
   have e2 : yv = .int j := qy
   subst e1 e2
   exact Jay (op_le (X := X.wish E)) N.inv rx ry ⟨i, j, rfl, rfl, fin0 N K rfl⟩
  | _ => exact Zf K
 | str i =>
  cases y with
  | str j =>
   have e1 : xv = .str i := qx
   have e2 : yv = .str j := qy
   subst e1 e2
   obtain ⟨t, rfl⟩ := rx
   obtain ⟨t', rfl⟩ := ry
   exact PySem.P.le_str (fin0 N K rfl _ s N.inv rfl)
  | _ => exact Zf K
 | _ => cases y <;> exact Zf K
theorem o_gt : OpI ce X (compareOp .Gt) cGt := by
 intro pins s σ H ι σi h x y v u Q E N rx ry K
 obtain ⟨xv, rx, qx⟩ := rx
 obtain ⟨yv, ry, qy⟩ := ry
 cases x with
 | int i =>
  cases y with
  | int j =>
   have e1 : xv = .int i := qx
   have e2 : yv = .int j := qy
   subst e1 e2
   exact Jay (op_gt (X := X.wish E)) N.inv rx ry ⟨i, j, rfl, rfl, fin0 N K rfl⟩
  | _ => exact Zf K
 | _ => cases y <;> exact Zf K
theorem o_ge : OpI ce X (compareOp .GtE) cGe := by
 intro pins s σ H ι σi h x y v u Q E N rx ry K
 obtain ⟨xv, rx, qx⟩ := rx
 obtain ⟨yv, ry, qy⟩ := ry
 cases x with
 | int i =>
  cases y with
  | int j =>
   have e1 : xv = .int i := qx
   have e2 : yv = .int j := qy
   subst e1 e2
   exact Jay (op_ge (X := X.wish E)) N.inv rx ry ⟨i, j, rfl, rfl, fin0 N K rfl⟩
  | _ => exact Zf K
 | _ => cases y <;> exact Zf K
noncomputable def tru : IV -> IH -> Res Bool
 | .non, h => .ok false h
 | .bl b, h => .ok b h
 | .int i, h => .ok (i != 0) h
 | .str x, h => if x.length <= sizeLine then .ok ((x.length : Int) != 0) h else .stuck
 | .tup xs, h => .ok (!xs.isEmpty) h
 | .rol xs, h => .ok (!xs.isEmpty) h
 | .ref i, h => match h[i]? with
  | some (.lst xs) => .ok (!xs.isEmpty) h
  | some (.dct kvs) => .ok (!kvs.isEmpty) h
  | _ => .stuck
theorem RVs.empty {K : W.Frag} {ι : List Addr} {H : Hp} {xs : List IV} {vs : List V} (r : RVs K ι H xs vs) : vs.isEmpty = xs.isEmpty := by
 have := r.length
 cases xs <;> cases vs <;> simp_all
theorem RPs.empty {κ : Type} {K : W.Frag} {ι : List Addr} {H : Hp} {xs : List (κ × IV)} {vs : List (κ × V)} (r : RPs K ι H xs vs) : vs.isEmpty = xs.isEmpty := by
 have := r.length
 cases xs <;> cases vs <;> simp_all
theorem finB {pins : List (Addr × Obj)} {s : Shared} {σ : L2.St} {H : Hp} {ι : List Addr} {σi : ISt} {h : IH} {c : Bool} {Q : Bool -> Shared -> Prop} {E : Value -> Shared -> Prop} (N : Now ce X pins ι σi h σ H s) (K : Kont ce X RB pins ι σi σ H (.ok c h) Q E) :
  ∀ s', Inv X pins σ H s' -> Q c s' := λ s' I => K c s' H ι ⟨I, N.rel, N.st⟩ .refl rfl
theorem Joj : TrI ce X tru := by
 intro pins s σ H ι σi h x v Q E N rx K
 obtain ⟨xv, rx, qx⟩ := rx
 cases x with
 | non =>
  have e1 : xv = .non := qx
  subst e1
  exact Je7 (Jkn (X := X.wish E)) N.inv rx ⟨_, rfl, finB N K⟩
 | bl b =>
  have e1 : xv = .bl b := qx
  subst e1
  exact Je7 (Jkn (X := X.wish E)) N.inv rx ⟨_, rfl, finB N K⟩
 | int i =>
  have e1 : xv = .int i := qx
  subst e1
  exact Je7 (Jkn (X := X.wish E)) N.inv rx ⟨_, rfl, finB N K⟩
 | str y =>
  have e1 : xv = .str y := qx
  subst e1
  dsimp only [tru] at K
  split at K
  ·rename_i hz
   exact Je7 (Jkn (X := X.wish E)) N.inv rx ⟨_, ⟨hz, rfl⟩, finB N K⟩
  ·exact Zf K
 | tup xs =>
  obtain ⟨a, vs, e1, sa, ra⟩ := qx
  subst e1
  exact Je7 (Jkn (X := X.wish E)) N.inv rx ⟨!xs.isEmpty, .inr (.inl ⟨vs, sa, by rw [ra.empty]⟩), finB N K⟩
 | rol xs =>
  obtain ⟨a, vs, e1, sa, ra⟩ := qx
  subst e1
  exact Je7 (Jkn (X := X.wish E)) N.inv rx ⟨!xs.isEmpty, .inl ⟨vs, sa.sq, by rw [ra.empty]⟩, finB N K⟩
 | ref i =>
  obtain ⟨a, e1, ha⟩ := qx
  subst e1
  dsimp only [tru] at K
  cases hi : h[i]? with
  | none => rw [hi] at K; exact Zf K
  | some oi =>
   rw [hi] at K
   cases oi with
   | lst xs =>
    obtain ⟨vs, e1, r1⟩ := N.at hi ha
    exact Je7 (Jkn (X := X.wish E)) N.inv rx ⟨!xs.isEmpty, .inl ⟨vs, SqL.of e1, by rw [r1.empty]⟩, finB N K⟩
   | dct kvs =>
    obtain ⟨vs, e1, r1⟩ := N.at hi ha
    exact Je7 (Jkn (X := X.wish E)) N.inv rx ⟨!kvs.isEmpty, .inr (.inr ⟨vs, e1, by rw [r1.empty]⟩), finB N K⟩
   | _ => exact Zf K
noncomputable def eTup (a : A1) : E1 := λ σ h => (a σ h).bind λ xs h1 => if xs.length <= sizeLine then .ok (.tup xs) h1 else .stuck
noncomputable def eLst (a : A1) : E1 := λ σ h => (a σ h).bind λ xs h1 => if xs.length <= sizeLine then .ok (.ref h1.length) (h1 ++ [.lst xs]) else .stuck
variable {es : List Expr} {mr : A1} {pos : Pos}
theorem J51 {x1} (hr : PAi ce X es mr) : PEi ce X (.Tuple es x1 pos) (eTup mr) := λ pins s σ H ι σi h Q E N K => by
 refine wpAny_Tuple_spliced ((hr pos).run N K λ xs h1 us s1 H1 ι1 N1 n1 r1 K1 => ?_)
 change Kont ce X RU pins ι1 σi σ H1 (if xs.length <= sizeLine then _ else _) Q E at K1
 split at K1
 ·rename_i hz
  obtain ⟨vs, rv, qs⟩ := r1
  have hl := rv.length
  have hl2 := qs.length
  have hf : H1 s1.heap.objs.size = none := N1.inv.hok.fresh (Nat.le_refl _)
  refine ⟨by rw [<- hl, hl2]; exact hz, ?_⟩
  exact finT N1 K1 s1.heap.objs.size hf qs _ _ (N1.inv.laid (t' := s1.toks) (λ b u e => Heap.get?_push_of_some _ e) (Nat.le_refl _) ⟨by rw [hl2]; exact hz, us, rv, ⟨_, Heap.get?_push_size _ rfl, rfl, _, rfl⟩⟩) rfl
 ·exact Zf K1
theorem J5m (hr : PAi ce X es mr) : PEi ce X (.List es pos) (eLst mr) := λ pins s σ H ι σi h Q E N K => by
 refine wpAny_List_spliced ((hr pos).run N K λ xs h1 us s1 H1 ι1 N1 n1 r1 K1 => ?_)
 change Kont ce X RU pins ι1 σi σ H1 (if xs.length <= sizeLine then _ else _) Q E at K1
 split at K1
 ·rename_i hz
  obtain ⟨vs, rv, qs⟩ := r1
  have hl := rv.length
  have hl2 := qs.length
  have hf : H1 s1.heap.objs.size = none := N1.inv.hok.fresh (Nat.le_refl _)
  refine ⟨by rw [<- hl, hl2]; exact hz, ?_⟩
  exact finA N1 K1 s1.heap.objs.size hf ⟨_, Jf, RVs.new hf qs⟩ _ _ (N1.inv.laid (t' := s1.toks) (λ b u e => Heap.get?_push_of_some _ e) (Nat.le_refl _) ⟨by rw [hl2]; exact hz, us, 0, rv, Heap.get?_push_size _ rfl⟩) rfl
 ·exact Zf K1
end
end L3
namespace L3
open PySem PySem.Spec PyProof.Rows L2
noncomputable abbrev S1 := ISt -> IH -> SRes
noncomputable def Jdi (ce : Str -> Option Addr) (X : Cx) (pins : List (Addr × Obj)) (ι : List Addr) (H : Hp) (r : SRes) (Q : Flow -> Shared -> Prop) (E : Value -> Shared -> Prop) : Prop :=
 match r with
 | .next σi' h' => ∀ s' σ' H' ι', Now ce X pins ι' σi' h' σ' H' s' -> Nxt ι H ι' H' -> Q .next s'
 | .brk σi' h' => ∀ s' σ' H' ι', Now ce X pins ι' σi' h' σ' H' s' -> Nxt ι H ι' H' -> Q .brk s'
 | .cont σi' h' => ∀ s' σ' H' ι', Now ce X pins ι' σi' h' σ' H' s' -> Nxt ι H ι' H' -> Q .cont s'
 | .ret v h' => ∀ u s' σi' σ' H' ι', Now ce X pins ι' σi' h' σ' H' s' -> Nxt ι H ι' H' -> RU X.K ι' H' v u -> Q (.ret u) s'
 | .exc n σi' h' => ∀ pl a s' σ' H' ι', Now ce X (pins ++ pl) ι' σi' h' σ' H' s' -> Nxt ι H ι' H' -> ι'[n]? = some a -> E (.ref a) s'
 | .stuck => False
theorem Jdi.mono {ce : Str -> Option Addr} {X : Cx} {pins : List (Addr × Obj)} {ι ι' : List Addr} {H H' : Hp} {r : SRes} {Q : Flow -> Shared -> Prop} {E : Value -> Shared -> Prop} (k : Jdi ce X pins ι H r Q E) (n : Nxt ι H ι' H') : Jdi ce X pins ι' H' r Q E := by
 cases r with
 | next σ h => exact λ s' σ' H2 ι2 N n2 => k s' σ' H2 ι2 N (n.trans n2)
 | brk σ h => exact λ s' σ' H2 ι2 N n2 => k s' σ' H2 ι2 N (n.trans n2)
 | cont σ h => exact λ s' σ' H2 ι2 N n2 => k s' σ' H2 ι2 N (n.trans n2)
 | ret v h => exact λ u s' σi' σ' H2 ι2 N n2 => k u s' σi' σ' H2 ι2 N (n.trans n2)
 | exc m σ h => exact λ pl a s' σ' H2 ι2 N n2 => k pl a s' σ' H2 ι2 N (n.trans n2)
 | stuck => exact k
noncomputable def PSi (ce : Str -> Option Addr) (X : Cx) (t : Sem Flow) (m : S1) : Prop :=
 ∀ (pins : List (Addr × Obj)) (s : Shared) (σ : L2.St) (H : Hp) (ι : List Addr) (σi : ISt) (h : IH) (Q : Flow -> Shared -> Prop) (E : Value -> Shared -> Prop), Now ce X pins ι σi h σ H s -> Jdi ce X pins ι H (m σi h) Q E -> wpAny (model X.prog X.w) X.A t Q E s
noncomputable abbrev PS1 (ce : Str -> Option Addr) (X : Cx) (st : Stmt) (m : S1) : Prop := PSi ce X (exec st X.env) m
noncomputable abbrev PS2 (ce : Str -> Option Addr) (X : Cx) (sts : List Stmt) (m : S1) : Prop := PSi ce X (execs sts X.env) m
noncomputable def sNil : S1 := λ σ h => .next σ h
noncomputable def sSeq (a b : S1) : S1 := λ σ h => match a σ h with
 | .next σ' h' => b σ' h'
 | r => r
noncomputable def Jzt : S1 := λ σ h => .next σ h
noncomputable def J0q : S1 := λ σ h => .brk σ h
noncomputable def J3n : S1 := λ σ h => .cont σ h
noncomputable def rS {α : Type} (σ : ISt) (r : Res α) (k : α -> IH -> SRes) : SRes := match r with
 | .ok a h => k a h
 | .exc n h => .exc n σ h
 | .stuck => .stuck
noncomputable def Jgq (e : E1) : S1 := λ σ h => rS σ (e σ h) λ _ h' => .next σ h'
noncomputable def sRet (e : E1) : S1 := λ σ h => rS σ (e σ h) λ v h' => .ret v h'
noncomputable def J2d : S1 := λ _ h => .ret .non h
noncomputable def sIf (t : T1) (a b : S1) : S1 := λ σ h => rS σ (t σ h) λ c h' => if c then a σ h' else b σ h'
noncomputable def sSet (i : Nat) (e : E1) : S1 := λ σ h => rS σ (e σ h) λ v h' => .next (σ.set i (some v)) h'
section
variable {ce : Str -> Option Addr} {X : Cx} {st : Stmt} {rest : List Stmt} {m m1 m2 : S1} {e : Expr} {me : E1} {pos : Pos}
theorem krun {α β : Type} {R : REL α β} {t : Sem β} {mm : ISt -> IH -> Res α} (p : PX ce X R t mm) {pins : List (Addr × Obj)} {s : Shared} {σ : L2.St} {H : Hp} {ι : List Addr} {σi : ISt} {h : IH} (N : Now ce X pins ι σi h σ H s) {g : α -> IH -> SRes} {Q : Flow -> Shared -> Prop} {E : Value -> Shared -> Prop} {Q1 : β -> Shared -> Prop}
  (K : Jdi ce X pins ι H (rS σi (mm σi h) g) Q E)
  (step : ∀ x h1 u s1 H1 ι1, Now ce X pins ι1 σi h1 σ H1 s1 -> Nxt ι H ι1 H1 -> R X.K ι1 H1 x u -> Jdi ce X pins ι1 H1 (g x h1) Q E -> Q1 u s1) : wpAny (model X.prog X.w) X.A t Q1 E s := by
 refine p pins s σ H ι σi h Q1 E N ?_
 cases e : mm σi h with
 | ok v h' =>
  rw [e] at K
  exact λ u s' H' ι' N' n' r => step v h' u s' H' ι' N' n' r (Jdi.mono (r := g v h') K n')
 | exc n h' =>
  rw [e] at K
  exact λ pl a s' H' ι' N' n' q => K pl a s' σ H' ι' N' n' q
 | stuck =>
  rw [e] at K
  exact K
theorem J37 : PS2 ce X [] sNil := λ _ s σ H ι _ _ _ _ N K => wpAny_execs_nil (K s σ H ι N .refl)
theorem J0s (h1 : PS1 ce X st m1) (h2 : PS2 ce X rest m2) : PS2 ce X (st :: rest) (sSeq m1 m2) := by
 intro pins s σ H ι σi h Q E N K
 refine wpAny_execs_cons (h1 pins s σ H ι σi h _ E N ?_)
 unfold sSeq at K
 cases e : m1 σi h with
 | next σ' h' =>
  rw [e] at K
  exact λ s' σ2 H' ι' N' n' => h2 pins s' σ2 H' ι' σ' h' Q E N' (Jdi.mono (r := m2 σ' h') K n')
 | brk σ' h' => rw [e] at K; exact K
 | cont σ' h' => rw [e] at K; exact K
 | ret v h' => rw [e] at K; exact K
 | exc n σ' h' => rw [e] at K; exact K
 | stuck => rw [e] at K; exact K
theorem J5z (h1 : PS1 ce X st m1) : PS2 ce X [st] m1 := by
 intro pins s σ H ι σi h Q E N K
 refine wpAny_execs_cons (h1 pins s σ H ι σi h _ E N ?_)
 cases e : m1 σi h with
 | next σ' h' =>
  rw [e] at K
  exact λ s' σ2 H' ι' N' n' => wpAny_execs_nil (K s' σ2 H' ι' N' n')
 | brk σ' h' => rw [e] at K; exact K
 | cont σ' h' => rw [e] at K; exact K
 | ret v h' => rw [e] at K; exact K
 | exc n σ' h' => rw [e] at K; exact K
 | stuck => rw [e] at K; exact K
theorem Jz5 : PS1 ce X (.Pass pos) Jzt := λ _ s σ H ι _ _ _ _ N K => wpAny_Pass (K s σ H ι N .refl)
theorem J2k : PS1 ce X (.Break pos) J0q := λ _ s σ H ι _ _ _ _ N K => wpAny_Break (K s σ H ι N .refl)
theorem J4q : PS1 ce X (.Continue pos) J3n := λ _ s σ H ι _ _ _ _ N K => wpAny_Continue (K s σ H ι N .refl)
theorem J46 (he : PEi ce X e me) (hs : swapsWith e none pos.line X.env = pure false := by rfl) : PS1 ce X (.Expr e pos) (Jgq me) := λ pins s σ H ι σi h Q E N K =>
 wpAny_Expr_any (krun he N K λ x h1 u s1 H1 ι1 N1 n1 r1 K1 => K1 s1 σ H1 ι1 N1 .refl) N.inv.quiet hs
theorem J5g (he : PEi ce X e me) : PS1 ce X (.Return (some e) pos) (sRet me) := λ pins s σ H ι σi h Q E N K =>
 wpAny_Return_some (krun he N K λ x h1 u s1 H1 ι1 N1 n1 r1 K1 => K1 u s1 σi σ H1 ι1 N1 .refl r1)
theorem J5j : PS1 ce X (.Return none pos) J2d := λ pins s σ H ι σi h Q E N K => wpAny_Return_none (K .none s σi σ H ι N .refl ⟨.non, rfl, rfl⟩)
theorem s_if {c : Expr} {a b : List Stmt} {mt : T1} (hc : PTi ce X c mt) (ha : PS2 ce X a m1) (hb : PS2 ce X b m2) : PS1 ce X (.If c a b pos) (sIf mt m1 m2) := λ pins s σ H ι σi h Q E N K =>
 wpAny_If (krun hc N K λ x h1 u s1 H1 ι1 N1 n1 r1 K1 => by
  have r' : u = x := r1
  subst r'
  cases u with
  | true => exact ha pins s1 σ H1 ι1 σi h1 Q E N1 K1
  | false => exact hb pins s1 σ H1 ι1 σi h1 Q E N1 K1)
theorem J25 {i : Nat} {x : Str} {pos' : Pos} (hN : X.N.Nodup) (he : PEi ce X e me) (hi : X.N[i]? = some x := by rfl) (hx : Loc X.env.scope x := by assumption) (hs : swapsWith e (some (.Name x pos')) pos.line X.env = pure false := by rfl)
  (hf : X.fn x = true ∨ X.env.scope.names.lookup x = some .local := by assumption) : PS1 ce X (.Assign [.Name x pos'] e pos) (sSet i me) := λ pins s σ H ι σi h Q E N K =>
 wpAny_Assign_Name (krun he N K λ v h1 u s1 H1 ι1 N1 n1 r1 K1 => by
  obtain ⟨w, rw', q⟩ := r1
  exact Jo0 N1.inv hN hi hx rw' (λ s2 I2 => K1 s2 _ H1 ι1 ⟨I2, N1.rel, N1.st.set i q⟩ .refl) hf) hs
noncomputable abbrev G1 := IV -> ISt -> IH -> SRes
noncomputable def PGi (ce : Str -> Option Addr) (X : Cx) (tg : Expr) (g : G1) : Prop :=
 ∀ (pins : List (Addr × Obj)) (s : Shared) (σ : L2.St) (H : Hp) (ι : List Addr) (σi : ISt) (h : IH) (v : IV) (u : Value) (Q : Flow -> Shared -> Prop) (E : Value -> Shared -> Prop), Now ce X pins ι σi h σ H s -> RU X.K ι H v u -> Jdi ce X pins ι H (g v σi h) Q E ->
  wpAny (model X.prog X.w) X.A (assign tg X.env u) (λ _ s' => Q .next s') E s
noncomputable def gNm (i : Nat) : G1 := λ v σ h => .next (σ.set i (some v)) h
theorem g_nm {i : Nat} {x : Str} (hN : X.N.Nodup) (hi : X.N[i]? = some x := by rfl) (hx : Loc X.env.scope x := by assumption) (hf : X.fn x = true ∨ X.env.scope.names.lookup x = some .local := by assumption) : PGi ce X (.Name x pos) (gNm i) := by
 intro pins s σ H ι σi h v u Q E N r K
 obtain ⟨w, rw', q⟩ := r
 exact wpAny_assign_Name (Jo0 N.inv hN hi hx rw' (λ s2 I2 => K s2 _ H ι ⟨I2, N.rel, N.st.set i q⟩ .refl) hf)
noncomputable def PGsi (ce : Str -> Option Addr) (X : Cx) (ts : List Expr) (g : List IV -> ISt -> IH -> SRes) : Prop :=
 ∀ (pins : List (Addr × Obj)) (s : Shared) (σ : L2.St) (H : Hp) (ι : List Addr) (σi : ISt) (h : IH) (vs : List IV) (us : List Value) (Q : Flow -> Shared -> Prop) (E : Value -> Shared -> Prop), Now ce X pins ι σi h σ H s -> RUs X.K ι H vs us -> Jdi ce X pins ι H (g vs σi h) Q E ->
  wpAny (model X.prog X.w) X.A (assignInOrder ((assignEach ts X.env).map (·.2)) us) (λ _ s' => Q .next s') E s
noncomputable def gN : List IV -> ISt -> IH -> SRes
 | [], σ, h => .next σ h
 | _ :: _, _, _ => .stuck
noncomputable def gC (g : G1) (r : List IV -> ISt -> IH -> SRes) : List IV -> ISt -> IH -> SRes
 | v :: vs, σ, h => match g v σ h with
  | .next σ' h' => r vs σ' h'
  | .exc n σ' h' => .exc n σ' h'
  | _ => .stuck
 | [], _, _ => .stuck
theorem J5s : PGsi ce X [] gN := by
 intro pins s σ H ι σi h vs us Q E N r K
 cases vs with
 | nil =>
  obtain ⟨xs, rv, q⟩ := r
  have e1 : xs = [] := q
  subst e1
  cases rv
  exact assignInOrder_nil (K s σ H ι N .refl)
 | cons v vs => exact Zf K
theorem J1g {tg : Expr} {ts : List Expr} {g : G1} {r : List IV -> ISt -> IH -> SRes} (h1 : PGi ce X tg g) (h2 : PGsi ce X ts r)
  (hs : (assignEach (tg :: ts) X.env).map (·.2) = assign tg X.env :: (assignEach ts X.env).map (·.2) := by rfl) : PGsi ce X (tg :: ts) (gC g r) := by
 intro pins s σ H ι σi h vs us Q E N ru K
 cases vs with
 | nil => exact Zf K
 | cons v vs =>
  obtain ⟨xs, rv, x, xr, e1, q, qs⟩ := ru
  subst e1
  cases rv with
  | cons r1 r2 =>
   rw [hs]
   refine assignInOrder_cons (h1 pins s σ H ι σi h v _ (λ f s' => wpAny (model X.prog X.w) X.A (assignInOrder ((assignEach ts X.env).map (·.2)) _) (λ _ s' => Q .next s') E s') E N ⟨x, r1, q⟩ ?_)
   have K' : Jdi ce X pins ι H (match g v σi h with | .next σ' h' => r vs σ' h' | .exc n σ' h' => .exc n σ' h' | _ => .stuck) Q E := K
   cases e : g v σi h with
   | next σ' h' =>
    rw [e] at K'
    exact λ s' σ2 H' ι' N' n' => h2 pins s' σ2 H' ι' σ' h' vs _ Q E N' ⟨xr, r2, RVs.mono n' _ _ qs⟩ (Jdi.mono (r := r vs σ' h') K' n')
   | exc n σ' h' => rw [e] at K'; exact K'
   | _ => rw [e] at K'; exact (show False from K').elim
noncomputable def gTp (n : Nat) (g : List IV -> ISt -> IH -> SRes) : G1 := λ v σ h => match v with
 | .tup xs => if xs.length = n then g xs σ h else .stuck
 | _ => .stuck
theorem g_tup {es : List Expr} {k n : Nat} {g : List IV -> ISt -> IH -> SRes} (hc : X.calm = true) (hg : PGsi ce X es g) (hn : (assignEach es X.env).length = n := by rfl) (hst : (assignEach es X.env).findIdx? (·.1) = none := by rfl) : PGi ce X (.Tuple es k pos) (gTp n g) := by
 intro pins s σ H ι σi h v u Q E N r K
 obtain ⟨w, rw', q⟩ := r
 cases v with
 | tup xs =>
  obtain ⟨a, vs, e1, sa, ra⟩ := q
  subst e1
  cases rw'
  unfold gTp at K
  dsimp only at K
  split at K
  ·rename_i hl
   obtain ⟨its, rv, ht, hz⟩ := N.inv.tuple sa
   have l1 := ra.length
   have l2 := rv.length
   refine assign_Tuple_tuple (N.inv.ok.hd hc) ht (by simp only [List.size_toArray]; omega) hst λ h' hx => ?_
   have I1 : Inv X pins σ H { s with heap := h' } := N.inv.kept (t' := s.toks) λ b o e => hx b o (Nat.ne_of_lt (Heap.lt_size e)) e
   exact hg pins _ σ H ι σi h xs _ Q E ⟨I1, N.rel, N.st⟩ ⟨vs, by simpa using rv, ra⟩ K
  ·exact Zf K
 | _ => exact Zf K
noncomputable def sAsg (e : E1) (g : G1) : S1 := λ σ h => rS σ (e σ h) λ v h' => g v σ h'
theorem s_asg {tg : Expr} {g : G1} (he : PEi ce X e me) (hg : PGi ce X tg g) (hs : swapsWithSole [tg] e pos.line X.env = pure false := by rfl) (hw : swappedStores [tg] e X.env = pure none := by rfl)
  (h1 : (assignEach [tg] X.env).map (·.2) = [assign tg X.env] := by rfl) : PS1 ce X (.Assign [tg] e pos) (sAsg me g) := λ pins s σ H ι σi h Q E N K =>
 wpAny_Assign_stores (krun he N K λ v h2 u s1 H1 ι1 N1 n1 r1 K1 => by
  rw [h1]
  exact hg pins s1 σ H1 ι1 σi h2 v u Q E N1 r1 K1) hs hw
end
end L3
namespace L3
open PySem PySem.Spec PyProof.Rows L2
structure ItI where
 xs : List IV
 chk : IH -> Prop
open Classical in
noncomputable def Jgp (chk : IH -> Prop) (g : G1) (b : S1) : List IV -> ISt -> IH -> SRes
 | [], σ, h => if chk h then .next σ h else .stuck
 | x :: xs, σ, h => if chk h then (match g x σ h with
   | .next σ1 h1 => (match b σ1 h1 with
    | .next σ2 h2 => Jgp chk g b xs σ2 h2
    | .cont σ2 h2 => Jgp chk g b xs σ2 h2
    | .brk σ2 h2 => .next σ2 h2
    | .ret v h2 => .ret v h2
    | _ => .stuck)
   | _ => .stuck) else .stuck
noncomputable abbrev I1 := ISt -> IH -> Res ItI
noncomputable def sFor (it : I1) (g : G1) (b : S1) : S1 := λ σ h => rS σ (it σ h) λ J h' => Jgp J.chk g b J.xs σ h'
structure ItOk (ce : Str -> Option Addr) (K : W.Frag) (ι : List Addr) (H₀ : Hp) (J : It) (I : ItI) : Prop where
 go : ∀ (k : Nat) (x : IV) (h : IH) (H : Hp) (ι' : List Addr), Nxt ι H₀ ι' H -> Rel ce K ι' h H -> I.chk h -> I.xs[k]? = some x ->
  J.go k H /\ ∀ y H', J.yld k H y H' -> Rel ce K ι' h H' /\ Nxt ι' H ι' H' /\ RV K ι' H' x y
 stop : ∀ (k : Nat) (h : IH) (H : Hp) (ι' : List Addr), Nxt ι H₀ ι' H -> Rel ce K ι' h H -> I.chk h -> I.xs.length <= k -> J.stop k H
theorem Rel.get {ce : Str -> Option Addr} {K : W.Frag} {ι : List Addr} {h : IH} {H : Hp} (R : Rel ce K ι h H) {i : Nat} {o : IO} (e : h[i]? = Option.some o) {a : Addr} (ha : ι[i]? = Option.some a) : RO ce K ι H a o := by
 obtain ⟨b, e1, r⟩ := R.at_ i o e
 rw [ha] at e1
 cases e1
 exact r
noncomputable def RIt (ce : Str -> Option Addr) (X : Cx) (tg : Expr) (pins : List (Addr × Obj)) (ι' : List Addr) (I : ItI) (itv : Value) (s2 : Shared) (H' : Hp) : Prop :=
 ∃ (it : Addr) (fp : List Addr) (tn : Nat -> Heap -> Prop) (J : It), itv = .ref it /\ Turn X.prog X.w X.K tg J fp it tn /\ tn 0 s2.heap /\ (∀ b ∈ fp, FpOk X pins H' b) /\ ItOk ce X.K ι' H' J I
noncomputable def PIi (ce : Str -> Option Addr) (X : Cx) (tg iter : Expr) (m : I1) : Prop :=
 ∀ (pins : List (Addr × Obj)) (s : Shared) (σ : L2.St) (H : Hp) (ι : List Addr) (σi : ISt) (h : IH) (Q : Value -> Shared -> Prop) (E : Value -> Shared -> Prop), Now ce X pins ι σi h σ H s ->
  (match m σi h with
   | .ok I h' => ∀ itv s' H' ι', Now ce X pins ι' σi h' σ H' s' -> Nxt ι H ι' H' -> RIt ce X tg pins ι' I itv s' H' -> Q itv s'
   | .exc n h' => ∀ pl a s' H' ι', Now ce X (pins ++ pl) ι' σi h' σ H' s' -> Nxt ι H ι' H' -> ι'[n]? = some a -> E (.ref a) s'
   | .stuck => False) ->
  wpAny (model X.prog X.w) X.A (eval iter X.env) (λ v s1 => wpAny (model X.prog X.w) X.A (pyIter v) Q E s1) E s
section
variable {ce : Str -> Option Addr} {X : Cx}
theorem nof {M : Model} {A : Around} {α : Type} {t : Sem α} {Q : α -> Shared -> Prop} {E : Value -> Shared -> Prop} {s : Shared} (h : wpAny M A t Q (λ _ _ => False) s) : wpAny M A t Q E s := wpAny_mono h (λ _ _ x => x) λ _ _ z => z.elim
theorem Now.pins {pins : List (Addr × Obj)} {pl : List (Addr × Obj)} {ι : List Addr} {σi : ISt} {h : IH} {σ : L2.St} {H : Hp} {s : Shared} (N : Now ce X (pins ++ pl) ι σi h σ H s) : Now ce X pins ι σi h σ H s := ⟨N.inv.unpinned, N.rel, N.st⟩
theorem s_for {tg iter : Expr} {body : List Stmt} {mi : I1} {g : G1} {mb : S1} {pos : Pos} (hc : X.calm = true) (hi : PIi ce X tg iter mi) (hg : PGi ce X tg g) (hb : PS2 ce X body mb)
  (hs : ∀ x, foldedSetIterable iter X.env x = pure x := by intro _; rfl) : PS1 ce X (.For tg iter body [] pos) (sFor mi g mb) := by
 intro pins s σ H ι σi h Q E N K
 refine wpAny_For (hi pins s σ H ι σi h _ E N ?_) hs
 unfold sFor at K
 cases e0 : mi σi h with
 | exc n h' => rw [e0] at K; exact λ pl a s' H' ι' N' n' q => K pl a s' σ H' ι' N' n' q
 | stuck => rw [e0] at K; exact K
 | ok I h' =>
  rw [e0] at K
  intro itv s2 H2 ι2 N2 n2 R
  obtain ⟨it, fp, tn, J, e, T, st2, f2, OK⟩ := R
  subst e
  have stat : ∀ {H' : Hp}, (∀ b ∈ fp, H' b = none) -> ∀ b ∈ fp, FpOk X pins H' b := λ hn b hb => ⟨hn b hb, (f2 b hb).2⟩
  have K2 : Jdi ce X pins ι2 H2 (Jgp I.chk g mb I.xs σi h') Q E := Jdi.mono (r := Jgp I.chk g mb I.xs σi h') K n2
  refine codeAny_forLoop_any (λ n s' => ∃ k ιk σk hk σ' H', Now ce X pins ιk σk hk σ' H' s' /\ Nxt ι2 H2 ιk H' /\ tn k s'.heap /\ (∀ b ∈ fp, H' b = none) /\ n = I.xs.length - k /\ k <= I.xs.length /\ Jdi ce X pins ιk H' (Jgp I.chk g mb (I.xs.drop k) σk hk) Q E) ?_ I.xs.length
   ⟨0, ι2, σi, h', σ, H2, N2, .refl, st2, λ b hb => (f2 b hb).1, by simp, Nat.zero_le _, by simpa using K2⟩
  rintro n s3 ⟨k, ιk, σk, hk, σ3, H3, N3, n3, st3, fr3, rfl, hkl, K3⟩
  by_cases hlt : k < I.xs.length
  ·-- a turn
   have hd : I.xs.drop k = I.xs[k] :: I.xs.drop (k + 1) := List.drop_eq_getElem_cons hlt
   rw [hd] at K3
   unfold Jgp at K3
   split at K3
   ·rename_i hck
    obtain ⟨go, yl⟩ := OK.go k I.xs[k] hk H3 ιk n3 N3.rel hck (List.getElem?_eq_getElem hlt)
    refine nof (thn (T.item X rfl rfl rfl hc k pins s3 σ3 H3 (λ _ _ => False) N3.inv (stat fr3) st3 go) λ r s4 ⟨u, hr, h4⟩ => ?_)
    subst hr
    refine nof (thn h4 λ _ s5 ⟨x, H5, I5, r5, y5, st5, fr5⟩ => ?_)
    obtain ⟨R5, n5, q5⟩ := yl x H5 y5
    have I5' := I5.pinned (stat fr5) (T.obj _ _ st5)
    have N5 : Now ce X (pins ++ Jio fp s5.heap) ιk σk hk σ3 H5 s5 := ⟨I5', R5, N3.st.mono n5⟩
    cases eg : g I.xs[k] σk hk with
    | next σg hgg =>
     rw [eg] at K3
     dsimp only at K3
     refine nof (hg _ s5 σ3 H5 ιk σk hk _ u (λ _ s6 => wpAny (model X.prog X.w) X.A (execs body X.env) _ _ s6) (λ _ _ => False) N5 ⟨x, r5, q5⟩ ?_)
     rw [eg]
     intro s6 σ6 H6 ι6 N6 n6
     refine nof (hb _ s6 σ6 H6 ι6 σg hgg _ (λ _ _ => False) N6 ?_)
     have again : ∀ {σ7 : L2.St} {H7 : Hp} {s7 : Shared} {σ7i : ISt} {h7 : IH} {ι7 : List Addr}, Now ce X (pins ++ Jio fp s5.heap) ι7 σ7i h7 σ7 H7 s7 -> Nxt ι6 H6 ι7 H7 -> Jdi ce X pins ιk H3 (Jgp I.chk g mb (I.xs.drop (k + 1)) σ7i h7) Q E ->
       ∃ m, m < I.xs.length - k /\ ∃ k ιk σk hk σ' H', Now ce X pins ιk σk hk σ' H' s7 /\ Nxt ι2 H2 ιk H' /\ tn k s7.heap /\ (∀ b ∈ fp, H' b = none) /\ m = I.xs.length - k /\ k <= I.xs.length /\ Jdi ce X pins ιk H' (Jgp I.chk g mb (I.xs.drop k) σk hk) Q E :=
      λ {σ7 H7 s7 σ7i h7 ι7} N7 n7 K7 => by
       have nn : Nxt ιk H3 ι7 H7 := (n5.trans n6).trans n7
       refine ⟨I.xs.length - (k + 1), by omega, k + 1, ι7, σ7i, h7, σ7, H7, N7.pins, n3.trans nn, T.keep _ _ _ st5 λ b hb o e => (N7.inv.pin (b, o) (List.mem_append_right _ (List.mem_append_right _ (Jdc hb e)))).1, λ b hb => ?_, rfl, hlt, K7.mono nn⟩
       obtain ⟨o, e, d⟩ := T.obj _ _ st5 b hb
       exact (N7.inv.pin (b, o) (List.mem_append_right _ (List.mem_append_right _ (Jdc hb e)))).2.1
     cases eb : mb σg hgg with
     | next σ7i h7 =>
      rw [eb] at K3
      exact λ s7 σ7 H7 ι7 N7 n7 => again N7 n7 K3
     | cont σ7i h7 =>
      rw [eb] at K3
      exact λ s7 σ7 H7 ι7 N7 n7 => again N7 n7 K3
     | brk σ7i h7 =>
      rw [eb] at K3
      exact λ s7 σ7 H7 ι7 N7 n7 => K3 s7 σ7 H7 ι7 N7.pins ((n5.trans n6).trans n7)
     | ret v h7 =>
      rw [eb] at K3
      exact λ u s7 σ7i σ7 H7 ι7 N7 n7 r => K3 u s7 σ7i σ7 H7 ι7 N7.pins ((n5.trans n6).trans n7) r
     | exc n σ7i h7 => rw [eb] at K3; exact Zf K3
     | stuck => rw [eb] at K3; exact Zf K3
    | _ => rw [eg] at K3; exact Zf K3
   ·exact Zf K3
  ·have hke : I.xs.drop k = [] := List.drop_eq_nil_of_le (by omega)
   rw [hke] at K3
   unfold Jgp at K3
   split at K3
   ·rename_i hck
    have stop := OK.stop k hk H3 ιk n3 N3.rel hck (by omega)
    refine nof (thn (T.done X rfl rfl rfl hc k pins s3 σ3 H3 (λ _ _ => False) N3.inv (stat fr3) st3 stop) λ r s4 ⟨hr, I4⟩ => ?_)
    subst hr
    exact wpAny_execs_nil (K3 s4 σ3 H3 ιk ⟨I4, N3.rel, N3.st⟩ .refl)
   ·exact Zf K3
noncomputable def itOf : IV -> IH -> Res ItI
 | .ref i, h => match h[i]? with
  | some (.lst xs) => .ok ⟨xs, λ h' => h'[i]? = some (.lst xs)⟩ h
  | _ => .stuck
 | .rol xs, h => .ok ⟨xs, λ _ => True⟩ h
 | .tup xs, h => .ok ⟨xs, λ _ => True⟩ h
 | _, _ => .stuck
noncomputable def iVal (e : E1) : I1 := λ σ h => (e σ h).bind itOf
variable {tg : Expr}
theorem J41 {a : Addr} {i : Nat} {xs : List IV} {ι : List Addr} {H₀ : Hp} (ha : ι[i]? = some a) : ItOk ce X.K ι H₀ (Itl X.K a) ⟨xs, λ h' => h'[i]? = some (.lst xs)⟩ := by
 refine ⟨λ k x h H ι' hp R hck hx => ?_, λ k h H ι' hp R hck hx => ?_⟩
 ·obtain ⟨vs, e1, r1⟩ := R.get hck (hp.at ha)
  obtain ⟨v, hv, qv⟩ := r1.get hx
  refine ⟨⟨vs, v, SqL.of e1, hv⟩, λ y H' hy => ?_⟩
  obtain ⟨rfl, hy⟩ := hy
  have := hy vs (SqL.of e1)
  rw [hv] at this
  cases this
  exact ⟨R, .refl, qv⟩
 ·obtain ⟨vs, e1, r1⟩ := R.get hck (hp.at ha)
  exact ⟨vs, SqL.of e1, by rw [r1.length]; exact hx⟩
theorem J3j {a : Addr} {xs : List IV} {vs : List V} {ι : List Addr} {H₀ : Hp} (sa : SqR X.K H₀ a vs) (ra : RVs X.K ι H₀ xs vs) : ItOk ce X.K ι H₀ (Itl X.K a) ⟨xs, λ _ => True⟩ := by
 refine ⟨λ k x h H ι' hp R hck hx => ?_, λ k h H ι' hp R hck hx => ?_⟩
 ·obtain ⟨v, hv, qv⟩ := ra.get hx
  have sq := (hp.ext.sqR sa).sq
  refine ⟨⟨vs, v, sq, hv⟩, λ y H' hy => ?_⟩
  obtain ⟨rfl, hy⟩ := hy
  have := hy vs sq
  rw [hv] at this
  cases this
  exact ⟨R, .refl, RV.mono hp _ _ qv⟩
 ·exact ⟨vs, (hp.ext.sqR sa).sq, by rw [ra.length]; exact hx⟩
theorem J4b {a : Addr} {xs : List IV} {vs : List V} {ι : List Addr} {H₀ : Hp} (sa : SqT X.K H₀ a vs) (ra : RVs X.K ι H₀ xs vs) : ItOk ce X.K ι H₀ (Itt X.K a) ⟨xs, λ _ => True⟩ := by
 refine ⟨λ k x h H ι' hp R hck hx => ?_, λ k h H ι' hp R hck hx => ?_⟩
 ·obtain ⟨v, hv, qv⟩ := ra.get hx
  have sq := hp.ext.sqT sa
  refine ⟨⟨vs, v, sq, hv⟩, λ y H' hy => ?_⟩
  obtain ⟨rfl, hy⟩ := hy
  have := hy vs sq
  rw [hv] at this
  cases this
  exact ⟨R, .refl, RV.mono hp _ _ qv⟩
 ·exact ⟨vs, hp.ext.sqT sa, by rw [ra.length]; exact hx⟩
theorem Jxp {l : Expr} {ml : E1} (hl : PEi ce X l ml) : PIi ce X tg l (iVal ml) := by
 intro pins s σ H ι σi h Q E N K
 refine hl pins s σ H ι σi h _ E N ?_
 unfold iVal at K
 cases e0 : ml σi h with
 | exc n h' => rw [e0] at K; exact K
 | stuck => rw [e0] at K; exact K
 | ok v h' =>
  rw [e0] at K
  intro u s1 H1 ι1 N1 n1 r1
  obtain ⟨w, rw', q⟩ := r1
  have fresh : ∀ b ∈ [s1.heap.objs.size], FpOk X pins H1 b := λ b hb => by
   have e : b = s1.heap.objs.size := by simpa using hb
   subst e
   exact N1.inv.fpOk (Nat.le_refl _) (N1.inv.hok.fresh (Nat.le_refl _))
  cases v with
  | ref i =>
   obtain ⟨a, e1, ha⟩ := q
   subst e1
   cases rw'
   cases hi : h'[i]? with
   | none => simp only [Res.bind, itOf, hi] at K
   | some o =>
    cases o with
    | lst xs =>
     simp only [Res.bind, itOf, hi] at K
     obtain ⟨vs, e1, r1⟩ := N1.at hi ha
     obtain ⟨its, rv, p, hz⟩ := N1.inv.list (SqL.of e1)
     refine wpAny_pyIter_list p.isList (K _ _ H1 ι1 ⟨N1.inv.kept (t' := s1.toks) λ b o e => Heap.get?_push_of_some _ e, N1.rel, N1.st⟩ n1 ?_)
     exact ⟨s1.heap.objs.size, [s1.heap.objs.size], _, Itl X.K a, rfl, Jp9 a _, ⟨_, Heap.get?_push_size _ rfl, rfl, rfl⟩, fresh, J41 ha⟩
    | _ => simp only [Res.bind, itOf, hi] at K
  | rol xs =>
   obtain ⟨a, vs, e1, sa, ra⟩ := q
   subst e1
   cases rw'
   simp only [Res.bind, itOf] at K
   obtain ⟨its, rv, p, hz⟩ := N1.inv.list sa.sq
   refine wpAny_pyIter_list p.isList (K _ _ H1 ι1 ⟨N1.inv.kept (t' := s1.toks) λ b o e => Heap.get?_push_of_some _ e, N1.rel, N1.st⟩ n1 ?_)
   exact ⟨s1.heap.objs.size, [s1.heap.objs.size], _, Itl X.K a, rfl, Jp9 a _, ⟨_, Heap.get?_push_size _ rfl, rfl, rfl⟩, fresh, J3j sa ra⟩
  | tup xs =>
   obtain ⟨a, vs, e1, sa, ra⟩ := q
   subst e1
   cases rw'
   simp only [Res.bind, itOf] at K
   obtain ⟨its, rv, p, hz⟩ := N1.inv.tuple sa
   refine wpAny_pyIter_tuple (show s1.heap.IsTuple a its.toArray from p) (K _ _ H1 ι1 ⟨N1.inv.kept (t' := s1.toks) λ b o e => Heap.get?_push_of_some _ e, N1.rel, N1.st⟩ n1 ?_)
   exact ⟨s1.heap.objs.size, [s1.heap.objs.size], _, Itt X.K a, rfl, Ju0 a _, ⟨_, Heap.get?_push_size _ rfl, rfl, rfl⟩, fresh, J4b sa ra⟩
  | _ => simp only [Res.bind, itOf] at K
noncomputable def rngI (lo hi : Int) : List IV := (List.range (hi - lo).toNat).map λ k => .int (lo + (k : Nat))
noncomputable def Jb4 : List IV -> IH -> Res ItI
 | [.int j], h => if -(2 ^ 62) <= j /\ j < 2 ^ 62 then .ok ⟨rngI 0 j, λ _ => True⟩ h else .stuck
 | _, _ => .stuck
noncomputable def Jl8 : List IV -> IH -> Res ItI
 | [.int i, .int j], h => if -(2 ^ 62) <= i /\ i < 2 ^ 62 /\ -(2 ^ 62) <= j /\ j < 2 ^ 62 then .ok ⟨rngI i j, λ _ => True⟩ h else .stuck
 | _, _ => .stuck
theorem Jra {vs : List IV} {h : IH} (hv : ¬ ∃ i j, vs = [.int i, .int j]) : Jl8 vs h = .stuck := by
 unfold Jl8
 split
 ·exact absurd ⟨_, _, rfl⟩ hv
 ·rfl
noncomputable def iRg (f : List IV -> IH -> Res ItI) (a : A1) : I1 := λ σ h => (a σ h).bind f
theorem J42 {lo hi : Int} {ι : List Addr} {H₀ : Hp} : ItOk ce X.K ι H₀ (Itr lo (hi - lo).toNat) ⟨rngI lo hi, λ _ => True⟩ := by
 refine ⟨λ k x h H ι' hp R hck hx => ?_, λ k h H ι' hp R hck hx => ?_⟩
 ·have hk : k < (hi - lo).toNat := by
   have := (List.getElem?_eq_some_iff.mp hx).1
   simpa [rngI] using this
  refine ⟨hk, λ y H' hy => ?_⟩
  obtain ⟨rfl, rfl⟩ := hy
  simp only [rngI, List.getElem?_map, List.getElem?_range hk] at hx
  cases hx
  exact ⟨R, .refl, rfl⟩
 ·have : (rngI lo hi).length = (hi - lo).toNat := by simp [rngI]
  show (hi - lo).toNat <= k
  rw [<- this]
  exact hx
theorem Jr0 {pins : List (Addr × Obj)} {σ : L2.St} {H : Hp} {ι : List Addr} {σi : ISt} {h : IH} {s : Shared} {Q : Value -> Shared -> Prop} {E : Value -> Shared -> Prop} {lo hi : Int} {t u v : Tok} {tk : Nat} (N : Now ce X pins ι σi h σ H s)
  (h1 : -(2 ^ 62) <= lo) (h2 : lo < 2 ^ 62) (h3 : -(2 ^ 62) <= hi) (h4 : hi < 2 ^ 62)
  (K : ∀ itv s' H' ι', Now ce X pins ι' σi h σ H' s' -> Nxt ι H ι' H' -> RIt ce X tg pins ι' ⟨rngI lo hi, λ _ => True⟩ itv s' H' -> Q itv s') :
  wpAny (model X.prog X.w) X.A (pyIter (.ref s.heap.objs.size)) Q E { s with heap := s.heap.push { cls := .type "range", data := .fields #[.int lo t, .int hi u, .int 1 v] }, toks := tk } := by
 have := Jyn (X := X) (tg := tg) (E := E) (R := λ J H' => J = Itr lo (hi - lo).toNat /\ H' = H) (t := t) (u := u) (v := v) (tk := tk) N.inv h1 h2 h3 h4 ⟨rfl, rfl⟩
 refine wpAny_mono this (λ itv s' hq => ?_) λ _ _ z => z
 obtain ⟨it, fp, tn, J, H', e, I', T, st, f, rfl, rfl⟩ := hq
 exact K itv s' _ ι ⟨I', N.rel, N.st⟩ .refl ⟨it, fp, tn, _, e, T, st, f, J42⟩
theorem Jzj {a : Expr} {ma : A1} {p pos : Pos} (hg : Gl X "range") (hm : X.mg "range" = none) (ha : PAi ce X [a] ma) (hs : starEach [a] X.env = [(false, eval a X.env)] := by rfl) : PIi ce X tg (.Call (.Name "range" p) [a] [] pos) (iRg Jb4 ma) := by
 intro pins s σ H ι σi h Q E N K
 refine Call_ (Jdh N.inv hg hm boot_range (PyProof.Rows.callWith_type1 ?_ hs rfl))
 refine ha pos pins s σ H ι σi h _ E N ?_
 unfold iRg at K
 cases e0 : ma σi h with
 | exc n h' => rw [e0] at K; exact K
 | stuck => rw [e0] at K; exact K
 | ok vs h' =>
  rw [e0] at K
  intro us s1 H1 ι1 N1 n1 r1
  obtain ⟨xs, rv, qs⟩ := r1
  match vs, K with
  | [.int j], K =>
   obtain ⟨w, r, e1, q, q2⟩ := qs
   have e2 : r = [] := q2
   subst e1 e2
   have e3 : w = .int j := q
   subst e3
   cases rv with
   | cons r rr =>
    cases rr
    obtain ⟨t, rfl⟩ := r
    simp only [Res.bind, Jb4] at K
    by_cases hb : -(2 ^ 62) <= j /\ j < 2 ^ 62
    ·rw [if_pos hb] at K
     exact call_range_1 (Jr0 N1 (by omega) (by omega) hb.1 hb.2 λ itv s' H' ι' N' n' R => K itv s' H' ι' N' (n1.trans n') R)
    ·rw [if_neg hb] at K
     exact K.elim
  | [], K => exact Zf K
  | .non :: _, K => exact Zf K
  | .bl _ :: _, K => exact Zf K
  | .str _ :: _, K => exact Zf K
  | .tup _ :: _, K => exact Zf K
  | .rol _ :: _, K => exact Zf K
  | .ref _ :: _, K => exact Zf K
  | .int _ :: _ :: _, K => exact Zf K
theorem Jzd {a b : Expr} {ma : A1} {p pos : Pos} (hg : Gl X "range") (hm : X.mg "range" = none) (ha : PAi ce X [a, b] ma) (hs : starEach [a, b] X.env = [(false, eval a X.env), (false, eval b X.env)] := by rfl) (hs2 : starEach [b] X.env = [(false, eval b X.env)] := by rfl) :
  PIi ce X tg (.Call (.Name "range" p) [a, b] [] pos) (iRg Jl8 ma) := by
 intro pins s σ H ι σi h Q E N K
 refine Call_ (Jdh N.inv hg hm boot_range (PyProof.Rows.callWith_type1 ?_ (by rw [hs, hs2]) (by rw [hs2]; rfl)))
 refine ha pos pins s σ H ι σi h _ E N ?_
 unfold iRg at K
 cases e0 : ma σi h with
 | exc n h' => rw [e0] at K; exact K
 | stuck => rw [e0] at K; exact K
 | ok vs h' =>
  rw [e0] at K
  intro us s1 H1 ι1 N1 n1 r1
  obtain ⟨xs, rv, qs⟩ := r1
  by_cases hv : ∃ i j, vs = [.int i, .int j]
  ·obtain ⟨i, j, rfl⟩ := hv
   obtain ⟨w, r, e1, q, w', r', e1', q', q2⟩ := qs
   have e2 : r' = [] := q2
   subst e1 e1' e2
   have e3 : w = .int i := q
   have e4 : w' = .int j := q'
   subst e3 e4
   cases rv with
   | cons r rr =>
    cases rr with
    | cons r' rr =>
     cases rr
     obtain ⟨t, rfl⟩ := r
     obtain ⟨t', rfl⟩ := r'
     simp only [Res.bind, Jl8] at K
     by_cases hb : -(2 ^ 62) <= i /\ i < 2 ^ 62 /\ -(2 ^ 62) <= j /\ j < 2 ^ 62
     ·rw [if_pos hb] at K
      exact call_range_2 (Jr0 N1 hb.1 hb.2.1 hb.2.2.1 hb.2.2.2 λ itv s' H' ι' N' n' R => K itv s' H' ι' N' (n1.trans n') R)
     ·rw [if_neg hb] at K
      exact K.elim
  ·simp only [Res.bind, Jra hv] at K
end
end L3
namespace L3
open PySem PySem.Spec PyProof.Rows L2
theorem ExF.ok {P : Program} {w : World} {H : Hp} {h : Heap} {a C : Addr} {tv : Value} {oe : Obj} {vs : Array Value} (e : h.get? a = some oe) (c : oe.cls = .ref C) (d : oe.data = .fields vs) (v : vs[1]? = some tv) : Jb5 P w H h a (ExF a C tv) :=
 ⟨⟨oe, vs, e, c, d, v⟩, ⟨oe, e⟩, λ _ _ ⟨o, us, e1, r⟩ k => ⟨o, us, k _ e1, r⟩⟩
theorem ExF.get {P : Program} {w : World} {H : Hp} {h : Heap} {a C : Addr} {tv : Value} (x : HOk P w H h) (e : H a = some (ExF a C tv)) : ∃ oe vs, h.get? a = some oe /\ oe.cls = .ref C /\ oe.data = .fields vs /\ vs[1]? = some tv :=
 (x a _ e).1
theorem J3e {P : Program} {w : World} {H : Hp} {h : Heap} {a : Addr} : ∀ {o : HO}, Jb5 P w H h a o -> ∃ u, h.get? a = some u
 | .lst _, ⟨_, _, _, _, e⟩ => ⟨_, e⟩
 | .tup _, ⟨_, _, _, ⟨_, e, _⟩⟩ => ⟨_, e⟩
 | .dK _, ⟨_, _, _, _, o, _, _, e, _⟩ => ⟨o, e⟩
 | .dT _, ⟨_, _, _, _, o, _, _, e, _⟩ => ⟨o, e⟩
 | .set _ _, ⟨o, _, _, _, e, _⟩ => ⟨o, e⟩
 | .ins _ _ _, ⟨_, _, _, e, _⟩ => ⟨_, e⟩
 | .own _, ⟨_, e⟩ => ⟨_, e⟩
 | .xd _, ⟨_, ⟨_, _, _, e, _⟩, _⟩ => ⟨_, e⟩
 | .rng _ _, ⟨_, _, _, e⟩ => ⟨_, e⟩
 | .frz _ _, ⟨e, _⟩ => ⟨_, e⟩
 | .tbl _, e => ⟨_, (show h.get? a = some _ from e)⟩
 | .met _ _, e => ⟨_, (show h.get? a = some _ from e)⟩
 | .ext _, ⟨_, ⟨_, e⟩, _⟩ => ⟨_, e⟩
theorem J19 {h : Heap} {T : Addr} {oT : Obj} {ts : Array Value} (e : h.get? T = some oT) (d : oT.data = .fields ts) (q : ts[3]? = some .none) : (h.update T (Obj.mapFields (·.setIfInBounds 3 .none))).get? T = some oT := by
 have es : ts.setIfInBounds 3 .none = ts := by
  refine Array.ext (by simp) λ i h1 h2 => ?_
  rw [Array.getElem_setIfInBounds]
  split
  ·rename_i z
   subst z
   rw [Array.getElem?_eq_getElem h2] at q
   exact (Option.some.inj q).symm
  ·rfl
 have eo : Obj.mapFields (·.setIfInBounds 3 .none) oT = oT := by
  obtain ⟨c, dd, dt, sl⟩ := oT
  have d : dt = .fields ts := d
  subst d
  simp only [Obj.mapFields, es]
 rw [Heap.get?_update_self _ e (by rw [eo]; exact Obj.isFreed_of_fields d), eo]
theorem Jxd {h B B' : Heap} : ∀ {l : List Env}, h.FunFrames B l -> (∀ b ∈ frs l, B'.get? b = none) -> h.FunFrames B' l
 | [], _, _ => trivial
 | env :: l, ⟨a, ⟨L, o, f, _, r⟩, t⟩, n => by
  have m : ∀ b, b ∈ frs (env :: l) ↔ b = L ∨ b ∈ frs l := λ b => by
   unfold frs
   rw [List.filterMap_cons, f]
   exact List.mem_cons
  exact ⟨a, ⟨L, o, f, n L ((m L).mpr (.inl rfl)), r⟩, Jxd t λ b hb => n b ((m b).mpr (.inr hb))⟩
section
variable {X : Cx} {pins : List (Addr × Obj)} {σ : L2.St} {H : Hp} {s : Shared} {M : Model} {E : Value -> Shared -> Prop} {Q : Unit -> Shared -> Prop} {a C : Addr} {tv : Value}
structure Past (X : Cx) (H : Hp) (h : Heap) (a C : Addr) (T : Addr) (oT : Obj) (h' : Heap) : Prop where
 new : H T = none
 ne : T ≠ a
 fld : ∃ ts, oT.data = .fields ts /\ ts[3]? = some .none
 un : Un (frs X.stack) [] H (upd (upd H T (.frz oT (.own 0))) a (ExF a C (.ref T))) h h'
 hok : HOk X.prog X.w (upd (upd H T (.frz oT (.own 0))) a (ExF a C (.ref T))) h'
theorem J2a {h h' : Heap} (I : Inv X pins σ H s) (hh : ∀ b, h.get? b = s.heap.get? b) (ha : H a = some (ExF a C tv)) (L : Heap.Left (W.hideAll h (a :: frs X.stack)) X.stack a (.ref C) h h') : ∃ T oT, Past X H s.heap a C T oT h' := by
 obtain ⟨l1, l2, ⟨oe, vs, T, oT, ts, e1, e2, e3, e4, e5, e6, e7, e8, e9⟩, l4⟩ := L
 have hok := I.hok
 have hfr : ∀ b ∈ frs X.stack, H b = none := I.stkFree
 have hfa : a ∉ frs X.stack := λ z => by rw [hfr a z] at ha; cases ha
 have nT : s.heap.get? T = none := by
  cases q : s.heap.get? T with
  | none => rfl
  | some o =>
   by_cases z : T ∈ frs X.stack
   ·obtain ⟨_, o', q1, q2⟩ := l2.mem z
    rw [e7] at q1
    cases q1
    exact absurd e8 (q2 _)
   ·have z2 : T ∉ a :: frs X.stack := λ y => (List.mem_cons.mp y).elim e6 z
    have := W.hideAll_get _ ((hh T).trans q) z2
    rw [e5] at this
    cases this
 have hT : H T = none := by
  cases q : H T with
  | none => rfl
  | some u =>
   obtain ⟨o, z⟩ := J3e (hok T u q)
   rw [nT] at z
   cases z
 have keep : ∀ b o, s.heap.get? b = some o -> b ≠ a -> b ∉ frs X.stack -> h'.get? b = some o := λ b o q n1 n2 =>
  l1 b o (W.hideAll_get _ ((hh b).trans q) λ y => (List.mem_cons.mp y).elim n1 n2)
 have slot : ∀ b o, s.heap.get? b = some o -> b ∈ frs X.stack -> ∃ sl, h'.get? b = some { o with slots := sl } := λ b o q z => by
  obtain ⟨_, o', q1, q2⟩ := (show s.heap.FunFrames X.base X.stack from I.stack).mem z
  rw [q] at q1
  cases q1
  exact l4 b o ((hh b).trans q) q2
 have na : ∀ {b : Addr} {u : HO}, H b = some u -> (∀ φ, u ≠ .ext φ) -> b ≠ a := λ {b u} q n z => by
  subst z
  rw [ha] at q
  cases q
  exact n _ rfl
 have nTb : ∀ {b : Addr} {u : HO}, H b = some u -> b ≠ T := λ {b u} q z => by
  subst z
  rw [hT] at q
  cases q
 have up : ∀ {b : Addr} {u : HO}, H b = some u -> (∀ φ, u ≠ .ext φ) -> upd (upd H T (.frz oT (.own 0))) a (ExF a C (.ref T)) b = some u := λ {b u} q n => by
  rw [Jg (na q n), Jg (nTb q)]
  exact q
 refine ⟨T, oT, hT, e6, ⟨ts, e8, e9⟩, ⟨λ b o q n hb _ => keep b o q (λ z => by subst z; rw [ha] at n; cases n) hb, λ b o q _ hb _ => slot b o q hb, λ b o q n _ => ?_, λ b o q _ => ?_, λ b xs q => up q nofun, λ b o u q => up q nofun, λ b ps q => ⟨#[], by rw [up q nofun]; simp⟩⟩, λ b u q => ?_⟩
 ·rw [Jg (λ z => by subst z; rw [ha] at n; cases n), Jg (λ z => by subst z; rw [nT] at q; cases q)]
  exact n
 ·by_cases z : b = a
  ·subst z
   exact ⟨_, e1⟩
  ·by_cases y : b ∈ frs X.stack
   ·obtain ⟨sl, w⟩ := slot b o q y
    exact ⟨_, w⟩
   ·exact ⟨o, keep b o q z y⟩
 ·by_cases z : b = a
  ·subst z
   rw [Jf] at q
   cases q
   exact ExF.ok e1 e2 e3 e4
  ·rw [Jg z] at q
   by_cases y : b = T
   ·subst y
    rw [Jf] at q
    cases q
    exact ⟨e7, ⟨oT, e7⟩⟩
   ·rw [Jg y] at q
    refine (hok b u q).stay (λ c v hc p => ?_) (λ c p => up p nofun) λ c xs p => up p nofun
    refine keep c v p ?_ ?_
    ·rcases hc with rfl | hc
     ·exact z
     ·exact na hc nofun
    ·intro m
     rcases hc with rfl | hc
     ·rw [hfr _ m] at q; cases q
     ·rw [hfr _ m] at hc; cases hc
theorem Jx4 (I : Inv X pins σ H s) (hs : X.stack = X.env :: X.outer) (hf : X.env.frame = some X.env.locals) (ha : H a = some (ExF a C tv)) (ht : TvOk H tv)
  (k : ∀ T oT h', Past X H s.heap a C T oT h' -> Q () { s with heap := h' }) : wpAny M X.A (noteFrame (.ref a) X.env) (λ _ s' => wpAny M X.A (setFlight (.ref a) none) Q E s') E s := by
 obtain ⟨oe, vs, e1, e2, e3, e4⟩ := ExF.get I.hok ha
 have hfa : a ∉ frs X.stack := λ z => by rw [I.stkFree a z] at ha; cases ha
 have fr := I.ok.frames
 have ff : s.heap.FunFrames X.base X.stack := I.stack
 have len1 : 1 < vs.size := (Array.getElem?_eq_some_iff.mp e4).1
 have go : ∀ (h : Heap) {head : Value} {hn : Bool}, (∀ b, h.get? b = s.heap.get? b) -> wpAny M X.A (do let f <- frameOf X.env; let pl <- entryPlaceOf X.env.locals hn; let b <- EntryCells.newEntry head f .none (rawInt X.env.locals) .none pl; setField (.ref a) 1 b) (λ _ s' => wpAny M X.A (setFlight (.ref a) none) Q E s') E { s with heap := h } := by
  intro h head hn hh
  have ffh : h.FunFrames X.base X.stack := ff.of_keeps λ b o q _ => ⟨o, (hh b).trans q, rfl⟩
  have ff2 : h.FunFrames (W.hideAll h (a :: frs X.stack)) X.stack := Jxd ffh λ b hb => W.hideAll_none _ (List.mem_cons_of_mem _ hb)
  rw [hs] at fr ff2
  refine wpAny_newEntry (s := { s with heap := h }) fr ff2 hf ((hh a).trans e1) (λ b o q => W.of_hideAll _ q) (W.hideAll_none _ List.mem_cons_self) e3 len1 λ h' l => ?_
  rw [e2, <- hs] at l
  obtain ⟨T, oT, p⟩ := J2a I hh ha l
  exact k T oT h' p
 unfold noteFrame
 rw [hf]
 refine wpAny_bind (wpAny_field e1 e3 e4 ?_)
 rcases ht with rfl | ⟨T, oT, ts, rfl, q1, q2, q3⟩
 ·rw [if_neg (by decide)]
  exact go s.heap λ _ => rfl
 ·have gT : s.heap.get? T = some oT := (I.hok T _ q1).1
  rw [if_pos (by simp)]
  refine wpAny_bind (wpAny_field gT q2 q3 ?_)
  rw [if_neg (by simp [rawInt])]
  refine wpAny_bind (wpAny_setField gT q2 (Array.getElem?_eq_some_iff.mp q3).1 ?_)
  refine go _ λ b => ?_
  by_cases z : b = T
  ·subst z
   exact (J19 gT q2 q3).trans gT.symm
  ·exact Heap.get?_update_other _ _ (Ne.symm z)
theorem Jwi (I : Inv X pins σ H s) (hs : X.stack = X.env :: X.outer) (hf : X.env.frame = some X.env.locals) (ha : H a = some (ExF a C tv)) (ht : TvOk H tv)
  (k : ∀ T oT h', Past X H s.heap a C T oT h' -> Q () { s with heap := h' }) : wpAny M X.A (leaving X.env (.ref a)) Q E s := by
 unfold leaving
 exact wpAny_bind (Jx4 I hs hf ha ht k)
end
noncomputable def CXI (P : Program) (w : World) : CXT := λ outer H s E e s' => ∃ H', s'.os = s.os /\ AllBare s'.gens /\ Un (frs outer) [] H H' s.heap s'.heap /\ HOk P w H' s'.heap /\ E e none H'
theorem Un.tail {L : Addr} {fs : List Addr} {H H1 H2 : Hp} {h h1 h2 : Heap} (a : Un fs [] H H1 h h1) (b : Un (L :: fs) [] H1 H2 h1 h2) (n : h.get? L = none) : Un fs [] H H2 h h2 where
 keep := λ c o q m hc _ => b.keep c o (a.keep c o q m hc (by simp)) (a.free c o q m (by simp)) (λ z => (List.mem_cons.mp z).elim (λ y => by subst y; rw [n] at q; cases q) hc) (by simp)
 slot := λ c o q m hc _ => by
  obtain ⟨sl, e1⟩ := a.slot c o q m hc (by simp)
  obtain ⟨sl', e2⟩ := b.any e1 (a.free c o q m (by simp)) (by simp)
  exact ⟨sl', e2⟩
 free := λ c o q m _ => by
  obtain ⟨o', e1⟩ := a.there c o q (by simp)
  exact b.free c o' e1 (a.free c o q m (by simp)) (by simp)
 there := λ c o q _ => by
  obtain ⟨o', e1⟩ := a.there c o q (by simp)
  exact b.there c o' e1 (by simp)
 tups := λ c xs q => b.tups c xs (a.tups c xs q)
 frzs := λ c o u q => b.frzs c o u (a.frzs c o u q)
 tbls := λ c ps q => by
  obtain ⟨m1, e1⟩ := a.tbls c ps q
  obtain ⟨m2, e2⟩ := b.tbls c _ e1
  exact ⟨m1 ++ m2, by rw [e2, Array.append_assoc]⟩
section
variable {X : Cx} {pins : List (Addr × Obj)} {σ : L2.St} {H : Hp} {s : Shared} {k : Nat} {f C : Addr} {fd : FuncData} {ps : List Str} {sp : Sp} {dvs : List V} {ds : List Value} {E : XK} {Q : VK} {us : List Value} {vs : List V} {W : Value -> Shared -> Prop}
theorem Jzz {e : Value} {s' : Shared} (I : Inv X pins σ H s) (h : CXI X.prog X.w X.stack H s E e s') : ∃ H', Inv X pins σ H' s' /\ E e none H' := by
 obtain ⟨H', os, bare, un, hok, q⟩ := h
 exact ⟨H', I.call' os un hok bare λ b z => absurd z (by simp), q⟩
theorem J1a (F : FnOk X.prog X.w X.K X.mg X.base (CXI X.prog X.w) k f fd ps sp) (hr : Room k X.A) (hb : Jgr X.K fd ps ds) (hd : Vals dvs ds) (I : Inv X pins σ H s) (r : Vals vs us) (h : sp (vs ++ dvs) H Q E)
  (hx : ∀ e s' H', Inv X pins σ H' s' -> E e none H' -> W e s') : wpAny (model X.prog X.w) X.A (call (.ref f) us) (EP X pins σ Q) W s := by
 have ra : Vals (vs ++ dvs) (us ++ ds) := r.append hd
 have la := ra.length
 have lf := F.len _ _ _ _ h
 refine wpAny_call (codeAny_mono (F.run _ _ _ _ ⟨us, []⟩ _ _ _ _ hr I.env0 (hb s us I.kIn (by omega)) ra h) λ res s' q => ?_)
 match res, q with
 | .error e, q =>
  obtain ⟨H', I', z⟩ := Jzz I q
  exact hx e s' H' I' z
 | .ok (.ret u), q => exact I.after q
 | .ok .next, q => exact False.elim q
 | .ok .brk, q => exact False.elim q
 | .ok .cont, q => exact False.elim q
theorem Jvs (M : Mk X.K C f) (F : FnOk X.prog X.w X.K X.mg X.base (CXI X.prog X.w) k f fd ps sp) (hr : Room (k + 1) X.A) (hb : Jgr X.K fd ps ds) (hd : Vals dvs ds) (I : Inv X pins σ H s) (r : Vals vs us)
  (h : ∀ x dx, H x = none -> H dx = none -> dx ≠ x -> sp (.ref x :: (vs ++ dvs)) (upd (upd H dx (.own x)) x (.ins C dx [])) (λ v H2 => v = .non /\ Q (.ref x) H2) E)
  (hx : ∀ e s' H', Inv X pins σ H' s' -> E e none H' -> W e s') : wpAny (model X.prog X.w) X.A (call (.ref C) us) (EP X pins σ Q) W s := by
 have z0 := s.heap.objs.size
 have hq := h (s.heap.objs.size + 1) s.heap.objs.size (I.hok.fresh (Nat.le_succ _)) (I.hok.fresh (Nat.le_refl _)) (Nat.ne_of_lt (Nat.lt_succ_self _))
 have J := Inv.made (C := C) I
 have ra : Vals (V.ref (s.heap.objs.size + 1) :: (vs ++ dvs)) (Value.ref (s.heap.objs.size + 1) :: (us ++ ds)) := .cons rfl (r.append hd)
 have la := ra.length
 have lf := F.len _ _ _ _ hq
 have hl : (Value.ref (s.heap.objs.size + 1) :: us ++ ds).length = ps.length := by
  rw [List.cons_append]
  omega
 refine wpAny_call (Jzs (f := f) I.kIn M.makes M.init (beq_iff_eq.mp M.fn) (codeAny_mono (F.run _ _ _ _ ⟨.ref (s.heap.objs.size + 1) :: us, []⟩ _ _ _ _ (hr.make C us []) (J.env0.make C us []) (hb _ (.ref (s.heap.objs.size + 1) :: us) J.kIn hl) ra hq) λ res s' q => ?_))
 match res, q with
 | .error e, q =>
  obtain ⟨H', I', z⟩ := Jzz J q
  exact hx e s' H' I' z
 | .ok (.ret u), q =>
  obtain ⟨v, H', J3, rv, ev, q3⟩ := J.after q
  subst ev
  exact ⟨rv, ⟨V.ref (s.heap.objs.size + 1), H', J3, rfl, q3⟩⟩
 | .ok .next, q => exact False.elim q
 | .ok .brk, q => exact False.elim q
 | .ok .cont, q => exact False.elim q
end
end L3
namespace L3
open PySem PySem.Spec PySem.Calls PyProof.Rows L2
section
variable {prog : Program} {w : World} {A : Around} {E : Value -> Shared -> Prop} {s : Shared} {K : W.Frag} {x D : Addr} {ox : Obj}
open PySem.W PySem.Builtin PySem.Builtin.ObjectAttr PySem.Builtin.Getset_descriptor in
end
structure ExI (K : W.Frag) (C : Addr) : Prop where
 ga : W.findIn K (.ref C) "__getattribute__" = some (some (.builtin "BaseException.__getattribute__"))
 mb : W.mroIn K C (.type "BaseException") = some true
 gn : W.findIn K (.ref C) "__getattr__" = some none
 ca : W.findIn K (.ref C) "__class__" = some (some (.builtin "object.__class__"))
 mo : W.mroIn K C (.type "object") = some true
 hd : W.hasDictIn K C = true
theorem ExI.at_ {K : W.Frag} {C : Addr} (e : ExI K C) : ∃ c d cd sl, K.lookup C = some ⟨c, d, .cls cd, sl⟩ := by
 obtain ⟨cd, hc, _⟩ := W.any_some e.hd
 unfold W.clsIn at hc
 split at hc
 case h_2 => cases hc
 rename_i c d cd' sl ho
 exact ⟨c, d, cd', sl, ho⟩
end L3
namespace L3
open PySem PySem.Spec PyProof.Rows L2
noncomputable def Jok (n : Nat) (vs : List IV) : ISt := vs.map some ++ List.replicate (n - vs.length) none
noncomputable def SRes.fin (r : SRes) : Res IV := match r with
 | .next _ h' => .ok .non h'
 | .ret v h' => .ok v h'
 | .exc n _ h' => (match h'[n]? with
  | some (.exc _ _) => .exc n h'
  | _ => .stuck)
 | _ => .stuck
noncomputable def fnI (n : Nat) (m : S1) : List IV -> IH -> Res IV := λ vs h => (m (Jok n vs) h).fin
noncomputable def spI (ce : Str -> Option Addr) (K : W.Frag) (ps : List Str) (f : List IV -> IH -> Res IV) : Sp := λ vs H Q E =>
 vs.length = ps.length /\ ∃ ι h ivs, Rel ce K ι h H /\ RVs K ι H ivs vs /\
  match f ivs h with
  | .ok v h' => ∀ x H' ι', Rel ce K ι' h' H' -> Nxt ι H ι' H' -> RV K ι' H' v x -> Q x H'
  | .exc n h' => ∀ a H' ι', Rel ce K ι' h' H' -> Nxt ι H ι' H' -> ι'[n]? = some a -> E (.ref a) none H'
  | .stuck => False
theorem RVs.start {K : W.Frag} {ι : List Addr} {H : Hp} {N : List Str} {ivs : List IV} {vs : List V} (r : RVs K ι H ivs vs) : RSt K ι H (Jok N.length ivs) (L2.start N vs) := by
 have hl := r.length
 refine ⟨by simp [Jok, L2.start, hl], λ j v e => ?_⟩
 unfold Jok at e
 unfold L2.start
 by_cases hj : j < ivs.length
 ·rw [List.getElem?_append_left (by simpa using hj), List.getElem?_map] at e
  rw [List.getElem?_append_left (by simp; omega), List.getElem?_map]
  cases e1 : ivs[j]? with
  | none => rw [e1] at e; cases e
  | some w =>
   rw [e1] at e
   cases e
   obtain ⟨u, hu, q⟩ := r.get e1
   exact ⟨u, by rw [hu]; rfl, q⟩
 ·rw [List.getElem?_append_right (by simpa using hj), List.getElem?_replicate] at e
  split at e <;> cases e
theorem Js7 {α : Type} : ∀ {l : List α} {i : Nat} {x : α}, l[i]? = some x -> l.set i x = l
 | [], _, _, e => by simp at e
 | a :: l, 0, x, e => by cases e; rfl
 | a :: l, i + 1, x, e => by
  show a :: l.set i x = a :: l
  rw [Js7 (l := l) e]
theorem ro_at {ce : Str -> Option Addr} {K : W.Frag} {ι : List Addr} {h : IH} {H : Hp} {i : Nat} {o : IO} {a : Addr} (R : Rel ce K ι h H) (e : h[i]? = some o) (q : ι[i]? = some a) : RO ce K ι H a o := by
 obtain ⟨b, e1, r⟩ := R.at_ i o e
 rw [q] at e1
 cases e1
 exact r
structure FunD (K : W.Frag) (x qual : Str) (st : Stmt) (f : Addr) (fd : FuncData) (dV : Value) : Prop where
 ex : ∃ (oc : Value) (od : Option Addr) (kV doc pm : Value) (an : Option Addr) (cdv ct : Value) (osl : Array (Option Value)),
  fd = W.fnOf x qual (Ja1 st) (J4 st) (Ji st) dV kV doc pm an cdv ct /\ K.lookup f = some ⟨oc, od, .func fd, osl⟩ /\ W.codeIn K cdv qual = true
 kp : W.keepIn K (.ref f) = true
section
variable {P : Program} {w : World} {K : W.Frag} {mg : Str -> Option Value} {base : Heap} {ce : Str -> Option Addr}
theorem FunD.fn {x qual : Str} {st : Stmt} {f : Addr} {fd : FuncData} {dV : Value} {N ps : List Str} {k n : Nat} {m : S1} (F : FunD K x qual st f fd dV) (S : FnScope N ps (Ji st))
  (hbody : ∀ (cdv : Value) (A : Around) (outer : List Env) (s : Shared) (H : Hp) (E : XK), W.codeIn K cdv qual = true -> Room k (A.deeper (envOfC qual (Ji st) s.heap.objs.size f cdv)) -> PS2 ce (cxOf (CXI P w) P w K mg base N qual (Ji st) f cdv A outer s H E).nox (J4 st) m) (hn : N.length = n := by rfl) :
  FnOk P w K mg base (CXI P w) (k + 1) f fd ps (spI ce K ps (fnI n m)) := by
 subst hn
 obtain ⟨oc, od, kV, doc, pm, an, cdv, ct, osl, rfl, lk, hcd⟩ := F.ex
 refine J4f lk hcd S (λ vs H Q E h => h.1) λ A outer s H vs Q E hr hsp => ?_
 obtain ⟨hl, ι, h, ivs, R, rv, hk⟩ := hsp
 refine ⟨λ D σ H => ∃ ι σi h, Rel ce K ι h H /\ RSt K ι H σi σ /\ match m σi h with
  | .next σi' h' => ∀ σ' H' ι', Rel ce K ι' h' H' -> RSt K ι' H' σi' σ' -> Nxt ι H ι' H' -> D.nx σ' H'
  | .ret v h' => ∀ x H' ι', Rel ce K ι' h' H' -> Nxt ι H ι' H' -> RV K ι' H' v x -> D.rt x H'
  | .exc n _ h' => (∃ c fs, h'[n]? = some (.exc c fs)) /\ ∀ a H' ι', Rel ce K ι' h' H' -> Nxt ι H ι' H' -> ι'[n]? = some a -> E (.ref a) none H'
  | _ => False, λ pins s' σ' H' D I ht => ?_, ι, Jok N.length ivs, h, R, rv.start, ?_⟩
 ·obtain ⟨ι, σi, h, R, rs, hm⟩ := ht
  refine wpAny_mono (hbody cdv A outer s H E hcd hr pins s' σ' H' ι σi h (SP _ pins D) _ ⟨I.wish _, R, rs⟩ ?_) (λ _ _ z => z) (λ _ _ z => z)
  cases e : m σi h with
  | next σ2 h2 =>
   rw [e] at hm
   exact λ s3 σ3 H3 ι3 N3 n3 => ⟨σ3, H3, N3.inv.unwish, hm σ3 H3 ι3 N3.rel N3.st n3⟩
  | ret v h2 =>
   rw [e] at hm
   exact λ u s3 σ3i σ3 H3 ι3 N3 n3 ⟨z, rz, q⟩ => ⟨z, σ3, H3, N3.inv.unwish, rz, hm z H3 ι3 N3.rel n3 q⟩
  | exc j σ2 h2 =>
   rw [e] at hm
   obtain ⟨⟨c, fs, hj⟩, hm⟩ := hm
   intro pl a s3 σ3 H3 ι3 N3 n3 hi
   have I3 := N3.inv.unwish
   obtain ⟨fe, C, tv, hC, ha, ht⟩ := ro_at N3.rel hj hi
   refine Jwi I3 rfl rfl ha ht λ T oT h' p => ?_
   have nl : s.heap.get? s.heap.objs.size = none := Heap.get?_none_of_le (Nat.le_refl _)
   obtain ⟨R4, n4⟩ := N3.rel.grow (o := .frz oT (.own 0)) p.new
   have ha4 : upd H3 T (.frz oT (.own 0)) a = some (ExF a C tv) := by rw [Jg (Ne.symm p.ne)]; exact ha
   obtain ⟨R5, n5⟩ := R4.write hi ha4 (by rw [ha4]; trivial) (o := ExF a C (.ref T)) (io := .exc c fs) ⟨fe, C, .ref T, hC, Jf, .inr ⟨T, oT, _, rfl, by rw [Jg p.ne, Jf], p.fld.choose_spec⟩⟩
   rw [Js7 hj] at R5
   exact ⟨_, I3.os, I3.bare, Un.tail I3.base p.un nl, p.hok, hm a _ ι3 R5 ((n3.trans n4).trans n5) hi⟩
  | _ => rw [e] at hm; exact hm.elim
 ·unfold fnI SRes.fin at hk
  cases e : m (Jok N.length ivs) h with
  | next σ2 h2 =>
   rw [e] at hk
   exact λ σ3 H3 ι3 R3 _ n3 => hk .non H3 ι3 R3 n3 rfl
  | ret v h2 =>
   rw [e] at hk
   exact hk
  | exc j σ2 h2 =>
   rw [e] at hk
   dsimp only at hk
   cases q : h2[j]? with
   | none => rw [q] at hk; exact hk.elim
   | some o =>
    cases o with
    | exc c fs => rw [q] at hk; exact ⟨⟨c, fs, q⟩, hk⟩
    | _ => rw [q] at hk; exact hk.elim
  | _ => rw [e] at hk; exact hk.elim
end
noncomputable def Res.nx {α : Type} : Res α -> Res α
 | .ok a h => .ok a h
 | _ => .stuck
noncomputable def Jn (f : List IV -> IH -> Res IV) (dvs : List IV) (a : A1) : E1 := λ σ h => (a σ h).bind λ vs h1 => f (vs ++ dvs) h1
noncomputable def Jmc (c : Str) (f : List IV -> IH -> Res IV) (dvs : List IV) (a : A1) : E1 := λ σ h => (a σ h).bind λ vs h1 => (f (.ref h1.length :: (vs ++ dvs)) (h1 ++ [.ins c []])).bind λ r h2 => match r with
 | .non => .ok (.ref h1.length) h2
 | _ => .stuck
noncomputable def Jx9 (m : Str) (disp : Str -> Option ((List IV -> IH -> Res IV) × List IV)) (o : E1) (a : A1) : E1 := λ σ h => (o σ h).bind λ v h1 => match v with
 | .ref i => (match h1[i]? with
  | some (.ins c fs) => (match disp c, fs.lookup m with
   | some (f, dvs), none => (a σ h1).bind λ vs h2 => f (.ref i :: (vs ++ dvs)) h2
   | _, _ => .stuck)
  | _ => .stuck)
 | _ => .stuck
section
variable {ce : Str -> Option Addr} {X : Cx} {k : Nat} {fa C : Addr} {fd : FuncData} {ps : List Str} {f : List IV -> IH -> Res IV} {dvs : List IV} {ds : List Value} {x m : Str} {p pos apos : Pos} {e o : Expr} {es : List Expr} {mo : E1} {ma : A1}
theorem RUs.vals {K : W.Frag} {ι : List Addr} {H : Hp} {xs : List IV} {us : List Value} (r : RUs K ι H xs us) : ∃ vs, Vals vs us /\ RVs K ι H xs vs := r
theorem Jmx {pins : List (Addr × Obj)} {σ : L2.St} {H : Hp} {ι : List Addr} {σi : ISt} {h : IH} {s : Shared} {Q : Value -> Shared -> Prop} {E : Value -> Shared -> Prop} {us : List Value} {xs : List IV} (F : FnOk X.prog X.w X.K X.mg X.base (CXI X.prog X.w) k fa fd ps (spI ce X.K ps f)) (hr : Room k X.A) (hb : Jgr X.K fd ps ds)
  (hd : ∃ vs, Vals vs ds /\ ∀ ι H, RVs X.K ι H dvs vs) (hlen : us.length + ds.length = ps.length) (N : Now ce X pins ι σi h σ H s) (r : RUs X.K ι H xs us) (K : Kont ce X RU pins ι σi σ H (f (xs ++ dvs) h) Q E) : wpAny (model X.prog X.w) X.A (call (.ref fa) us) Q E s := by
 obtain ⟨vs, rv, q⟩ := r
 obtain ⟨dv, rd, qd⟩ := hd
 have hl1 := rv.length
 have hl2 := rd.length
 refine wpAny_mono (J1a (Q := λ z H' => ∀ u s', Inv X pins σ H' s' -> RelV z u -> Q u s') (E := λ v _ H' => ∀ s', Inv X pins σ H' s' -> E v s') F hr hb rd N.inv rv ⟨by rw [List.length_append]; omega, ι, h, xs ++ dvs, N.rel, q.append (qd ι H), ?_⟩ λ _ s' _ I' z => z s' I')
  (λ u s' ⟨z, H', I', r', k'⟩ => k' u s' I' r') λ _ _ z => z
 cases e : f (xs ++ dvs) h with
 | ok v h' =>
  rw [e] at K
  exact λ z H' ι' R' n' qz u s' I' ru => K u s' H' ι' ⟨I', R', N.st.mono n'⟩ n' ⟨z, ru, qz⟩
 | exc n h' =>
  rw [e] at K
  exact λ a H' ι' R' n' hi s' I' => K [] a s' H' ι' ⟨by simpa using I', R', N.st.mono n'⟩ n' hi
 | stuck => rw [e] at K; exact K
theorem J5a (F : FnOk X.prog X.w X.K X.mg X.base (CXI X.prog X.w) k fa fd ps (spI ce X.K ps f)) (hr : Room k X.A) (hg : Gl X x) (hm : X.mg x = some (.ref fa)) (hk : W.keepIn X.K (.ref fa) = true) (hb : Jgr X.K fd ps ds) (hd : ∃ vs, Vals vs ds /\ ∀ ι H, RVs X.K ι H dvs vs)
  (ha : PAi ce X (e :: es) ma) (hlen : ∀ σ h xs h', ma σ h = .ok xs h' -> xs.length + ds.length = ps.length) (hdb : (x == ("__debug__" : Str)) = false := by decide) (he : starEach (e :: es) X.env = (false, eval e X.env) :: starEach es X.env := by rfl) (hpl : (backTo pos (starEach es X.env)).any (·.1) = false := by rfl) :
  PEi ce X (.Call (.Name x p) (e :: es) [] pos) (Jn f dvs ma) := by
 intro pins s σ H ι σi h Q E N K
 refine wpAny_Call_Name_kw (Jh1 N.inv hg hm ?_ hdb)
 refine W.callWith_K (h₀ := X.base) N.inv.ok.mod.kin hk ?_ he hpl
 have K' := K
 unfold Jn at K'
 refine ha pos pins s σ H ι σi h _ E N ?_
 cases e0 : ma σi h with
 | exc n h' => rw [e0] at K'; exact K'
 | stuck => rw [e0] at K'; exact K'
 | ok xs h' =>
  rw [e0] at K'
  intro us s1 H1 ι1 N1 n1 r1
  have hl : xs.length = us.length := by
   obtain ⟨vs, rv, q⟩ := r1
   rw [<- rv.length, q.length]
  exact ⟨N1.inv.kIn, Jmx (us := us) F hr hb hd (by have := hlen σi h xs h' e0; omega) N1 r1 (Kont.mono (r := (f (xs ++ dvs) h')) K' n1)⟩
theorem J1j (F : FnOk X.prog X.w X.K X.mg X.base (CXI X.prog X.w) k fa fd ps (spI ce X.K ps f)) (hr : Room k X.A) (hg : Gl X x) (hm : X.mg x = some (.ref fa)) (hk : W.keepIn X.K (.ref fa) = true) (hb : Jgr X.K fd ps ds) (hd : ∃ vs, Vals vs ds /\ ∀ ι H, RVs X.K ι H dvs vs)
  (hlen : ds.length = ps.length) (hdb : (x == ("__debug__" : Str)) = false := by decide) : PEi ce X (.Call (.Name x p) [] [] pos) (Jn f dvs aNil) := by
 intro pins s σ H ι σi h Q E N K
 refine wpAny_Call_Name_kw (Jh1 N.inv hg hm ?_ hdb)
 exact W.callWith_K0 N.inv.kIn hk (Jmx (xs := []) F hr hb hd (by simpa using hlen) N .nil K)
theorem Jqa {c : Str} {pins : List (Addr × Obj)} {σ : L2.St} {H : Hp} {ι : List Addr} {σi : ISt} {h : IH} {s : Shared} {Q : Value -> Shared -> Prop} {E : Value -> Shared -> Prop} {us : List Value} {xs : List IV} (M : Mk X.K C fa) (F : FnOk X.prog X.w X.K X.mg X.base (CXI X.prog X.w) k fa fd ps (spI ce X.K ps f)) (hC : ce c = some C) (hr : Room (k + 1) X.A) (hb : Jgr X.K fd ps ds)
  (hd : ∃ vs, Vals vs ds /\ ∀ ι H, RVs X.K ι H dvs vs) (hlen : us.length + ds.length + 1 = ps.length) (N : Now ce X pins ι σi h σ H s) (r : RUs X.K ι H xs us)
  (K : Kont ce X RU pins ι σi σ H ((f (.ref h.length :: (xs ++ dvs)) (h ++ [.ins c []])).bind λ r h2 => match r with | .non => .ok (.ref h.length) h2 | _ => .stuck) Q E) : wpAny (model X.prog X.w) X.A (call (.ref C) us) Q E s := by
 obtain ⟨vs, rv, q⟩ := r
 obtain ⟨dv, rd, qd⟩ := hd
 have hl1 := rv.length
 have hl2 := rd.length
 refine wpAny_mono (Jvs (Q := λ z H' => ∀ u s', Inv X pins σ H' s' -> RelV z u -> Q u s') (E := λ v _ H' => ∀ s', Inv X pins σ H' s' -> E v s') M F hr hb rd N.inv rv (λ x dx hx hdx hne => ⟨by rw [List.length_cons, List.length_append]; omega, ?_⟩) λ _ s' _ I' z => z s' I')
  (λ u s' ⟨z, H', I', r', k'⟩ => k' u s' I' r') λ _ _ z => z
 -- the new instance in the reading's heap
 obtain ⟨R1, n1⟩ := N.rel.grow (o := .own x) hdx
 have hx1 : upd H dx (.own x) x = none := by rw [Jg (Ne.symm hne)]; exact hx
 obtain ⟨R2, n2⟩ := R1.alloc (o := .ins C dx []) (io := .ins c []) hx1 ⟨C, dx, [], hC, Jf, rfl⟩
 have n12 := n1.trans n2
 have hat : (ι ++ [x])[h.length]? = some x := by
  rw [<- N.rel.len, List.getElem?_append_right (Nat.le_refl _)]
  simp
 refine ⟨ι ++ [x], h ++ [.ins c []], .ref h.length :: (xs ++ dvs), R2, ⟨_, _, rfl, ⟨x, rfl, hat⟩, (RVs.mono n12 _ _ q).append (qd _ _)⟩, ?_⟩
 cases e : f (.ref h.length :: (xs ++ dvs)) (h ++ [.ins c []]) with
 | ok v h' =>
  rw [e] at K
  intro z H' ι' R' n' qz
  cases v with
  | non =>
   have ez : z = .non := qz
   subst ez
   exact ⟨rfl, λ u s' I' ru => K u s' H' ι' ⟨I', R', N.st.mono (n12.trans n')⟩ (n12.trans n') ⟨.ref x, ru, x, rfl, n'.at hat⟩⟩
  | _ => exact Zf K
 | exc n h' =>
  rw [e] at K
  exact λ a H' ι' R' n' hi s' I' => K [] a s' H' ι' ⟨by simpa using I', R', N.st.mono (n12.trans n')⟩ (n12.trans n') hi
 | stuck => rw [e] at K; exact Zf K
theorem J5e {c : Str} (M : Mk X.K C fa) (F : FnOk X.prog X.w X.K X.mg X.base (CXI X.prog X.w) k fa fd ps (spI ce X.K ps f)) (hC : ce c = some C) (hr : Room (k + 1) X.A) (hg : Gl X x) (hm : X.mg x = some (.ref C)) (hb : Jgr X.K fd ps ds) (hd : ∃ vs, Vals vs ds /\ ∀ ι H, RVs X.K ι H dvs vs)
  (ha : PAi ce X (e :: es) ma) (hlen : ∀ σ h xs h', ma σ h = .ok xs h' -> xs.length + ds.length + 1 = ps.length) (hdb : (x == ("__debug__" : Str)) = false := by decide) (he : starEach (e :: es) X.env = (false, eval e X.env) :: starEach es X.env := by rfl) (hpl : (backTo pos (starEach es X.env)).any (·.1) = false := by rfl) :
  PEi ce X (.Call (.Name x p) (e :: es) [] pos) (Jmc c f dvs ma) := by
 intro pins s σ H ι σi h Q E N K
 refine wpAny_Call_Name_kw (Jh1 N.inv hg hm ?_ hdb)
 refine W.callWith_K (h₀ := X.base) N.inv.ok.mod.kin M.kp ?_ he hpl
 have K' := K
 unfold Jmc at K'
 refine ha pos pins s σ H ι σi h _ E N ?_
 cases e0 : ma σi h with
 | exc n h' => rw [e0] at K'; exact K'
 | stuck => rw [e0] at K'; exact K'
 | ok xs h' =>
  rw [e0] at K'
  intro us s1 H1 ι1 N1 n1 r1
  have hl : xs.length = us.length := by
   obtain ⟨vs, rv, q⟩ := r1
   rw [<- rv.length, q.length]
  exact ⟨N1.inv.kIn, Jqa (us := us) M F hC hr hb hd (by have := hlen σi h xs h' e0; omega) N1 r1 (Kont.mono (r := (f (IV.ref h'.length :: (xs ++ dvs)) (h' ++ [.ins c []])).bind λ r h2 => match r with | IV.non => Res.ok (IV.ref h'.length) h2 | _ => Res.stuck) K' n1)⟩
theorem J2w {c : Str} (M : Mk X.K C fa) (F : FnOk X.prog X.w X.K X.mg X.base (CXI X.prog X.w) k fa fd ps (spI ce X.K ps f)) (hC : ce c = some C) (hr : Room (k + 1) X.A) (hg : Gl X x) (hm : X.mg x = some (.ref C)) (hb : Jgr X.K fd ps ds) (hd : ∃ vs, Vals vs ds /\ ∀ ι H, RVs X.K ι H dvs vs)
  (hlen : ds.length + 1 = ps.length) (hdb : (x == ("__debug__" : Str)) = false := by decide) : PEi ce X (.Call (.Name x p) [] [] pos) (Jmc c f dvs aNil) := by
 intro pins s σ H ι σi h Q E N K
 refine wpAny_Call_Name_kw (Jh1 N.inv hg hm ?_ hdb)
 exact W.callWith_K0 N.inv.kIn M.kp (Jqa (xs := []) M F hC hr hb hd (by simpa using hlen) N .nil K)
noncomputable def Jxi (ce : Str -> Option Addr) (X : Cx) (m : Str) (n : Nat) (disp : Str -> Option ((List IV -> IH -> Res IV) × List IV)) : Prop :=
 ∀ c f dvs, disp c = some (f, dvs) -> ∃ (C fa : Addr) (fd : FuncData) (k : Nat) (ps : List Str) (ds : List Value), ce c = some C /\ Cls X.K C /\ Meth X.K C m fa /\ FnOk X.prog X.w X.K X.mg X.base (CXI X.prog X.w) k fa fd ps (spI ce X.K ps f) /\ Room k X.A /\ Jgr X.K fd ps ds /\ (∃ vs, Vals vs ds /\ ∀ ι H, RVs X.K ι H dvs vs) /\ n + ds.length + 1 = ps.length
theorem J32 {n : Nat} {disp : Str -> Option ((List IV -> IH -> Res IV) × List IV)} {pl : Sem Bool} (ho : PEi ce X o mo) (hd : Jxi ce X m n disp) (ha : PAi ce X (e :: es) ma) (hlen : ∀ σ h xs h', ma σ h = .ok xs h' -> xs.length = n)
  (hst : starEach (e :: es) X.env = (false, eval e X.env) :: starEach es X.env := by rfl) (hpl : (backTo pos (starEach es X.env)).any (·.1) = false := by rfl)
  (ht : eval (.Call (.Attribute o m apos) (e :: es) [] pos) X.env = (do
   let ov <- eval o X.env
   standAt apos.atName
   let (f, first) <- holding [ov] (getMethod ov m pl)
   callWith pos f first (backTo pos (starEach (e :: es) X.env)) (backToKw pos (keywordEach [] X.env))) := by rfl) :
  PEi ce X (.Call (.Attribute o m apos) (e :: es) [] pos) (Jx9 m disp mo ma) := by
 intro pins s σ H ι σi h Q E N K
 refine W.methodCall_KW (pl := pl) (ho.run N K λ v h1 u s1 H1 ι1 N1 n1 r1 K1 => ?_) ht
 cases v with
 | ref i =>
  obtain ⟨w, rw', a, e1, hi⟩ := r1
  subst e1
  cases rw'
  dsimp only at K1
  cases hh : h1[i]? with
  | none => rw [hh] at K1; exact Zf K1
  | some ob =>
   cases ob with
   | ins c fs =>
    rw [hh] at K1
    dsimp only at K1
    cases hd1 : disp c with
    | none => rw [hd1] at K1; exact Zf K1
    | some fd1 =>
     obtain ⟨f, dvs⟩ := fd1
     cases hl : fs.lookup m with
     | some z => rw [hd1, hl] at K1; exact Zf K1
     | none =>
      rw [hd1, hl] at K1
      dsimp only at K1
      obtain ⟨C, fa, fd, k, ps, ds, hC, cl, hm, F, hr, hb, hdv, hn⟩ := hd c f dvs hd1
      obtain ⟨C', dx, vs, hC', hH, rp⟩ := N1.at hh hi
      rw [hC] at hC'
      cases hC'
      refine Jod N1.inv hH cl hm ((RPs.lookup rp).2 hl) ?_
      refine W.callWith_K (first := [.ref a]) (h₀ := X.base) N1.inv.ok.mod.kin hm.kp ?_ hst hpl
      refine ha pos pins s1 σ H1 ι1 σi h1 _ E N1 ?_
      cases e0 : ma σi h1 with
      | exc n h' => rw [e0] at K1; exact K1
      | stuck => rw [e0] at K1; exact K1
      | ok xs h' =>
       rw [e0] at K1
       intro us s2 H2 ι2 N2 n2 r2
       have hl : xs.length = us.length := by
        obtain ⟨vs, rv, q⟩ := r2
        rw [<- rv.length, q.length]
       have hl2 := hlen σi h1 xs h' e0
       refine ⟨N2.inv.kIn, Jmx (us := .ref a :: us) (xs := .ref i :: xs) F hr hb hdv (by rw [List.length_cons]; omega) N2 (.cons ⟨.ref a, rfl, a, rfl, n2.at hi⟩ r2) ?_⟩
       exact Kont.mono (r := (f (.ref i :: (xs ++ dvs)) h')) K1 n2
   | _ => rw [hh] at K1; exact Zf K1
 | _ => exact Zf K1
theorem J1l {disp : Str -> Option ((List IV -> IH -> Res IV) × List IV)} {pl : Sem Bool} (ho : PEi ce X o mo) (hd : Jxi ce X m 0 disp)
  (ht : eval (.Call (.Attribute o m apos) [] [] pos) X.env = (do
   let ov <- eval o X.env
   standAt apos.atName
   let (f, first) <- holding [ov] (getMethod ov m pl)
   callWith pos f first (backTo pos (starEach [] X.env)) (backToKw pos (keywordEach [] X.env))) := by rfl) :
  PEi ce X (.Call (.Attribute o m apos) [] [] pos) (Jx9 m disp mo aNil) := by
 intro pins s σ H ι σi h Q E N K
 refine W.methodCall_KW (pl := pl) (ho.run N K λ v h1 u s1 H1 ι1 N1 n1 r1 K1 => ?_) ht
 cases v with
 | ref i =>
  obtain ⟨w, rw', a, e1, hi⟩ := r1
  subst e1
  cases rw'
  dsimp only at K1
  cases hh : h1[i]? with
  | none => rw [hh] at K1; exact Zf K1
  | some ob =>
   cases ob with
   | ins c fs =>
    rw [hh] at K1
    dsimp only at K1
    cases hd1 : disp c with
    | none => rw [hd1] at K1; exact Zf K1
    | some fd1 =>
     obtain ⟨f, dvs⟩ := fd1
     cases hl : fs.lookup m with
     | some z => rw [hd1, hl] at K1; exact Zf K1
     | none =>
      rw [hd1, hl] at K1
      dsimp only at K1
      obtain ⟨C, fa, fd, k, ps, ds, hC, cl, hm, F, hr, hb, hdv, hn⟩ := hd c f dvs hd1
      obtain ⟨C', dx, vs, hC', hH, rp⟩ := N1.at hh hi
      rw [hC] at hC'
      cases hC'
      refine Jod N1.inv hH cl hm ((RPs.lookup rp).2 hl) ?_
      exact W.callWith_K0 (first := [.ref a]) N1.inv.kIn hm.kp (Jmx (us := [.ref a]) (xs := [.ref i]) F hr hb hdv (by rw [List.length_cons, List.length_nil]; omega) N1 (.cons ⟨.ref a, rfl, a, rfl, hi⟩ .nil) K1)
   | _ => rw [hh] at K1; exact Zf K1
 | _ => exact Zf K1
noncomputable def eFld (f : Str) (o : E1) : E1 := λ σ h => (o σ h).bind λ v h1 => match v with
 | .ref i => (match h1[i]? with
  | some (.ins _ fs) => (match fs.lookup f with
   | some x => .ok x h1
   | none => .stuck)
  | _ => .stuck)
 | _ => .stuck
noncomputable def Jyj (ce : Str -> Option Addr) (K : W.Frag) (f : Str) : Prop := ∀ c C, ce c = some C -> Cls K C /\ Jc8 K C f
theorem i_fld {fl : Str} (ho : PEi ce X o mo) (hf : Jyj ce X.K fl) (hb : attributeBase o fl X.env (eval o X.env) = eval o X.env := by rfl) : PEi ce X (.Attribute o fl pos) (eFld fl mo) := by
 intro pins s σ H ι σi h Q E N K
 refine J13 hb (ho.run N K λ v h1 u s1 H1 ι1 N1 n1 r1 K1 => ?_)
 cases v with
 | ref i =>
  obtain ⟨w, rw', a, e1, hi⟩ := r1
  subst e1
  cases rw'
  dsimp only at K1
  cases hh : h1[i]? with
  | none => rw [hh] at K1; exact Zf K1
  | some ob =>
   cases ob with
   | ins c fs =>
    rw [hh] at K1
    dsimp only at K1
    cases hl : fs.lookup fl with
    | none => rw [hl] at K1; exact Zf K1
    | some z =>
     rw [hl] at K1
     obtain ⟨C, dx, vs, hC, hH, rp⟩ := N1.at hh hi
     obtain ⟨cl, na⟩ := hf c C hC
     obtain ⟨y, hy, q⟩ := (RPs.lookup rp).1 z hl
     exact Jt8 N1.inv hH cl na hy λ u' s2 I2 ru => K1 u' s2 H1 ι1 ⟨I2, N1.rel, N1.st⟩ .refl ⟨y, ru, q⟩
   | _ => rw [hh] at K1; exact Zf K1
 | _ => exact Zf K1
noncomputable def putI (f : Str) (v : IV) : List (Str × IV) -> List (Str × IV)
 | [] => [(f, v)]
 | (g, x) :: r => if g = f then (g, v) :: r else (g, x) :: putI f v r
theorem RPs.put {K : W.Frag} {ι : List Addr} {H : Hp} {fl : Str} {v : IV} {y : V} (q : RV K ι H v y) : ∀ {fs : List (Str × IV)} {vs : List (Str × V)}, RPs K ι H fs vs -> RPs K ι H (putI fl v fs) (putF fl y vs)
 | [], _, h => by
  have e : _ = [] := h
  subst e
  exact ⟨y, [], rfl, q, rfl⟩
 | (g, x) :: r, _, h => by
  obtain ⟨w, vr, e, qx, t⟩ := h
  subst e
  show RPs K ι H (if g = fl then (g, v) :: r else (g, x) :: putI fl v r) (if g = fl then (g, y) :: vr else (g, w) :: putF fl y vr)
  by_cases hg : g = fl
  ·rw [if_pos hg, if_pos hg]
   exact ⟨y, vr, rfl, q, t⟩
  ·rw [if_neg hg, if_neg hg]
   exact ⟨w, _, rfl, qx, RPs.put q t⟩
noncomputable def Jiq (f : Str) (o e : E1) : S1 := λ σ h => rS σ (e σ h) λ v h1 => rS σ (o σ h1) λ ov h2 => match ov with
 | .ref i => (match h2[i]? with
  | some (.ins c fs) => if fs.length < 1000 then .next σ (h2.set i (.ins c (putI f v fs))) else .stuck
  | _ => .stuck)
 | _ => .stuck
theorem s_fld {fl : Str} {value : Expr} {mv : E1} {pos' : Pos} (ho : PEi ce X o mo) (hv : PEi ce X value mv) (hf : Jyj ce X.K fl) (hs : swapsWith value (some (.Attribute o fl pos')) pos.line X.env = pure false := by rfl) : PS1 ce X (.Assign [.Attribute o fl pos'] value pos) (Jiq fl mo mv) := by
 intro pins s σ H ι σi h Q E N K
 refine plainObj_wpAny_Assign_Attribute (krun hv N K λ v h1 u s1 H1 ι1 N1 n1 r1 K1 => krun ho N1 K1 λ ov h2 w s2 H2 ι2 N2 n2 r2 K2 => ?_) hs
 cases ov with
 | ref i =>
  obtain ⟨w, rw', a, e1, hi⟩ := r2
  subst e1
  cases rw'
  dsimp only at K2
  cases hh : h2[i]? with
  | none => rw [hh] at K2; exact Zf K2
  | some ob =>
   cases ob with
   | ins c fs =>
    rw [hh] at K2
    dsimp only at K2
    split at K2
    ·rename_i hz
     obtain ⟨C, dx, vs, hC, hH, rp⟩ := N2.at hh hi
     obtain ⟨cl, na⟩ := hf c C hC
     obtain ⟨y, ry, q⟩ := r1
     refine Jus N2.inv hH cl na (by rw [rp.length]; exact hz) ry λ s3 I3 => ?_
     have n3 : Nxt ι2 H2 ι2 (upd H2 a (.ins C dx (putF fl y vs))) := ⟨⟨[], by simp⟩, Ext.upd_mut hH (by rw [hH]; exact True.intro)⟩
     obtain ⟨R3, _⟩ := N2.rel.write (o := .ins C dx (putF fl y vs)) (io := .ins c (putI fl v fs)) hi hH (by rw [hH]; exact True.intro) ⟨C, dx, _, hC, Jf, RPs.put (RV.mono (n2.trans n3) _ _ q) (RPs.mono n3 _ _ rp)⟩
     exact K2 s3 σ _ ι2 ⟨I3, R3, N2.st.mono n3⟩ n3
    ·exact Zf K2
   | _ => rw [hh] at K2; exact Zf K2
 | _ => exact Zf K2
end
end L3
namespace L3
open PySem PySem.Spec PyProof.Rows L2
section
variable {ce : Str -> Option Addr} {X : Cx} {a b c : Expr} {ma mb mc : E1} {pos : Pos}
noncomputable def opIx : IV -> IV -> IH -> Res IV
 | .ref i, .int k, h => match h[i]? with
  | some (.lst xs) => (match atI xs k with
   | some v => .ok v h
   | none => .stuck)
  | _ => .stuck
 | .rol xs, .int k, h => match atI xs k with
  | some v => .ok v h
  | none => .stuck
 | .tup xs, .int k, h => match atI xs k with
  | some v => .ok v h
  | none => .stuck
 | .str x, .int k, h => if x.length <= sizeLine then (match atI x.cps.toList k with
  | some c => .ok (.str ⟨#[c]⟩) h
  | none => .stuck) else .stuck
 | _, _, _ => .stuck
theorem Jr4 {K : W.Frag} {ι : List Addr} {H : Hp} {xs : List IV} {vs : List V} {k : Int} {v : IV} (r : RVs K ι H xs vs) (e : atI xs k = some v) : ∃ u, atI vs k = some u /\ RV K ι H v u := by
 unfold atI at e ⊢
 rw [r.length]
 cases q : ixN xs.length k with
 | none => rw [q] at e; cases e
 | some j =>
  rw [q] at e
  exact r.get e
noncomputable def IxI (ce : Str -> Option Addr) (X : Cx) (g : IV -> IV -> IH -> Res IV) : Prop :=
 ∀ (value slice : Expr) (pins : List (Addr × Obj)) (s : Shared) (σ : L2.St) (H : Hp) (ι : List Addr) (σi : ISt) (h : IH) (x y : IV) (v u : Value) (Q : Value -> Shared -> Prop) (E : Value -> Shared -> Prop), Now ce X pins ι σi h σ H s -> RU X.K ι H x v -> RU X.K ι H y u ->
  Kont ce X RU pins ι σi σ H (g x y h) Q E -> subscripted slice false v u = operate [v, u] (getItem v u) -> wpAny (model X.prog X.w) X.A (subscriptTail value slice v u) Q E s
theorem Jth {pins : List (Addr × Obj)} {s : Shared} {σ : L2.St} {H : Hp} {Q : Value -> Shared -> Prop} {E : Value -> Shared -> Prop} {r : R2} {value slice : Expr} {x y : V} {v u : Value} (p : IxR (X.wish E) r) (I : Inv X pins σ H s) (rx : RelV x v) (ry : RelV y u)
  (k : r x y H λ z H' => ∀ u s', Inv X pins σ H' s' -> RelV z u -> Q u s') (hs : subscripted slice false v u = operate [v, u] (getItem v u)) : wpAny (model X.prog X.w) X.A (subscriptTail value slice v u) Q E s :=
 wpAny_mono (p value slice pins s σ H x y v u _ (I.wish E) rx ry k hs) (λ u s' ⟨_, _, I', r, q⟩ => q u s' I'.unwish r) λ _ _ z => z
theorem x_ix : IxI ce X opIx := by
 intro value slice pins s σ H ι σi h x y v u Q E N rx ry K hs
 obtain ⟨xv, rx, qx⟩ := rx
 obtain ⟨yv, ry, qy⟩ := ry
 cases y with
 | int k =>
  have e2 : yv = .int k := qy
  subst e2
  cases x with
  | ref i =>
   obtain ⟨a, e1, ha⟩ := qx
   subst e1
   dsimp only [opIx] at K
   cases hi : h[i]? with
   | none => rw [hi] at K; exact Zf K
   | some ob =>
    rw [hi] at K
    cases ob with
    | lst xs =>
     dsimp only at K
     cases hk : atI xs k with
     | none => rw [hk] at K; exact Zf K
     | some z =>
      rw [hk] at K
      obtain ⟨vs, e1, r1⟩ := N.at hi ha
      obtain ⟨w, hw, qw⟩ := Jr4 r1 hk
      exact Jth (Jwr (X := X.wish E)) N.inv rx ry ⟨a, vs, k, w, rfl, rfl, SqL.of e1, hw, fin0 N K qw⟩ hs
    | _ => exact Zf K
  | rol xs =>
   obtain ⟨a, vs, e1, sa, ra⟩ := qx
   subst e1
   dsimp only [opIx] at K
   cases hk : atI xs k with
   | none => rw [hk] at K; exact Zf K
   | some z =>
    rw [hk] at K
    obtain ⟨w, hw, qw⟩ := Jr4 ra hk
    exact Jth (Jwr (X := X.wish E)) N.inv rx ry ⟨a, vs, k, w, rfl, rfl, sa.sq, hw, fin0 N K qw⟩ hs
  | tup xs =>
   obtain ⟨a, vs, e1, sa, ra⟩ := qx
   subst e1
   dsimp only [opIx] at K
   cases hk : atI xs k with
   | none => rw [hk] at K; exact Zf K
   | some z =>
    rw [hk] at K
    obtain ⟨w, hw, qw⟩ := Jr4 ra hk
    exact Jth (J4e (X := X.wish E)) N.inv rx ry ⟨a, vs, k, w, rfl, rfl, sa, hw, fin0 N K qw⟩ hs
  | str x =>
   have e1 : xv = .str x := qx
   subst e1
   dsimp only [opIx] at K
   split at K
   ·rename_i hz
    cases hk : atI x.cps.toList k with
    | none => rw [hk] at K; exact Zf K
    | some z =>
     rw [hk] at K
     exact Jth (J3k (X := X.wish E)) N.inv rx ry ⟨x, k, z, rfl, rfl, hz, hk, fin0 N K rfl⟩ hs
   ·exact Zf K
  | _ => exact Zf K
 | _ => cases x <;> exact Zf K
theorem i_ix {g : IV -> IV -> IH -> Res IV} (hg : IxI ce X g) (ha : PEi ce X a ma) (hb : PEi ce X b mb) (hs : Jwz b := by intro _ _; rfl) : PEi ce X (.Subscript a b pos) (eBin g ma mb) := λ pins s σ H ι σi h Q E N K =>
 Subscript_ (ha.run N K λ x h1 u s1 H1 ι1 N1 n1 r1 K1 => hb.run N1 K1 λ y h2 w s2 H2 ι2 N2 n2 r2 K2 => hg a b pins s2 σ H2 ι2 σi h2 x y u w Q E N2 (r1.mono n2) r2 K2 (hs _ _))
noncomputable abbrev O1 := ISt -> IH -> Res (Option Int)
noncomputable def RPart : REL (Option Int) Value := λ _ _ _ o u => IsPart u o
noncomputable def PPi (ce : Str -> Option Addr) (X : Cx) (e : Option Expr) (m : O1) : Prop := PX ce X RPart (evalPart e X.env) m
noncomputable def Jpg : O1 := λ _ h => .ok none h
noncomputable def Jld (e : E1) : O1 := λ σ h => (e σ h).bind λ v h1 => match v with
 | .int i => .ok (some i) h1
 | _ => .stuck
theorem J5u : PPi ce X none Jpg := by
 intro pins s σ H ι σi h Q E N K
 rw [evalPart_none]
 exact wpAny_pure (K _ s H ι N .refl .none)
theorem J44 (ha : PEi ce X a ma) : PPi ce X (some a) (Jld ma) := by
 intro pins s σ H ι σi h Q E N K
 rw [evalPart_some]
 refine ha.run N K λ x h1 u s1 H1 ι1 N1 n1 r1 K1 => ?_
 cases x with
 | int i =>
  obtain ⟨w, rw', q⟩ := r1
  have e : w = .int i := q
  subst e
  obtain ⟨t, rfl⟩ := rw'
  exact K1 _ s1 H1 ι1 N1 .refl (.int i t)
 | _ => exact Zf K1
noncomputable def cutI {α : Type} (xs : List α) (lo hi : Option Int) : List α := (xs.drop (HT.sIx xs.length 0 lo)).take (HT.sIx xs.length xs.length hi - HT.sIx xs.length 0 lo)
noncomputable def slI : IV -> Option Int -> Option Int -> IH -> Res IV
 | .ref i, lo, hi, h => match h[i]? with
  | some (.lst xs) => .ok (.ref h.length) (h ++ [.lst (cutI xs lo hi)])
  | _ => .stuck
 | .rol xs, lo, hi, h => .ok (.ref h.length) (h ++ [.lst (cutI xs lo hi)])
 | .tup xs, lo, hi, h => if HT.sIx xs.length 0 lo = 0 /\ HT.sIx xs.length xs.length hi = xs.length then .stuck else .ok (.tup (cutI xs lo hi)) h
 | _, _, _, _ => .stuck
theorem RVs.cut {K : W.Frag} {ι : List Addr} {H : Hp} {xs : List IV} {vs : List V} (r : RVs K ι H xs vs) (lo hi : Option Int) : RVs K ι H (cutI xs lo hi) (cutV vs lo hi) := by
 unfold cutI cutV
 rw [r.length]
 exact (r.drop _).take _
noncomputable def eSl (f : IV -> Option Int -> Option Int -> IH -> Res IV) (e : E1) (lo hi : O1) : E1 := λ σ h => (e σ h).bind λ x h1 => (lo σ h1).bind λ l h2 => (hi σ h2).bind λ u h3 => f x l u h3
noncomputable def SlI (ce : Str -> Option Addr) (X : Cx) (g : IV -> Option Int -> Option Int -> IH -> Res IV) : Prop :=
 ∀ (pins : List (Addr × Obj)) (s : Shared) (σ : L2.St) (H : Hp) (ι : List Addr) (σi : ISt) (h : IH) (x : IV) (v vl vu : Value) (lo hi : Option Int) (sl : Addr) (Q : Value -> Shared -> Prop) (E : Value -> Shared -> Prop), Now ce X pins ι σi h σ H s -> RU X.K ι H x v -> s.heap.IsSliceOf sl vl vu .none -> IsPart vl lo -> IsPart vu hi ->
  Kont ce X RU pins ι σi σ H (g x lo hi h) Q E -> ∃ T id, typeLookup (.type T) "__getitem__" = pure (some (.builtin id)) /\ s.TypeIs v T /\ wpAny (model X.prog X.w) X.A (getItem v (.ref sl)) Q E s
theorem Ju3 {pins : List (Addr × Obj)} {s : Shared} {σ : L2.St} {H : Hp} {Q : Value -> Shared -> Prop} {E : Value -> Shared -> Prop} {r : V -> Option Int -> Option Int -> Hp -> VK -> Prop} {x : V} {v vl vu : Value} {lo hi : Option Int} {sl : Addr} (p : SlR (X.wish E) r) (I : Inv X pins σ H s) (rx : RelV x v)
  (hs : s.heap.IsSliceOf sl vl vu .none) (pl : IsPart vl lo) (pu : IsPart vu hi) (k : r x lo hi H λ z H' => ∀ u s', Inv X pins σ H' s' -> RelV z u -> Q u s') :
  ∃ T id, typeLookup (.type T) "__getitem__" = pure (some (.builtin id)) /\ s.TypeIs v T /\ wpAny (model X.prog X.w) X.A (getItem v (.ref sl)) Q E s := by
 obtain ⟨T, id, h1, h2, h3⟩ := p pins s σ H x v vl vu lo hi sl _ (I.wish E) rx hs pl pu k
 exact ⟨T, id, h1, h2, wpAny_mono h3 (λ u s' ⟨_, _, I', r, q⟩ => q u s' I'.unwish r) λ _ _ z => z⟩
theorem J2j {g : IV -> Option Int -> Option Int -> IH -> Res IV} {lo hi : Option Expr} {ml mh : O1} {p2 : Pos} (hr : SlI ce X g) (he : PEi ce X a ma) (hl : PPi ce X lo ml) (hu : PPi ce X hi mh) : PEi ce X (.Subscript a (.Slice lo hi none p2) pos) (eSl g ma ml mh) := by
 intro pins s σ H ι σi h Q E N K
 refine Subscript_ (he.run N K λ x h1 v s1 H1 ι1 N1 n1 r1 K1 => ?_)
 refine wpAny_Slice (PX.run hl N1 K1 λ l h2 vl s2 H2 ι2 N2 n2 pl K2 => PX.run hu N2 K2 λ u h3 vu s3 H3 ι3 N3 n3 pu K3 => ?_)
 rw [evalPart_none]
 refine wpAny_pure ?_
 have I4 : Inv X pins σ H3 { s3 with heap := s3.heap.push { cls := .type "slice", data := .fields #[vl, vu, .none] } } := N3.inv.kept (t' := s3.toks) λ b ob q => Heap.get?_push_of_some _ q
 obtain ⟨T, id, hT, ht, hg⟩ := hr pins { s3 with heap := s3.heap.push { cls := .type "slice", data := .fields #[vl, vu, .none] } } σ H3 ι3 σi h3 x v vl vu l u s3.heap.objs.size Q E ⟨I4, N3.rel, N3.st⟩ ((r1.mono n2).mono n3) (Heap.IsSliceOf.new ..) pl pu K3
 show wpAny (model X.prog X.w) X.A (subscriptTail a (.Slice lo hi none p2) v (.ref s3.heap.objs.size)) Q E { s3 with heap := s3.heap.push { cls := .type "slice", data := .fields #[vl, vu, .none] } }
 exact tail_any (ops := [.ref s3.heap.objs.size, v]) ht hT hg (by with_unfolding_all rfl)
noncomputable def eCB (f : List IV -> IH -> Res IV) (a : A1) : E1 := λ σ h => (a σ h).bind f
variable {es : List Expr} {mr : A1} {x : Str} {p : Pos} {id T : String} {g : List IV -> IH -> Res IV}
theorem Jdx (hc : Ji1 ce X (.builtin id) g) (hg : Gl X x) (hm : X.mg x = none) (hv : bootBuiltins x = some (.builtin id)) (ha : PAi ce X (a :: es) mr) (hn : x ≠ "__name__" := by decide) (hdb : (x == ("__debug__" : Str)) = false := by decide)
  (he : starEach (a :: es) X.env = (false, eval a X.env) :: starEach es X.env := by rfl) (hpl : (backTo pos (starEach es X.env)).any (·.1) = false := by rfl) : PEi ce X (.Call (.Name x p) (a :: es) [] pos) (eCB g mr) := λ pins s σ H ι σi h Q E N K =>
 wpAny_Call_Name_kw (Jdh N.inv hg hm hv (PyProof.Rows.callWith_builtin1 ((ha pos).run N K λ xs h1 us s1 H1 ι1 N1 n1 r1 K1 => hc pins s1 σ H1 ι1 σi h1 xs us Q E N1 r1 K1) he hpl) hn hdb)
theorem Jwe (hc : Ji1 ce X (.type T) g) (hg : Gl X x) (hm : X.mg x = none) (hv : bootBuiltins x = some (.type T)) (ha : PAi ce X (a :: es) mr) (hn : x ≠ "__name__" := by decide) (hdb : (x == ("__debug__" : Str)) = false := by decide)
  (he : starEach (a :: es) X.env = (false, eval a X.env) :: starEach es X.env := by rfl) (hpl : (backTo pos (starEach es X.env)).any (·.1) = false := by rfl) : PEi ce X (.Call (.Name x p) (a :: es) [] pos) (eCB g mr) := λ pins s σ H ι σi h Q E N K =>
 wpAny_Call_Name_kw (Jdh N.inv hg hm hv (PyProof.Rows.callWith_type1 ((ha pos).run N K λ xs h1 us s1 H1 ι1 N1 n1 r1 K1 => hc pins s1 σ H1 ι1 σi h1 xs us Q E N1 r1 K1) he hpl) hn hdb)
noncomputable def on1 (f : IV -> IH -> Res IV) : List IV -> IH -> Res IV
 | [x], h => f x h
 | _, _ => .stuck
noncomputable def on2 (f : IV -> IV -> IH -> Res IV) : List IV -> IH -> Res IV
 | [x, y], h => f x y h
 | _, _ => .stuck
theorem RVs.one_of {K : W.Frag} {ι : List Addr} {H : Hp} {x : IV} {vs : List V} (r : RVs K ι H [x] vs) : ∃ v, vs = [v] /\ RV K ι H x v := by
 obtain ⟨v, r', e, q, q2⟩ := r
 have e2 : r' = [] := q2
 subst e2
 exact ⟨v, e, q⟩
theorem RVs.two_of {K : W.Frag} {ι : List Addr} {H : Hp} {x y : IV} {vs : List V} (r : RVs K ι H [x, y] vs) : ∃ v w, vs = [v, w] /\ RV K ι H x v /\ RV K ι H y w := by
 obtain ⟨v, r', e, q, r2⟩ := r
 obtain ⟨w, e2, q2⟩ := r2.one_of
 subst e2
 exact ⟨v, w, e, q, q2⟩
theorem Jpp {fv : Value} {f : IV -> IH -> Res IV} (hh : ∀ (pins : List (Addr × Obj)) (s : Shared) (σ : L2.St) (H : Hp) (ι : List Addr) (σi : ISt) (h : IH) (x : IV) (xv : V) (u : Value) (Q : Value -> Shared -> Prop) (E : Value -> Shared -> Prop), Now ce X pins ι σi h σ H s -> RelV xv u -> RV X.K ι H x xv ->
  Kont ce X RU pins ι σi σ H (f x h) Q E -> wpAny (model X.prog X.w) X.A (call fv [u]) Q E s) : Ji1 ce X fv (on1 f) := by
 intro pins s σ H ι σi h xs us Q E N r K
 obtain ⟨vs, rv, q⟩ := r
 match xs, K with
 | [x], K =>
  obtain ⟨v, e, qx⟩ := q.one_of
  subst e
  obtain ⟨u, rfl, ru⟩ := Jng rv
  exact hh pins s σ H ι σi h x v u Q E N ru qx K
 | [], K => exact Zf K
 | _ :: _ :: _, K => exact Zf K
noncomputable def lenI : IV -> IH -> Res IV
 | .str x, h => if x.length <= sizeLine then .ok (.int x.length) h else .stuck
 | .tup xs, h => .ok (.int xs.length) h
 | .rol xs, h => .ok (.int xs.length) h
 | .ref i, h => match h[i]? with
  | some (.lst xs) => .ok (.int xs.length) h
  | _ => .stuck
 | _, _ => .stuck
theorem c_len : Ji1 ce X (.builtin "len") (on1 lenI) := Jpp λ pins s σ H ι σi h x xv u Q E N ru qx K => by
 cases x with
 | str y =>
  have e : xv = .str y := qx
  subst e
  dsimp only [lenI] at K
  split at K
  ·rename_i hz
   exact Jav (Jlv (X := X.wish E)) N.inv (.cons ru .nil) ⟨_, _, rfl, ⟨hz, rfl⟩, fin0 N K rfl⟩
  ·exact Zf K
 | tup xs =>
  obtain ⟨a, vs, e1, sa, ra⟩ := qx
  subst e1
  exact Jav (Jlv (X := X.wish E)) N.inv (.cons ru .nil) ⟨_, xs.length, rfl, .inr ⟨vs, sa, ra.length.symm⟩, fin0 N K rfl⟩
 | rol xs =>
  obtain ⟨a, vs, e1, sa, ra⟩ := qx
  subst e1
  exact Jav (Jlv (X := X.wish E)) N.inv (.cons ru .nil) ⟨_, xs.length, rfl, .inl ⟨vs, sa.sq, ra.length.symm⟩, fin0 N K rfl⟩
 | ref i =>
  obtain ⟨a, e1, ha⟩ := qx
  subst e1
  dsimp only [lenI] at K
  cases hi : h[i]? with
  | none => rw [hi] at K; exact Zf K
  | some ob =>
   rw [hi] at K
   cases ob with
   | lst xs =>
    obtain ⟨vs, e1, r1⟩ := N.at hi ha
    exact Jav (Jlv (X := X.wish E)) N.inv (.cons ru .nil) ⟨_, xs.length, rfl, .inl ⟨vs, SqL.of e1, r1.length.symm⟩, fin0 N K rfl⟩
   | _ => exact Zf K
 | _ => exact Zf K
end
end L3
namespace L3
open PySem PySem.Spec PyProof.Rows L2
noncomputable def ALen (n : Nat) (m : A1) : Prop := ∀ σ h xs h', m σ h = .ok xs h' -> xs.length = n
theorem Jyu : ALen 0 aNil := λ _ _ xs _ e => by
 unfold aNil at e
 cases e
 rfl
theorem Jw4 {n : Nat} {e : E1} {r : A1} (hr : ALen n r) : ALen (n + 1) (Ja e r) := λ σ h xs h' q => by
 unfold Ja at q
 cases e1 : e σ h with
 | ok x h1 =>
  rw [e1] at q
  change (r σ h1).bind (λ xs h2 => .ok (x :: xs) h2) = _ at q
  cases e2 : r σ h1 with
  | ok ys h2 =>
   rw [e2] at q
   cases q
   rw [List.length_cons, hr σ h1 ys _ e2]
  | exc n h2 => rw [e2] at q; cases q
  | stuck => rw [e2] at q; cases q
 | exc n h1 => rw [e1] at q; cases q
 | stuck => rw [e1] at q; cases q
theorem hl1 {n : Nat} {ma : A1} {ds : List Value} {ps : List Str} (l : ALen n ma) (hn : n + ds.length + 1 = ps.length := by rfl) : ∀ σ h xs h', ma σ h = .ok xs h' -> xs.length + ds.length + 1 = ps.length := λ σ h xs h' e => by
 rw [l σ h xs h' e]
 exact hn
noncomputable def Juy (K : W.Frag) (x : Str) (f : List IV -> IH -> Res IV) : Sp := λ vs H Q E => ∀ ce, spI ce K [x] f vs H Q E
theorem Jys {P : Program} {w : World} {K : W.Frag} {mg : Str -> Option Value} {base : Heap} {k : Nat} {fa : Addr} {fd : FuncData} {x : Str} {f : List IV -> IH -> Res IV} {ce : Str -> Option Addr} (F : FnOk P w K mg base (CXI P w) k fa fd [x] (spI ce K [x] f)) :
  FnOk P w K mg base (CXI P w) k fa fd [x] (Juy K x f) := F.imp λ _ _ _ _ h => h ce
theorem Jw6 {K : W.Frag} {x : Str} {f : List IV -> IH -> Res IV} {H : Hp} {a : Addr} {ns : List Int} (hO : Only H) (hS : SqL K H a (ns.map V.int)) (hf : ∃ h', f [.rol (ns.map IV.int)] [] = .ok (.bl true) h') :
  Juy K x f [.ref a] H (λ v _ => v = .bl true) λ _ _ _ => False := by
 intro ce
 obtain ⟨h', hf⟩ := hf
 have sr : SqR K H a (ns.map V.int) := by
  rcases hS with (h | ⟨o, h⟩) | h
  ·rcases hO a with z | ⟨ob, xs, z⟩
   ·rw [z] at h; cases h
   ·rw [z] at h; cases h
  ·exact .inl ⟨o, h⟩
  ·exact .inr h
 refine ⟨rfl, [], [], [.rol (ns.map IV.int)], ⟨rfl, List.nodup_nil, λ i o e => by simp at e⟩, ⟨.ref a, [], rfl, ⟨a, _, rfl, sr, RVs.ints ns⟩, rfl⟩, ?_⟩
 rw [hf]
 intro v H' ι' _ _ q
 exact q
end L3
namespace L3
open PySem PySem.Spec PyProof.Rows L2
noncomputable def toD (h : IH) : Nat -> IV -> Option PyData
 | 0 => λ v => match v with
  | .non => some .none
  | .bl b => some (.bool b)
  | .int i => some (.int i)
  | .str x => some (.str x)
  | _ => none
 | n + 1 => λ v => match v with
  | .non => some .none
  | .bl b => some (.bool b)
  | .int i => some (.int i)
  | .str x => some (.str x)
  | .tup xs => (xs.mapM (toD h n)).map .tuple
  | .rol xs => (xs.mapM (toD h n)).map .list
  | .ref i => match h[i]? with
   | some (.lst xs) => (xs.mapM (toD h n)).map .list
   | _ => none
section
variable {ce : Str -> Option Addr} {X : Cx}
theorem Jdl {pins : List (Addr × Obj)} {s : Shared} {σ : L2.St} {H : Hp} {ι : List Addr} {σi : ISt} {h : IH} {n : Nat} (N : Now ce X pins ι σi h σ H s)
  (ih : ∀ (v : IV) (d : PyData) (x : V) (u : Value), toD h n v = some d -> RV X.K ι H v x -> RelV x u -> ∃ as, Reads s.heap u d as) :
  ∀ (xs : List IV) (ds : List PyData) (vs : List V) (us : List Value), xs.mapM (toD h n) = some ds -> RVs X.K ι H xs vs -> Vals vs us -> ∃ as, ReadsAll s.heap us ds as
 | [], ds, vs, us, e, q, r => by
  have e1 : vs = [] := q
  subst e1
  cases r
  simp at e
  subst e
  exact ⟨_, .nil⟩
 | x :: xs, ds, vs, us, e, q, r => by
  obtain ⟨v, vr, e1, q1, q2⟩ := q
  subst e1
  cases r with
  | cons r1 r2 =>
   rw [List.mapM_cons] at e
   cases e2 : toD h n x with
   | none => rw [e2] at e; cases e
   | some d =>
    rw [e2] at e
    cases e3 : xs.mapM (toD h n) with
    | none => rw [e3] at e; cases e
    | some dr =>
     rw [e3] at e
     cases e
     obtain ⟨as, h1⟩ := ih x d v _ e2 q1 r1
     obtain ⟨bs, h2⟩ := Jdl N ih xs dr vr _ e3 q2 r2
     exact ⟨_, .cons h1 h2⟩
theorem Jbe {pins : List (Addr × Obj)} {s : Shared} {σ : L2.St} {H : Hp} {ι : List Addr} {σi : ISt} {h : IH} (N : Now ce X pins ι σi h σ H s) : ∀ (n : Nat) (v : IV) (d : PyData) (x : V) (u : Value), toD h n v = some d -> RV X.K ι H v x -> RelV x u -> ∃ as, Reads s.heap u d as := by
 have flat : ∀ (v : IV) (d : PyData) (x : V) (u : Value), toD h 0 v = some d -> RV X.K ι H v x -> RelV x u -> ∃ as, Reads s.heap u d as := by
  intro v d x u e q r
  cases v with
  | non => cases e; have e1 : x = .non := q; subst e1; cases r; exact ⟨_, .none⟩
  | bl b => cases e; have e1 : x = .bl b := q; subst e1; cases r; exact ⟨_, .bool b⟩
  | int i => cases e; have e1 : x = .int i := q; subst e1; obtain ⟨t, rfl⟩ := r; exact ⟨_, .int i t⟩
  | str z => cases e; have e1 : x = .str z := q; subst e1; obtain ⟨t, rfl⟩ := r; exact ⟨_, .str z t⟩
  | _ => cases e
 intro n
 induction n with
 | zero => exact flat
 | succ n ih =>
  intro v d x u e q r
  cases v with
  | non => exact flat .non d x u e q r
  | bl b => exact flat (.bl b) d x u e q r
  | int i => exact flat (.int i) d x u e q r
  | str z => exact flat (.str z) d x u e q r
  | tup xs =>
   obtain ⟨a, vs, e1, sa, ra⟩ := q
   subst e1
   cases r
   obtain ⟨ds, e2, rfl⟩ := Option.map_eq_some_iff.mp (show (xs.mapM (toD h n)).map PyData.tuple = some d from e)
   obtain ⟨its, rv, ⟨o, ho, hc, m, hd⟩, hz⟩ := N.inv.tuple sa
   obtain ⟨as, h1⟩ := Jdl N ih xs ds vs its e2 ra rv
   exact ⟨_, .tuple ho hc hd h1⟩
  | rol xs =>
   obtain ⟨a, vs, e1, sa, ra⟩ := q
   subst e1
   cases r
   obtain ⟨ds, e2, rfl⟩ := Option.map_eq_some_iff.mp (show (xs.mapM (toD h n)).map PyData.list = some d from e)
   obtain ⟨its, rv, ⟨o, m, ho, hc, _, hd⟩, hz⟩ := N.inv.list sa.sq
   obtain ⟨as, h1⟩ := Jdl N ih xs ds vs its e2 ra rv
   exact ⟨_, .list ho hc hd h1⟩
  | ref i =>
   obtain ⟨a, e1, ha⟩ := q
   subst e1
   cases r
   have e' : (match h[i]? with | some (.lst xs) => (xs.mapM (toD h n)).map PyData.list | _ => none) = some d := e
   cases hi : h[i]? with
   | none => rw [hi] at e'; cases e'
   | some ob =>
    rw [hi] at e'
    cases ob with
    | lst xs =>
     obtain ⟨ds, e2, rfl⟩ := Option.map_eq_some_iff.mp e'
     obtain ⟨vs, e1, r1⟩ := N.at hi ha
     obtain ⟨its, rv, ⟨o, m, ho, hc, _, hd⟩, hz⟩ := N.inv.list (SqL.of e1)
     obtain ⟨as, h1⟩ := Jdl N ih xs ds vs its e2 r1 rv
     exact ⟨_, .list ho hc hd h1⟩
    | _ => cases e'
theorem Jd6 {n : Nat} {f : IV -> Option PyData} (hf : ∀ v d, f v = some d -> d.depth <= n) : ∀ (xs : List IV) (ds : List PyData), xs.mapM f = some ds -> PyData.depthAll ds <= n
 | [], ds, e => by simp at e; subst e; exact Nat.zero_le _
 | x :: xs, ds, e => by
  rw [List.mapM_cons] at e
  cases e2 : f x with
  | none => rw [e2] at e; cases e
  | some d =>
   rw [e2] at e
   cases e3 : xs.mapM f with
   | none => rw [e3] at e; cases e
   | some dr =>
    rw [e3] at e
    cases e
    have h1 := hf x d e2
    have h2 := Jd6 hf xs dr e3
    show max d.depth (PyData.depthAll dr) <= n
    omega
theorem Jjp {h : IH} : ∀ (n : Nat) (v : IV) (d : PyData), toD h n v = some d -> d.depth <= n := by
 intro n
 induction n with
 | zero =>
  intro v d e
  cases v <;> cases e <;> exact Nat.le_refl _
 | succ n ih =>
  intro v d e
  cases v with
  | non => cases e; exact Nat.zero_le _
  | bl b => cases e; exact Nat.zero_le _
  | int i => cases e; exact Nat.zero_le _
  | str z => cases e; exact Nat.zero_le _
  | tup xs =>
   obtain ⟨ds, e2, rfl⟩ := Option.map_eq_some_iff.mp (show (xs.mapM (toD h n)).map PyData.tuple = some d from e)
   exact Nat.succ_le_succ (Jd6 ih xs ds e2)
  | rol xs =>
   obtain ⟨ds, e2, rfl⟩ := Option.map_eq_some_iff.mp (show (xs.mapM (toD h n)).map PyData.list = some d from e)
   exact Nat.succ_le_succ (Jd6 ih xs ds e2)
  | ref i =>
   have e' : (match h[i]? with | some (.lst xs) => (xs.mapM (toD h n)).map PyData.list | _ => none) = some d := e
   cases hi : h[i]? with
   | none => rw [hi] at e'; cases e'
   | some ob =>
    rw [hi] at e'
    cases ob with
    | lst xs =>
     obtain ⟨ds, e2, rfl⟩ := Option.map_eq_some_iff.mp e'
     exact Nat.succ_le_succ (Jd6 ih xs ds e2)
    | _ => cases e'
noncomputable def Jjw : IV -> IV -> Option Bool
 | .non, .non => some true
 | .int i, .int j => some (decide (i = j))
 | .str i, .str j => some (decide (i = j))
 | .bl i, .bl j => some (decide (i = j))
 | _, _ => none
noncomputable def Jie (x y : IV) (h : IH) : Option Bool := match toD h 6 x, toD h 6 y with
 | some a, some b => if a.canLay0 = true /\ b.canLay0 = true then some (PyData.eqv a b) else none
 | _, _ => none
noncomputable def cEq (x y : IV) (h : IH) : Res IV := match Jjw x y with
 | some b => .ok (.bl b) h
 | none => match Jie x y h with
  | some b => .ok (.bl b) h
  | none => .stuck
noncomputable def cNe (x y : IV) (h : IH) : Res IV := match Jjw x y with
 | some b => .ok (.bl (!b)) h
 | none => match Jie x y h with
  | some b => .ok (.bl (!b)) h
  | none => .stuck
theorem Jtd {x y : IV} {h : IH} {b : Bool} (e : Jie x y h = some b) : ∃ da db, toD h 6 x = some da /\ toD h 6 y = some db /\ da.canLay0 = true /\ db.canLay0 = true /\ b = PyData.eqv da db := by
 unfold Jie at e
 cases e1 : toD h 6 x with
 | none => rw [e1] at e; cases e
 | some da =>
  cases e2 : toD h 6 y with
  | none => rw [e1, e2] at e; cases e
  | some db =>
   rw [e1, e2] at e
   dsimp only at e
   split at e
   ·rename_i hz
    cases e
    exact ⟨da, db, rfl, rfl, hz.1, hz.2, rfl⟩
   ·cases e
theorem Jqb {K : W.Frag} {ι : List Addr} {H : Hp} {x y : IV} {b : Bool} {xv yv : V} (e : Jjw x y = some b) (qx : RV K ι H x xv) (qy : RV K ι H y yv) : scal xv yv = true /\ decide (xv = yv) = b := by
 cases x with
 | non =>
  cases y with
  | non => cases e; cases (show xv = .non from qx); cases (show yv = .non from qy); exact ⟨rfl, rfl⟩
  | _ => cases e
 | int i =>
  cases y with
  | int j => cases e; cases (show xv = .int i from qx); cases (show yv = .int j from qy); exact ⟨rfl, by simp⟩
  | _ => cases e
 | str i =>
  cases y with
  | str j => cases e; cases (show xv = .str i from qx); cases (show yv = .str j from qy); exact ⟨rfl, by simp⟩
  | _ => cases e
 | bl i =>
  cases y with
  | bl j => cases e; cases (show xv = .bl i from qx); cases (show yv = .bl j from qy); exact ⟨rfl, by simp⟩
  | _ => cases e
 | _ => cases y <;> cases e
theorem o_eq (hu : X.A.units + 64 < cLine) : OpI ce X (compareOp .Eq) cEq := by
 intro pins s σ H ι σi h x y v u Q E N rx ry K
 obtain ⟨xv, rx, qx⟩ := rx
 obtain ⟨yv, ry, qy⟩ := ry
 unfold cEq at K
 cases es : Jjw x y with
 | some b =>
  rw [es] at K
  obtain ⟨h1, h2⟩ := Jqb es qx qy
  exact Jay (op_eq (X := X.wish E)) N.inv rx ry ⟨h1, by rw [h2]; exact fin0 N K rfl⟩
 | none =>
  rw [es] at K
  dsimp only at K
  cases ed : Jie x y h with
  | none => rw [ed] at K; exact Zf K
  | some b =>
   rw [ed] at K
   obtain ⟨da, db, e1, e2, c1, c2, rfl⟩ := Jtd ed
   obtain ⟨as, r1⟩ := Jbe N 6 x da xv v e1 qx rx
   obtain ⟨bs, r2⟩ := Jbe N 6 y db yv u e2 qy ry
   have d1 := Jjp 6 x da e1
   exact PySem.SeqAt.compareEq_reads r1 r2 c1 c2 (by omega) (fin0 N K rfl _ s N.inv rfl)
theorem o_ne (hu : X.A.units + 64 < cLine) : OpI ce X (compareOp .NotEq) cNe := by
 intro pins s σ H ι σi h x y v u Q E N rx ry K
 obtain ⟨xv, rx, qx⟩ := rx
 obtain ⟨yv, ry, qy⟩ := ry
 unfold cNe at K
 cases es : Jjw x y with
 | some b =>
  rw [es] at K
  obtain ⟨h1, h2⟩ := Jqb es qx qy
  exact Jay (op_ne (X := X.wish E)) N.inv rx ry ⟨h1, by rw [h2]; exact fin0 N K rfl⟩
 | none =>
  rw [es] at K
  dsimp only at K
  cases ed : Jie x y h with
  | none => rw [ed] at K; exact Zf K
  | some b =>
   rw [ed] at K
   obtain ⟨da, db, e1, e2, c1, c2, rfl⟩ := Jtd ed
   obtain ⟨as, r1⟩ := Jbe N 6 x da xv v e1 qx rx
   obtain ⟨bs, r2⟩ := Jbe N 6 y db yv u e2 qy ry
   have d1 := Jjp 6 x da e1
   exact PySem.SeqAt.compareNe_reads r1 r2 c1 c2 (by omega) (fin0 N K rfl _ s N.inv rfl)
noncomputable def inI (x c : IV) (h : IH) : Option Bool := match toD h 6 c, toD h 6 x with
 | some (.list ds), some d => if PyData.canLayAll0 ds = true /\ d.canLay0 = true then some (ds.any λ y => PyData.eqv y d) else none
 | some (.tuple ds), some d => if PyData.canLayAll0 ds = true /\ d.canLay0 = true then some (ds.any λ y => PyData.eqv y d) else none
 | _, _ => none
noncomputable def cIn (x c : IV) (h : IH) : Res IV := match inI x c h with
 | some b => .ok (.bl b) h
 | none => .stuck
noncomputable def Jvx (x c : IV) (h : IH) : Res IV := match inI x c h with
 | some b => .ok (.bl (!b)) h
 | none => .stuck
theorem Jzx {x c : IV} {h : IH} {b : Bool} (e : inI x c h = some b) : ∃ ds d, (toD h 6 c = some (.list ds) ∨ toD h 6 c = some (.tuple ds)) /\ toD h 6 x = some d /\ PyData.canLayAll0 ds = true /\ d.canLay0 = true /\ b = ds.any λ y => PyData.eqv y d := by
 unfold inI at e
 cases e1 : toD h 6 c with
 | none => rw [e1] at e; cases e
 | some dc =>
  cases e2 : toD h 6 x with
  | none => rw [e1, e2] at e; cases dc <;> cases e
  | some d =>
   rw [e1, e2] at e
   cases dc with
   | list ds =>
    dsimp only at e
    split at e
    ·rename_i hz; cases e; exact ⟨ds, d, .inl rfl, rfl, hz.1, hz.2, rfl⟩
    ·cases e
   | tuple ds =>
    dsimp only at e
    split at e
    ·rename_i hz; cases e; exact ⟨ds, d, .inr rfl, rfl, hz.1, hz.2, rfl⟩
    ·cases e
   | _ => cases e
theorem o_in (hu : X.A.units + 64 < cLine) : OpI ce X (compareOp .In) cIn := by
 intro pins s σ H ι σi h x y v u Q E N rx ry K
 obtain ⟨xv, rx, qx⟩ := rx
 obtain ⟨yv, ry, qy⟩ := ry
 unfold cIn at K
 cases ei : inI x y h with
 | none => rw [ei] at K; exact Zf K
 | some b =>
  rw [ei] at K
  obtain ⟨ds, d, hc, e2, c1, c2, rfl⟩ := Jzx ei
  obtain ⟨bs, r2⟩ := Jbe N 6 x d xv v e2 qx rx
  have d2 := Jjp 6 x d e2
  rcases hc with e1 | e1
  ·obtain ⟨as, r1⟩ := Jbe N 6 y _ yv u e1 qy ry
   exact PySem.SeqAt.in_list_reads r1 r2 c1 c2 (by omega) (fin0 N K rfl _ s N.inv rfl)
  ·obtain ⟨as, r1⟩ := Jbe N 6 y _ yv u e1 qy ry
   exact PySem.SeqAt.in_tuple_reads r1 r2 c1 c2 (by omega) (fin0 N K rfl _ s N.inv rfl)
theorem J01 (hu : X.A.units + 64 < cLine) : OpI ce X (compareOp .NotIn) Jvx := by
 intro pins s σ H ι σi h x y v u Q E N rx ry K
 obtain ⟨xv, rx, qx⟩ := rx
 obtain ⟨yv, ry, qy⟩ := ry
 unfold Jvx at K
 cases ei : inI x y h with
 | none => rw [ei] at K; exact Zf K
 | some b =>
  rw [ei] at K
  obtain ⟨ds, d, hc, e2, c1, c2, rfl⟩ := Jzx ei
  obtain ⟨bs, r2⟩ := Jbe N 6 x d xv v e2 qx rx
  have d2 := Jjp 6 x d e2
  rcases hc with e1 | e1
  ·obtain ⟨as, r1⟩ := Jbe N 6 y _ yv u e1 qy ry
   exact PySem.SeqAt.notIn_list_reads r1 r2 c1 c2 (by omega) (fin0 N K rfl _ s N.inv rfl)
  ·obtain ⟨as, r1⟩ := Jbe N 6 y _ yv u e1 qy ry
   exact PySem.SeqAt.notIn_tuple_reads r1 r2 c1 c2 (by omega) (fin0 N K rfl _ s N.inv rfl)
noncomputable def isI : IV -> IV -> Option Bool
 | .non, .non => some true
 | .bl a, .bl b => some (a == b)
 | .bl _, .non => some false
 | .int _, .non => some false
 | .str _, .non => some false
 | .tup _, .non => some false
 | .rol _, .non => some false
 | .ref _, .non => some false
 | .non, .bl _ => some false
 | .int _, .bl _ => some false
 | .str _, .bl _ => some false
 | .tup _, .bl _ => some false
 | .rol _, .bl _ => some false
 | .ref _, .bl _ => some false
 | _, _ => none
noncomputable def cIs (x y : IV) (h : IH) : Res IV := match isI x y with
 | some b => .ok (.bl b) h
 | none => .stuck
noncomputable def Jwv (x y : IV) (h : IH) : Res IV := match isI x y with
 | some b => .ok (.bl (!b)) h
 | none => .stuck
theorem J0l {K : W.Frag} {ι : List Addr} {H : Hp} {x y : IV} {b : Bool} {v u : Value} (e : isI x y = some b) (rx : RU K ι H x v) (ry : RU K ι H y u) : plainIs v u = true /\ (v == u) = b := by
 obtain ⟨xv, rx, qx⟩ := rx
 obtain ⟨yv, ry, qy⟩ := ry
 cases y with
 | non =>
  cases (show yv = .non from qy)
  cases ry
  cases x with
  | non => cases e; cases (show xv = .non from qx); cases rx; exact ⟨rfl, rfl⟩
  | bl c => cases e; cases (show xv = .bl c from qx); cases rx; exact ⟨rfl, rfl⟩
  | int c => cases e; cases (show xv = .int c from qx); obtain ⟨t, rfl⟩ := rx; exact ⟨rfl, rfl⟩
  | str c => cases e; cases (show xv = .str c from qx); obtain ⟨t, rfl⟩ := rx; exact ⟨rfl, rfl⟩
  | tup c => cases e; obtain ⟨a, vs, rfl, _⟩ := qx; cases rx; exact ⟨rfl, rfl⟩
  | rol c => cases e; obtain ⟨a, vs, rfl, _⟩ := qx; cases rx; exact ⟨rfl, rfl⟩
  | ref c => cases e; obtain ⟨a, rfl, _⟩ := qx; cases rx; exact ⟨rfl, rfl⟩
 | bl d =>
  cases (show yv = .bl d from qy)
  cases ry
  cases x with
  | non => cases e; cases (show xv = .non from qx); cases rx; exact ⟨rfl, rfl⟩
  | bl c => cases e; cases (show xv = .bl c from qx); cases rx; cases c <;> cases d <;> exact ⟨rfl, rfl⟩
  | int c => cases e; cases (show xv = .int c from qx); obtain ⟨t, rfl⟩ := rx; exact ⟨rfl, rfl⟩
  | str c => cases e; cases (show xv = .str c from qx); obtain ⟨t, rfl⟩ := rx; exact ⟨rfl, rfl⟩
  | tup c => cases e; obtain ⟨a, vs, rfl, _⟩ := qx; cases rx; exact ⟨rfl, rfl⟩
  | rol c => cases e; obtain ⟨a, vs, rfl, _⟩ := qx; cases rx; exact ⟨rfl, rfl⟩
  | ref c => cases e; obtain ⟨a, rfl, _⟩ := qx; cases rx; exact ⟨rfl, rfl⟩
 | _ => cases x <;> cases e
theorem o_is : OpI ce X (compareOp .Is) cIs := by
 intro pins s σ H ι σi h x y v u Q E N rx ry K
 unfold cIs at K
 cases ei : isI x y with
 | none => rw [ei] at K; exact Zf K
 | some b =>
  rw [ei] at K
  obtain ⟨h1, h2⟩ := J0l ei rx ry
  exact wpAny_is_plain h1 (by rw [h2]; exact fin0 N K rfl _ s N.inv rfl)
theorem J2t : OpI ce X (compareOp .IsNot) Jwv := by
 intro pins s σ H ι σi h x y v u Q E N rx ry K
 unfold Jwv at K
 cases ei : isI x y with
 | none => rw [ei] at K; exact Zf K
 | some b =>
  rw [ei] at K
  obtain ⟨h1, h2⟩ := J0l ei rx ry
  exact wpAny_isNot_plain h1 (by rw [h2]; exact fin0 N K rfl _ s N.inv rfl)
inductive Ty where
 | non | bl | int | str | lst | tup | dct | ins (c : Str) | exc (c : Str)
noncomputable def tyI : IV -> IH -> Option Ty
 | .non, _ => some .non
 | .bl _, _ => some .bl
 | .int _, _ => some .int
 | .str _, _ => some .str
 | .tup _, _ => some .tup
 | .rol _, _ => some .lst
 | .ref i, h => match h[i]? with
  | some (.lst _) => some .lst
  | some (.dct _) => some .dct
  | some (.ins c _) => some (.ins c)
  | _ => none
structure ClsI (K : W.Frag) (C : Addr) : Prop where
 cl : Cls K C
 ha : W.findIn K (.ref C) "__class__" = some (some (.builtin "object.__class__"))
 hn : W.specialIn K (.builtin "object.__class__") "__get__" = some (some (.builtin "getset_descriptor.__get__"))
 htk : W.takesIn K (.builtin "object.__class__") = some true
 hm : W.mroIn K C (.type "object") = some true
structure IsOk (ce : Str -> Option Addr) (K : W.Frag) (c : Value) (ans : Ty -> Option Bool) : Prop where
 non : ∀ b, ans .non = some b -> W.kitOne K (.type "NoneType") c = some b
 bl : ∀ b, ans .bl = some b -> W.kitOne K (.type "bool") c = some b
 int : ∀ b, ans .int = some b -> W.kitOne K (.type "int") c = some b
 str : ∀ b, ans .str = some b -> W.kitOne K (.type "str") c = some b
 lst : ∀ b, ans .lst = some b -> W.kitOne K (.type "list") c = some b
 tup : ∀ b, ans .tup = some b -> W.kitOne K (.type "tuple") c = some b
 dct : ∀ b, ans .dct = some b -> W.kitOne K (.type "dict") c = some b
 ins : ∀ k C b, ans (.ins k) = some b -> ce k = some C -> ClsI K C /\ W.kitOne K (.ref C) c = some b
 exc : ∀ k C b, ans (.exc k) = some b -> W.nsIn K mainGlobals k = some (some (.ref C)) -> ExI K C /\ W.kitOne K (.ref C) c = some b
noncomputable def eIsi (ans : Ty -> Option Bool) (e : E1) : E1 := λ σ h => (e σ h).bind λ v h1 => match (tyI v h1).bind ans with
 | some b => .ok (.bl b) h1
 | none => .stuck
theorem J0x {pins : List (Addr × Obj)} {s : Shared} {σ : L2.St} {H : Hp} {ι : List Addr} {σi : ISt} {h : IH} {x : IV} {u c : Value} {ans : Ty -> Option Bool} {b : Bool} {Q : Value -> Shared -> Prop} {E : Value -> Shared -> Prop} {A : Around} (N : Now ce X pins ι σi h σ H s) (rx : RU X.K ι H x u) (O : IsOk ce X.K c ans)
  (e : (tyI x h).bind ans = some b) (hq : ∀ tk, Q (.bool b) { s with toks := tk }) : wpAny (model X.prog X.w) A (call (.builtin "isinstance") [u, c]) Q E s := by
 obtain ⟨xv, rx, qx⟩ := rx
 cases x with
 | non => cases (show xv = .non from qx); cases rx; exact W.kia_one W.kitx_none N.inv.kIn True.intro (O.non b e) (λ z => nomatch z) hq
 | bl i => cases (show xv = .bl i from qx); cases rx; exact W.kia_one W.kitx_bool N.inv.kIn True.intro (O.bl b e) (λ z => nomatch z) hq
 | int i => cases (show xv = .int i from qx); obtain ⟨t, rfl⟩ := rx; exact W.kia_one W.kitx_int N.inv.kIn True.intro (O.int b e) (λ z => nomatch z) hq
 | str i => cases (show xv = .str i from qx); obtain ⟨t, rfl⟩ := rx; exact W.kia_one W.kitx_str N.inv.kIn True.intro (O.str b e) (λ z => nomatch z) hq
 | tup xs =>
  obtain ⟨a, vs, rfl, sa, _⟩ := qx
  cases rx
  obtain ⟨its, rv, ⟨o, ho, hc, m, hd⟩, hz⟩ := N.inv.tuple sa
  exact W.kia_one W.kitx_tuple N.inv.kIn ⟨o, ho, hc⟩ (O.tup b e) (λ z => nomatch z) hq
 | rol xs =>
  obtain ⟨a, vs, rfl, sa, _⟩ := qx
  cases rx
  obtain ⟨its, rv, ⟨o, m, ho, hc, _, hd⟩, hz⟩ := N.inv.list sa.sq
  exact W.kia_one W.kitx_list N.inv.kIn ⟨o, ho, hc⟩ (O.lst b e) (λ z => nomatch z) hq
 | ref i =>
  obtain ⟨a, rfl, ha⟩ := qx
  cases rx
  cases hi : h[i]? with
  | none => simp [tyI, hi] at e
  | some ob =>
   cases ob with
   | lst xs =>
    simp only [tyI, hi] at e
    obtain ⟨vs, e1, r1⟩ := N.at hi ha
    obtain ⟨its, rv, ⟨o, m, ho, hc, _, hd⟩, hz⟩ := N.inv.list (SqL.of e1)
    exact W.kia_one W.kitx_list N.inv.kIn ⟨o, ho, hc⟩ (O.lst b e) (λ z => nomatch z) hq
   | dct kvs =>
    simp only [tyI, hi] at e
    obtain ⟨vs, e1, r1⟩ := N.at hi ha
    obtain ⟨_, _, ws, _, p⟩ := (show Jb5 X.prog X.w H s.heap a (.dK vs) from N.inv.hok a _ e1)
    obtain ⟨o, es, ep, h1, h2, _⟩ := p
    exact W.kia_one W.kitx_dict N.inv.kIn ⟨o, h1, h2.1⟩ (O.dct b e) (λ z => nomatch z) hq
   | ins c fs =>
    simp only [tyI, hi] at e
    obtain ⟨C, dx, vs, hC, hH, rp⟩ := N.at hi ha
    obtain ⟨I, hk⟩ := O.ins c C b e hC
    obtain ⟨mA, Ob, _⟩ := Jpv N.inv.hok hH
    obtain ⟨od, J, _⟩ := Ob.look
    exact W.kia_one (W.kitx_own (I.cl.get _) I.cl.hd I.ha I.hn I.htk I.hm) N.inv.kIn J hk (λ z => nomatch z) hq
   | exc c fs => simp [tyI, hi] at e
   | tab q => simp [tyI, hi] at e
variable {a cx : Expr} {ma : E1} {pos p : Pos}
noncomputable def ClsE (X : Cx) (cx : Expr) (c : Value) : Prop := ∀ (pins : List (Addr × Obj)) (σ : L2.St) (H : Hp) (s : Shared) (Q : Value -> Shared -> Prop) (E : Value -> Shared -> Prop), Inv X pins σ H s -> Q c s -> wpAny (model X.prog X.w) X.A (eval cx X.env) Q E s
theorem Jj7 {x : Str} {c : Value} (hg : Gl X x) (hm : X.mg x = none) (hv : bootBuiltins x = some c) (hn : x ≠ "__name__" := by decide) (hdb : (x == ("__debug__" : Str)) = false := by decide) : ClsE X (.Name x p) c := λ _ _ _ _ _ _ I q => Jdh I hg hm hv q hn hdb
theorem Jxg {x : Str} {c : Value} (hg : Gl X x) (hm : X.mg x = some c) (hdb : (x == ("__debug__" : Str)) = false := by decide) : ClsE X (.Name x p) c := λ _ _ _ _ _ _ I q => Jh1 I hg hm q hdb
theorem J34 {ans : Ty -> Option Bool} {c : Value} (hc : ClsE X cx c) (O : IsOk ce X.K c ans) (ha : PEi ce X a ma) (hg : Gl X "isinstance") (hm : X.mg "isinstance" = none) (hv : bootBuiltins "isinstance" = some (.builtin "isinstance") := by rfl)
  (he : starEach [a, cx] X.env = (false, eval a X.env) :: starEach [cx] X.env := by rfl) (he2 : starEach [cx] X.env = (false, eval cx X.env) :: starEach [] X.env := by rfl) (hpl : (backTo pos (starEach [cx] X.env)).any (·.1) = false := by rfl) : PEi ce X (.Call (.Name "isinstance" p) [a, cx] [] pos) (eIsi ans ma) := by
 intro pins s σ H ι σi h Q E N K
 refine wpAny_Call_Name_kw (Jdh N.inv hg hm hv ?_ (by decide) (by decide))
 refine PyProof.Rows.callWith_builtin1 ?_ he hpl
 rw [he]
 show wpAny _ _ (spliced ((false, eval a X.env) :: backTo pos (starEach [cx] X.env))) _ _ s
 refine Calls.spliced_cons (ha.run N K λ x h1 u s1 H1 ι1 N1 n1 r1 K1 => ?_)
 rw [he2]
 show wpAny _ _ (spliced ((false, eval cx X.env) :: backTo pos (starEach [] X.env))) _ _ s1
 refine Calls.spliced_cons (hc pins σ H1 s1 _ E N1.inv ?_)
 refine Calls.spliced_nil ?_
 cases e : (tyI x h1).bind ans with
 | none => rw [e] at K1; exact Zf K1
 | some b =>
  rw [e] at K1
  exact J0x N1 r1 O e λ tk => K1 _ _ H1 ι1 ⟨N1.inv.tok tk, N1.rel, N1.st⟩ .refl ⟨.bl b, rfl, rfl⟩
noncomputable def Je1 : Ty -> Option Bool
 | .int => some true | .bl => some true | .ins _ => none | .exc _ => none | _ => some false
noncomputable def Jaz : Ty -> Option Bool
 | .bl => some true | .ins _ => none | .exc _ => none | _ => some false
noncomputable def Jgc : Ty -> Option Bool
 | .str => some true | .ins _ => none | .exc _ => none | _ => some false
noncomputable def Jbl : Ty -> Option Bool
 | .lst => some true | .ins _ => none | .exc _ => none | _ => some false
noncomputable def Jfp : Ty -> Option Bool
 | .tup => some true | .ins _ => none | .exc _ => none | _ => some false
theorem Jw2 {K : W.Frag} : IsOk ce K (.type "bool") Jaz := by
 refine ⟨?_, ?_, ?_, ?_, ?_, ?_, ?_, (λ k C b e => by cases e), (λ k C b e => by cases e)⟩ <;> (intro b e; cases e; first | rfl | with_unfolding_all rfl | kernel_rfl)
theorem Jzf {K : W.Frag} : IsOk ce K (.type "str") Jgc := by
 refine ⟨?_, ?_, ?_, ?_, ?_, ?_, ?_, (λ k C b e => by cases e), (λ k C b e => by cases e)⟩ <;> (intro b e; cases e; first | rfl | with_unfolding_all rfl | kernel_rfl)
theorem Jwk {K : W.Frag} : IsOk ce K (.type "list") Jbl := by
 refine ⟨?_, ?_, ?_, ?_, ?_, ?_, ?_, (λ k C b e => by cases e), (λ k C b e => by cases e)⟩ <;> (intro b e; cases e; first | rfl | with_unfolding_all rfl | kernel_rfl)
theorem Jzn {K : W.Frag} : IsOk ce K (.type "tuple") Jfp := by
 refine ⟨?_, ?_, ?_, ?_, ?_, ?_, ?_, (λ k C b e => by cases e), (λ k C b e => by cases e)⟩ <;> (intro b e; cases e; first | rfl | with_unfolding_all rfl | kernel_rfl)
theorem Jym {K : W.Frag} : IsOk ce K (.type "int") Je1 := by
 refine ⟨?_, ?_, ?_, ?_, ?_, ?_, ?_, (λ k C b e => by cases e), (λ k C b e => by cases e)⟩ <;> (intro b e; cases e; first | rfl | with_unfolding_all rfl | kernel_rfl)
end
end L3
namespace L3
open PySem PySem.Spec PyProof.Rows L2
noncomputable def clOf (cells : List (Str × Addr)) : List (Str × NameKind) -> List (Str × Addr) -> List (Str × Addr)
 | [], acc => acc
 | (n, k) :: r, acc => clOf cells r (if (k == NameKind.free) = true then (match cells.lookup n with | some c => (n, c) :: acc | none => acc) else acc)
theorem Jn1 {env : Env} (names : List (Str × NameKind)) (acc : List (Str × Addr)) (h : ∀ x ∈ names, x.2 = .free -> ∃ c, env.cells.lookup x.1 = some c) :
  (forIn names acc (λ (x : Str × NameKind) (r : List (Str × Addr)) => if (x.2 == NameKind.free) = true then (do let c <- cellOf env x.1; pure (ForInStep.yield ((x.1, c) :: r))) else pure (ForInStep.yield r)) : Sem (List (Str × Addr))) = pure (clOf env.cells names acc) := by
 induction names generalizing acc with
 | nil => rfl
 | cons x r ih =>
  obtain ⟨n, k⟩ := x
  have ih' := λ a => ih a λ y hy => h y (List.mem_cons_of_mem _ hy)
  rw [List.forIn_cons]
  by_cases hk : (k == NameKind.free) = true
  ·have hk' : k = .free := by
    cases k <;> first | rfl | exact absurd hk (by decide)
   obtain ⟨c, hc⟩ := h (n, k) List.mem_cons_self hk'
   have e1 : cellOf env n = pure c := by unfold cellOf; rw [hc]
   simp only [hk, if_true, e1, pure_bind]
   rw [ih']
   simp only [clOf, hk, if_true, hc]
  ·simp only [hk, Bool.false_eq_true, if_false, pure_bind]
   rw [ih']
   simp only [clOf, hk, Bool.false_eq_true, if_false]
theorem Jpc {scope : Scope} {env : Env} (h : ∀ x ∈ scope.names, x.2 = .free -> ∃ c, env.cells.lookup x.1 = some c) : closureFor scope env = pure (clOf env.cells scope.names []) := by
 have e := Jn1 (env := env) scope.names [] h
 have e2 : closureFor scope env = ((forIn scope.names [] (λ (x : Str × NameKind) (r : List (Str × Addr)) => if (x.2 == NameKind.free) = true then (do let c <- cellOf env x.1; pure (ForInStep.yield ((x.1, c) :: r))) else pure (ForInStep.yield r)) : Sem (List (Str × Addr))) >>= λ s => pure s) := rfl
 rw [e2, e]
 rfl
theorem Jtf {cells : List (Str × Addr)} : ∀ (names : List (Str × NameKind)) (acc : List (Str × Addr)), (∀ x c, acc.lookup x = some c -> cells.lookup x = some c) -> ∀ x c, (clOf cells names acc).lookup x = some c -> cells.lookup x = some c
 | [], _, h, x, c, e => h x c e
 | (n, k) :: r, acc, h, x, c, e => by
  refine Jtf r _ ?_ x c e
  intro y d q
  split at q
  ·cases hc : cells.lookup n with
   | none => rw [hc] at q; exact h y d q
   | some a =>
    rw [hc] at q
    simp only [List.lookup_cons] at q
    cases hb : y == n with
    | true =>
     rw [hb] at q
     cases q
     rw [beq_iff_eq.mp hb]
     exact hc
    | false =>
     rw [hb] at q
     exact h y d q
  ·exact h y d q
theorem Jqh {cells : List (Str × Addr)} : ∀ (names : List (Str × NameKind)) (acc : List (Str × Addr)) (x : Str), (acc.lookup x).isSome = true -> ((clOf cells names acc).lookup x).isSome = true
 | [], _, _, h => h
 | (n, k) :: r, acc, x, h => by
  refine Jqh r _ x ?_
  split
  ·cases hc : cells.lookup n with
   | none => exact h
   | some a =>
    simp only [List.lookup_cons]
    cases hb : x == n with
    | true => rfl
    | false => exact h
  ·exact h
theorem Jpl {cells : List (Str × Addr)} : ∀ (names : List (Str × NameKind)) (acc : List (Str × Addr)) (x : Str) (c : Addr), (x, NameKind.free) ∈ names -> cells.lookup x = some c -> ((clOf cells names acc).lookup x).isSome = true
 | [], _, _, _, h, _ => by simp at h
 | (n, k) :: r, acc, x, c, h, hc => by
  rcases List.mem_cons.mp h with e | e
  ·obtain ⟨rfl, rfl⟩ := Prod.mk.inj e
   refine Jqh r _ _ ?_
   simp [hc]
  ·exact Jpl r _ x c e hc
theorem Jcm {env : Env} : ∀ {names : List (Str × NameKind)} {x : Str} {k : NameKind},
  (names.map λ (n, k) => if (k == NameKind.free && env.scope.kind == .function && env.kindOf n == some .cell) then (n, NameKind.cell) else (n, k)).lookup x = some k ->
  ∃ k0, names.lookup x = some k0 /\ (k, k0) ∈ ([(k0, k0), (.cell, .free)] : List (NameKind × NameKind))
 | [], _, _, h => by simp at h
 | (n, k1) :: r, x, k, h => by
  have ih := @Jcm env r x k
  have h' : List.lookup x ((if (k1 == NameKind.free && env.scope.kind == .function && env.kindOf n == some .cell) = true then (n, NameKind.cell) else (n, k1)) :: _) = some k := h
  cases hx : x == n with
  | true =>
   refine ⟨k1, by simp [List.lookup_cons, hx], ?_⟩
   by_cases hc : (k1 == NameKind.free && env.scope.kind == .function && env.kindOf n == some .cell) = true
   ·rw [if_pos hc] at h'
    simp only [List.lookup_cons, hx] at h'
    cases h'
    simp only [Bool.and_eq_true, beq_iff_eq] at hc
    rw [hc.1.1]
    simp
   ·rw [if_neg hc] at h'
    simp only [List.lookup_cons, hx] at h'
    cases h'
    simp
  | false =>
   have h2 : List.lookup x (r.map λ (n, k) => if (k == NameKind.free && env.scope.kind == .function && env.kindOf n == some .cell) then (n, NameKind.cell) else (n, k)) = some k := by
    by_cases hc : (k1 == NameKind.free && env.scope.kind == .function && env.kindOf n == some .cell) = true
    ·rw [if_pos hc] at h'; simpa only [List.lookup_cons, hx] using h'
    ·rw [if_neg hc] at h'; simpa only [List.lookup_cons, hx] using h'
   obtain ⟨k0, e, m⟩ := ih h2
   exact ⟨k0, by simp only [List.lookup_cons, hx]; exact e, m⟩
theorem Jkp {env : Env} : ∀ {names : List (Str × NameKind)} {x : Str}, names.lookup x = some .free ->
  ∃ k, (names.map λ (n, k) => if (k == NameKind.free && env.scope.kind == .function && env.kindOf n == some .cell) then (n, NameKind.cell) else (n, k)).lookup x = some k /\ (k = .cell ∨ k = .free)
 | [], _, h => by simp at h
 | (n, k1) :: r, x, h => by
  have ih := @Jkp env r x
  cases hx : x == n with
  | true =>
   simp only [List.lookup_cons, hx] at h
   cases h
   by_cases hc : (NameKind.free == NameKind.free && env.scope.kind == .function && env.kindOf n == some .cell) = true
   ·exact ⟨.cell, by rw [List.map_cons]; dsimp only; rw [if_pos hc]; simp only [List.lookup_cons, hx], .inl rfl⟩
   ·exact ⟨.free, by rw [List.map_cons]; dsimp only; rw [if_neg hc]; simp only [List.lookup_cons, hx], .inr rfl⟩
  | false =>
   simp only [List.lookup_cons, hx] at h
   obtain ⟨k, e, q⟩ := ih h
   refine ⟨k, ?_, q⟩
   rw [List.map_cons]
   dsimp only
   by_cases hc : (k1 == NameKind.free && env.scope.kind == .function && env.kindOf n == some .cell) = true
   ·rw [if_pos hc]; simp only [List.lookup_cons, hx]; exact e
   ·rw [if_neg hc]; simp only [List.lookup_cons, hx]; exact e
noncomputable def cxC (X : Cx) (N' : List Str) (scope : Scope) (C : Addr) (s : Shared) (H : Hp) (fp : List Addr) : Cx :=
 { X with N := N', s₀ := s, H₀ := H, env := compEnvC scope (clOf X.env.cells scope.names []) C X.env, outer := X.stack, ex := fp, fn := λ _ => false, pn := [] }
noncomputable def Je0 (N0 loc caps : List Str) (js : List Nat) (sc₀ scope : Scope) : Bool :=
 decide (scope.kind = .function) && decide (sc₀.kind = .function) && scope.names.all (λ x => !(x.2 == .cell)) && scope.names.all (λ x => !(x.2 == .local) || decide (scope.names.lookup x.1 = some .local)) &&
 scope.names.all (λ x => !(x.2 == .free) || decide (sc₀.names.lookup x.1 = some .cell) || decide (sc₀.names.lookup x.1 = some .free)) &&
 scope.names.all (λ x => !(decide (scope.names.lookup x.1 = some .free)) || (x.2 == .free)) &&
 (js.zip caps).all (λ p => decide (N0[p.1]? = some p.2) && decide (scope.names.lookup p.2 = some .free)) && decide (js.length = caps.length) && decide (loc ++ caps).Nodup &&
 loc.all (λ n => decide (scope.names.lookup n = some .local))
open Classical in
noncomputable def Jcg (chk : IH -> Prop) (g : G1) (t : T1) (e : E1) (i0 : Nat) : List IV -> ISt -> IH -> Res IV
 | [], _, h => if chk h then .ok (.ref i0) h else .stuck
 | x :: xs, σ, h => if chk h then (match g x σ h with
   | .next σ1 h1 => (match t σ1 h1 with
    | .ok true h2 => (match e σ1 h2 with
     | .ok v h3 => (match h3[i0]? with
      | some (.lst acc) => if acc.length < sizeLine then Jcg chk g t e i0 xs σ1 (h3.set i0 (.lst (acc ++ [v]))) else .stuck
      | _ => .stuck)
     | _ => .stuck)
    | .ok false h2 => Jcg chk g t e i0 xs σ1 h2
    | _ => .stuck)
   | _ => .stuck) else .stuck
noncomputable def stC (nloc : Nat) (js : List Nat) (σ : ISt) : ISt := List.replicate nloc none ++ js.map λ j => (σ[j]?).join
noncomputable def Jy (it : I1) (nloc : Nat) (js : List Nat) (g : G1) (t : T1) (e : E1) : E1 := λ σ h => (it σ h).bind λ J h1 => Jcg J.chk g t e h1.length J.xs (stC nloc js σ) (h1 ++ [.lst []])
theorem Jre {prog : Program} {w : World} {A : Around} {R : Result -> Shared -> Prop} {s : Shared} {elt target iter : Expr} {ifs : List Expr} {scope : Scope} {pos : Pos} {it acc : Value} {env : Env} (I : Nat -> Shared -> Prop)
  (turn : ∀ n s, I n s -> wpAny (model prog w) A (pyNext it) (λ r s₁ => match r with
   | none => R (.ok .next) s₁
   | some v => wpAny (model prog w) A (letOwnedTupleGo target it v) (λ _ s₁' => wpAny (model prog w) A (assign target env v) (λ _ s₂ =>
     wpAny (model prog w) A (forIn ifs true λ c r => if r = true then do let ok <- isTrue c env (eval c env); pure (ForInStep.yield ok) else pure (ForInStep.yield r)) (λ ok s₃ =>
      if ok = true then wpAny (model prog w) A (eval elt env) (λ x s₄ =>
       wpAny (model prog w) A (call (.builtin "list.append") [acc, x]) (λ _ s₅ => ∃ m, m < n /\ I m s₅) (λ _ _ => False) s₄) (λ _ _ => False) s₃
      else ∃ m, m < n /\ I m s₃) (λ _ _ => False) s₂) (λ _ _ => False) s₁') (λ _ _ => False) s₁) (λ _ _ => False) s)
  (n : Nat) (h : I n s) : codeAny (model prog w) A (.compLoop (.ListComp elt [⟨target, iter, ifs, 0⟩] scope pos) 0 it acc env) R s := by
 refine codeAny_loop rfl I (λ n s hI => ?_) n h
 show wpAny _ A ((compTurn (.ListComp elt [⟨target, iter, ifs, 0⟩] scope pos) 0 it acc env).onRaise (λ x => do noteFrame x env; theTreesLotGoes x)) _ _ s
 refine wpAny_noted (nof ?_)
 rw [compTurn_list]
 refine wpAny_bind (wpAny_standAt (wpAny_bind (wpAny_mono (turn n s hI) (λ r s₁ h₁ => ?_) λ _ _ h' => h')))
 cases r with
 | none => exact wpAny_pure h₁
 | some v =>
  refine wpAny_bind (wpAny_mono h₁ (λ _ s₁' h₁' => ?_) λ _ _ h' => h')
  refine wpAny_bind (wpAny_mono h₁' (λ _ s₂ h₂ => wpAny_bind (wpAny_mono h₂ (λ ok s₃ h₃ => ?_) λ _ _ h' => h')) λ _ _ h' => h')
  cases ok with
  | false => exact wpAny_pure ⟨rfl, h₃⟩
  | true =>
   exact wpAny_bind (wpAny_bind (wpAny_mono h₃ (λ x s₄ h₄ => wpAny_bind (wpAny_mono h₄ (λ _ s₅ h₅ => wpAny_pure (wpAny_pure ⟨rfl, h₅⟩)) λ _ _ h' => h')) λ _ _ h' => h'))
noncomputable def PTsi (ce : Str -> Option Addr) (X : Cx) (ifs : List Expr) (m : T1) : Prop := PX ce X RB (forIn ifs true λ c r => if r = true then do let ok <- isTrue c X.env (eval c X.env); pure (ForInStep.yield ok) else pure (ForInStep.yield r)) m
noncomputable def Ja2 : T1 := λ _ h => .ok true h
theorem J0n {ce : Str -> Option Addr} {X : Cx} : PTsi ce X [] Ja2 := λ _ s _ H ι _ _ _ _ N K => wpAny_tests_nil (K true s H ι N .refl rfl)
theorem J0a {ce : Str -> Option Addr} {X : Cx} {c : Expr} {m : T1} (hc : PTi ce X c m) : PTsi ce X [c] m := λ pins s σ H ι σi h Q E N K => wpAny_tests_one (hc pins s σ H ι σi h Q E N K)
noncomputable def Jpf (ce : Str -> Option Addr) (X : Cx) (use : Option (Value -> Sem Unit)) (pins : List (Addr × Obj)) (ι : List Addr) (σi : ISt) (σ : L2.St) (H : Hp) (r : Res IV) (Q : Value -> Shared -> Prop) (E : Value -> Shared -> Prop) : Prop :=
 match r with
 | .ok v h' => ∀ D C m s' H' ι', Now ce X pins ι' σi h' σ H' s' -> Nxt ι H ι' H' -> RU X.K ι' H' v (.ref D) -> s'.heap.Ns C m -> FpOk X pins H' C -> compPost (model X.prog X.w) X.A E use Q (.ref D) C (.ok .next) s'
 | .exc n h' => ∀ pl a s' H' ι', Now ce X (pins ++ pl) ι' σi h' σ H' s' -> Nxt ι H ι' H' -> ι'[n]? = some a -> E (.ref a) s'
 | .stuck => False
theorem Jpf.mono {ce : Str -> Option Addr} {X : Cx} {use : Option (Value -> Sem Unit)} {pins : List (Addr × Obj)} {ι ι' : List Addr} {σi : ISt} {σ : L2.St} {H H' : Hp} {r : Res IV} {Q : Value -> Shared -> Prop} {E : Value -> Shared -> Prop} (k : Jpf ce X use pins ι σi σ H r Q E) (n : Nxt ι H ι' H') : Jpf ce X use pins ι' σi σ H' r Q E := by
 cases r with
 | ok v h' => exact λ D C m s' H2 ι2 N n2 q => k D C m s' H2 ι2 N (n.trans n2) q
 | exc m h' => exact λ pl a s' H2 ι2 N n2 q => k pl a s' H2 ι2 N (n.trans n2) q
 | stuck => exact k
section
variable {ce : Str -> Option Addr} {X : Cx}
theorem Jqt {N0 loc caps : List Str} {js : List Nat} {sc₀ scope : Scope} {tg iter elt : Expr} {ifs : List Expr} {mi : I1} {g : G1} {mt : T1} {me : E1} {pos ppos : Pos} {use : Option (Value -> Sem Unit)} (hc : X.calm = true) (hi : PIi ce X tg iter mi)
  (hg : ∀ C s H fp, PGi ce (cxC X (loc ++ caps) scope C s H fp) tg g) (ht : ∀ C s H fp, PTsi ce (cxC X (loc ++ caps) scope C s H fp) ifs mt) (he : ∀ C s H fp, PEi ce (cxC X (loc ++ caps) scope C s H fp) elt me)
  (ok : Je0 N0 loc caps js sc₀ scope = true) (hN0 : X.N = N0 := by rfl) (hsc : X.env.scope = sc₀ := by rfl) (hs : ∀ x, foldedSetIterable iter X.env x = pure x := by intro _; rfl)
  {pins : List (Addr × Obj)} {s : Shared} {σ : L2.St} {H : Hp} {ι : List Addr} {σi : ISt} {h : IH} {Q : Value -> Shared -> Prop} {E : Value -> Shared -> Prop} (N : Now ce X pins ι σi h σ H s) (K : Jpf ce X use pins ι σi σ H (Jy mi loc.length js g mt me σi h) Q E) :
  wpAny (model X.prog X.w) X.A (comprehension (.ListComp elt [⟨tg, iter, ifs, 0⟩] scope pos) scope X.env ppos (newList []) false (eval iter X.env) use) Q E s := by
 simp only [Je0, Bool.and_eq_true, decide_eq_true_eq, List.all_eq_true, Bool.not_eq_true', Bool.or_eq_true, beq_iff_eq, beq_eq_false_iff_ne] at ok
 obtain ⟨⟨⟨⟨⟨⟨⟨⟨⟨kF, kF0⟩, kNC⟩, kL⟩, kFr⟩, kFx⟩, kJ⟩, kLen⟩, kNd⟩, kLo⟩ := ok
 have hfree : ∀ x ∈ scope.names, x.2 = .free -> X.env.kindOf x.1 = some .cell ∨ X.env.kindOf x.1 = some .free := λ x hx hk => by
  have e : X.env.kindOf x.1 = sc₀.names.lookup x.1 := by rw [<- hsc]; rfl
  rw [e]
  rcases kFr x hx with (z | z) | z
  ·exact absurd hk z
  ·exact .inl z
  ·exact .inr z
 have hclos : closureFor scope X.env = pure (clOf X.env.cells scope.names []) := Jpc λ x hx hk => N.inv.ok.has x.1 (hfree x hx hk)
 refine wpAny_comprehension_free (use := use) (e := .ListComp elt [⟨tg, iter, ifs, 0⟩] scope pos) rfl hs hclos kF (λ x hx hl => (kL x hx).resolve_left λ z => z hl) ?_
 refine hi pins s σ H ι σi h _ E N ?_
 unfold Jy at K
 cases e0 : mi σi h with
 | exc n h' => rw [e0] at K; exact K
 | stuck => rw [e0] at K; exact K
 | ok Jt h1 =>
  rw [e0] at K
  intro itv s1 H1 ι1 N1 n1 RI
  obtain ⟨it, fp, tn, J, e, T, st1, f1, OK⟩ := RI
  subst e
  -- the list
  refine wpAny_newObj_type ?_
  have fresh1 : H1 s1.heap.objs.size = none := N1.inv.hok.fresh (Nat.le_refl _)
  have I2 : Inv X pins σ (upd H1 s1.heap.objs.size (.lst [])) { s1 with heap := s1.heap.push { cls := .type "list", dict := none, data := .seq ([] : List Value).toArray } } :=
   N1.inv.laid (t' := s1.toks) (λ b u e => Heap.get?_push_of_some _ e) (Nat.le_refl _) ⟨Nat.zero_le _, [], 0, .nil, Heap.get?_push_size _ rfl⟩
  obtain ⟨R2, n2⟩ := N1.rel.alloc (o := .lst []) (io := .lst []) fresh1 ⟨[], Jf, rfl⟩
  generalize hs2 : ({ s1 with heap := s1.heap.push { cls := .type "list", dict := none, data := .seq ([] : List Value).toArray } } : Shared) = s2 at I2 ⊢
  generalize hD : s1.heap.objs.size = D at *
  generalize hH2 : upd H1 D (.lst []) = H2 at *
  have N2 : Now ce X pins (ι1 ++ [D]) σi (h1 ++ [.lst []]) σ H2 s2 := ⟨I2, R2, N1.st.mono n2⟩
  have keep12 : ∀ b o, s1.heap.get? b = some o -> s2.heap.get? b = some o := λ b o q => by rw [<- hs2]; exact Heap.get?_push_of_some _ q
  have st2 : tn 0 s2.heap := T.keep 0 _ _ st1 λ b _ o q => keep12 b o q
  have hat : (ι1 ++ [D])[h1.length]? = some D := by
   rw [<- N1.rel.len, List.getElem?_append_right (Nat.le_refl _)]
   simp
  have f2 : ∀ b ∈ fp, FpOk X pins H2 b := λ b hb => by
   refine ⟨?_, (f1 b hb).2⟩
   obtain ⟨o, ho, _⟩ := T.obj 0 _ st1 b hb
   have : b ≠ D := Nat.ne_of_lt (by rw [<- hD]; exact Heap.lt_size ho)
   rw [<- hH2, Jg this]
   exact (f1 b hb).1
  -- the block's own dict
  refine wpAny_newFunctionEnv (λ x hx => kNC x hx) (by intro y hy; simp at hy) (λ h3 hns3 hsb3 => ?_) kF
  generalize hC : s2.heap.objs.size = C at *
  have keep23 : ∀ b o, s2.heap.get? b = some o -> h3.get? b = some o := λ b o q => (hsb3.2 b (Nat.ne_of_lt (by rw [<- hC]; exact Heap.lt_size q))).trans (Heap.get?_push_of_some _ q)
  have cells' : ∀ x c, (clOf X.env.cells scope.names []).lookup x = some c -> X.env.cells.lookup x = some c := Jtf _ _ (λ x c q => by simp at q)
  -- the context of the block
  have okX : (cxC X (loc ++ caps) scope C s2 H2 fp).Ok := by
   refine ⟨N.inv.ok.mod, kF, N.inv.ok.glob, N.inv.ok.blt, Nat.le_of_eq hC, λ x y c a b => N.inv.ok.inj x y c (cells' x c a) (cells' y c b), λ x hx => ?_, λ x c z => ?_, N.inv.ok.hd, N.inv.ok.frames, .inl rfl, λ b hb => ?_, λ b o q => I2.bs b o q,
    Nat.le_trans N.inv.ok.bsz I2.sz, λ b o q hb => ?_, λ b hb z => ?_, I2.stack, I2.stkFree⟩
   ·have hx' : (relabel scope X.env).names.lookup x = some .cell ∨ (relabel scope X.env).names.lookup x = some .free := hx
    have hfr : scope.names.lookup x = some .free := by
     rcases hx' with z | z
     ·obtain ⟨k0, e, m⟩ := Jcm z
      simp only [List.mem_cons, Prod.mk.injEq, List.not_mem_nil, or_false] at m
      rcases m with ⟨m1, _⟩ | ⟨_, m2⟩
      ·exact absurd (kNC _ (PySem.mem_of_lookup e)) (by rw [<- m1]; intro q; exact q rfl)
      ·rw [m2] at e; exact e
     ·obtain ⟨k0, e, m⟩ := Jcm z
      simp only [List.mem_cons, Prod.mk.injEq, List.not_mem_nil, or_false] at m
      rcases m with ⟨m1, _⟩ | ⟨m1, _⟩
      ·rw [<- m1] at e; exact e
      ·cases m1
    have hm := PySem.mem_of_lookup hfr
    obtain ⟨c, hc'⟩ := N.inv.ok.has x (hfree (x, .free) hm rfl)
    exact Option.isSome_iff_exists.mp (Jpl _ _ x c hm hc')
   ·exact absurd (show false = true from z) Bool.false_ne_true
   ·have hbD := f2 b hb
    obtain ⟨o, ho, _⟩ := T.obj 0 _ st2 b hb
    exact ⟨Nat.ne_of_lt (by show b < C; rw [<- hC]; exact Heap.lt_size ho), λ x c q => hbD.2.2.2.2.1 x c (cells' x c q)⟩
   ·rcases (f2 b hb).2.2.2.1 with z | z
    ·exact N.inv.ok.noex b o q z
    ·exact Nat.lt_irrefl _ (Nat.lt_of_lt_of_le (Heap.lt_size q) (Nat.le_trans N.inv.ok.bsz z))
   ·rcases List.mem_cons.mp (I2.stkSub b z) with e | e
    ·exact (f2 b hb).2.1 e
    ·exact (f2 b hb).2.2.1 e
  -- the block's state
  have lenJ : js.length = caps.length := kLen
  have stl : (stC loc.length js σi).length = (loc ++ caps).length := by simp [stC, lenJ]
  have R3 : Rel ce X.K (ι1 ++ [D]) (h1 ++ [.lst []]) H2 := R2
  have I3 : Inv (cxC X (loc ++ caps) scope C s2 H2 fp) [] (List.replicate loc.length none ++ js.map λ j => (σ[j]?).join) H2 { s2 with heap := h3, toks := s2.toks + ([] : List (Str × Value)).length } := by
   refine ⟨okX, rfl, I2.bare, Un.kept keep23, ⟨_, hns3, λ i x v a b c => ?_⟩, λ x c q => ?_, I2.hok.fresh (Nat.le_of_eq hC), λ x c q => I2.freeC x c (cells' x c q), λ p hp => absurd (show p ∈ ([] : List (Addr × Obj)) from hp) (by simp), I2.hok.kept keep23, by show _ = (loc ++ caps).length; simp [lenJ]⟩
   ·have hi : loc.length <= i := by
     refine Nat.le_of_not_lt λ hlt => ?_
     rw [List.getElem?_append_left (by simpa using hlt), List.getElem?_replicate] at b
     split at b <;> cases b
    obtain ⟨k, rfl⟩ : ∃ k, i = loc.length + k := ⟨i - loc.length, by omega⟩
    have a' : (loc ++ caps)[loc.length + k]? = some x := a
    rw [List.getElem?_append_right (by omega)] at a'
    rw [List.getElem?_append_right (by simp)] at b
    simp only [Nat.add_sub_cancel_left, List.length_replicate, List.getElem?_map] at a' b
    cases ej : js[k]? with
    | none => rw [ej] at b; cases b
    | some j =>
     rw [ej] at b
     have b' : (σ[j]?).join = some v := Option.some.inj b
     have hσ : σ[j]? = some (some v) := by
      cases es : σ[j]? with
      | none => rw [es] at b'; cases b'
      | some o => rw [es] at b'; rw [show o = some v from b']
     have hz := kJ (j, x) (List.mem_iff_getElem?.mpr ⟨k, by rw [List.getElem?_zip_eq_some]; exact ⟨ej, a'⟩⟩)
     obtain ⟨hx1, hx2⟩ := hz
     obtain ⟨m, hn, hl⟩ := I2.loc
     have hk := hfree (x, .free) (PySem.mem_of_lookup hx2) rfl
     obtain ⟨u, ru, lk⟩ := hl j x v (by rw [hN0]; exact hx1) hσ (by rcases hk with q | q; exact .inr (.inl q); exact .inr (.inr q))
     rcases lk with ⟨q, _⟩ | ⟨q, c, hc', hcell⟩
     ·rcases hk with q' | q' <;> (rw [q'] at q; cases q)
     ·obtain ⟨kk, ek, hkk⟩ := Jkp (env := X.env) hx2
      have hcl := Jpl (cells := X.env.cells) scope.names [] x c (PySem.mem_of_lookup hx2) hc'
      obtain ⟨c', hc2⟩ := Option.isSome_iff_exists.mp hcl
      have := cells' x c' hc2
      rw [hc'] at this
      cases this
      obtain ⟨oc, hoc, hd⟩ := hcell
      refine ⟨u, ru, .inr ⟨?_, c, hc2, oc, keep23 _ _ hoc, hd⟩⟩
      rcases hkk with rfl | rfl
      ·exact .inl ek
      ·exact .inr ek
   ·obtain ⟨v, o, ho, hd⟩ := I2.cell x c (cells' x c q)
    exact ⟨v, o, keep23 _ _ ho, hd⟩
  have N3 : Now ce (cxC X (loc ++ caps) scope C s2 H2 fp) [] (ι1 ++ [D]) (stC loc.length js σi) (h1 ++ [.lst []]) (List.replicate loc.length none ++ js.map λ j => (σ[j]?).join) H2 { s2 with heap := h3, toks := s2.toks + ([] : List (Str × Value)).length } := by
   refine ⟨I3, R3, by simp [stC], λ i v q => ?_⟩
   unfold stC at q
   have hi : loc.length <= i := by
    refine Nat.le_of_not_lt λ hlt => ?_
    rw [List.getElem?_append_left (by simpa using hlt), List.getElem?_replicate] at q
    split at q <;> cases q
   rw [List.getElem?_append_right (by simpa using hi)] at q
   simp only [List.length_replicate, List.getElem?_map] at q
   cases ej : js[i - loc.length]? with
   | none => rw [ej] at q; cases q
   | some j =>
    rw [ej] at q
    have q' : (σi[j]?).join = some v := Option.some.inj q
    have hσ : σi[j]? = some (some v) := by
     cases es : σi[j]? with
     | none => rw [es] at q'; cases q'
     | some o => rw [es] at q'; rw [show o = some v from q']
    obtain ⟨u, hu, qu⟩ := N2.st.at_ j v hσ
    refine ⟨u, ?_, qu⟩
    rw [List.getElem?_append_right (by simpa using hi)]
    simp only [List.length_replicate, List.getElem?_map, ej, Option.map_some, hu]
    rfl
  have st3 : tn 0 h3 := T.keep 0 _ _ st2 λ b _ o q => keep23 b o q
  have K2 : Jpf ce X use pins (ι1 ++ [D]) σi σ H2 (Jcg Jt.chk g mt me h1.length Jt.xs (stC loc.length js σi) (h1 ++ [.lst []])) Q E := Jpf.mono (r := Jcg Jt.chk g mt me h1.length Jt.xs (stC loc.length js σi) (h1 ++ [.lst []])) K (n1.trans n2)
  have loop : codeAny (model X.prog X.w) X.A (.compLoop (.ListComp elt [⟨tg, iter, ifs, 0⟩] scope pos) 0 (.ref it) (.ref D) (compEnvC scope (clOf X.env.cells scope.names []) C X.env)) (compPost (model X.prog X.w) X.A E use Q (.ref D) C)
    { s2 with heap := h3, toks := s2.toks + ([] : List (Str × Value)).length } := by
   refine Jre (λ n s' => ∃ k ιk σk hk σ' H', Now ce (cxC X (loc ++ caps) scope C s2 H2 fp) [] ιk σk hk σ' H' s' /\ Nxt (ι1 ++ [D]) H2 ιk H' /\ tn k s'.heap /\ (∀ b ∈ fp, H' b = none) /\ n = Jt.xs.length - k /\ k <= Jt.xs.length /\ Jpf ce X use pins ιk σi σ H' (Jcg Jt.chk g mt me h1.length (Jt.xs.drop k) σk hk) Q E) ?_ Jt.xs.length
    ⟨0, ι1 ++ [D], stC loc.length js σi, h1 ++ [.lst []], _, H2, N3, .refl, st3, λ b hb => (f2 b hb).1, by simp, Nat.zero_le _, by simpa using K2⟩
   have stat : ∀ {H' : Hp}, (∀ b ∈ fp, H' b = none) -> ∀ b ∈ fp, FpOk (cxC X (loc ++ caps) scope C s2 H2 fp) [] H' b := λ hn b hb =>
    ⟨hn b hb, (okX.exf b hb).1, okX.exfs b hb, .inl hb, (okX.exf b hb).2, λ p hp => absurd (show p ∈ ([] : List (Addr × Obj)) from hp) (by simp)⟩
   rintro n s4 ⟨k, ιk, σk, hk, σ4, H4, N4, n4, st4, fr4, rfl, hkl, K4⟩
   by_cases hlt : k < Jt.xs.length
   ·have hd : Jt.xs.drop k = Jt.xs[k] :: Jt.xs.drop (k + 1) := List.drop_eq_getElem_cons hlt
    rw [hd] at K4
    unfold Jcg at K4
    split at K4
    ·rename_i hck
     obtain ⟨go, yl⟩ := OK.go k Jt.xs[k] hk H4 ιk (n2.trans n4) N4.rel hck (List.getElem?_eq_getElem hlt)
     refine thn (T.item (cxC X (loc ++ caps) scope C s2 H2 fp) rfl rfl rfl hc k [] s4 σ4 H4 (λ _ _ => False) N4.inv (stat fr4) st4 go) λ r s5 ⟨u, hr, h5⟩ => ?_
     subst hr
     refine thn h5 λ _ s6 ⟨x, H6, I6, r6, y6, st6, fr6⟩ => ?_
     obtain ⟨R6, n6, q6⟩ := yl x H6 y6
     have I6' := I6.pinned (stat fr6) (T.obj _ _ st6)
     have N6 : Now ce (cxC X (loc ++ caps) scope C s2 H2 fp) ([] ++ Jio fp s6.heap) ιk σk hk σ4 H6 s6 := ⟨I6', R6, N4.st.mono n6⟩
     have again : ∀ {σ7 : L2.St} {H7 : Hp} {s7 : Shared} {σ7i : ISt} {h7 : IH} {ι7 : List Addr}, Now ce (cxC X (loc ++ caps) scope C s2 H2 fp) ([] ++ Jio fp s6.heap) ι7 σ7i h7 σ7 H7 s7 -> Nxt ιk H6 ι7 H7 -> Jpf ce X use pins ιk σi σ H4 (Jcg Jt.chk g mt me h1.length (Jt.xs.drop (k + 1)) σ7i h7) Q E ->
       ∃ m, m < Jt.xs.length - k /\ ∃ k ιk σk hk σ' H', Now ce (cxC X (loc ++ caps) scope C s2 H2 fp) [] ιk σk hk σ' H' s7 /\ Nxt (ι1 ++ [D]) H2 ιk H' /\ tn k s7.heap /\ (∀ b ∈ fp, H' b = none) /\ m = Jt.xs.length - k /\ k <= Jt.xs.length /\ Jpf ce X use pins ιk σi σ H' (Jcg Jt.chk g mt me h1.length (Jt.xs.drop k) σk hk) Q E :=
      λ {σ7 H7 s7 σ7i h7 ι7} N7 n7 K7 => by
       have nn : Nxt ιk H4 ι7 H7 := n6.trans n7
       refine ⟨Jt.xs.length - (k + 1), by omega, k + 1, ι7, σ7i, h7, σ7, H7, N7.pins, n4.trans nn, T.keep _ _ _ st6 λ b hb o e => (N7.inv.pin (b, o) (List.mem_append_right _ (List.mem_append_right _ (Jdc hb e)))).1, λ b hb => ?_, rfl, hlt, K7.mono nn⟩
       obtain ⟨o, e, d⟩ := T.obj _ _ st6 b hb
       exact (N7.inv.pin (b, o) (List.mem_append_right _ (List.mem_append_right _ (Jdc hb e)))).2.1
     cases eg : g Jt.xs[k] σk hk with
     | next σg hgg =>
      rw [eg] at K4
      dsimp only at K4
      refine hg C s2 H2 fp _ s6 σ4 H6 ιk σk hk _ u (λ _ s7 => wpAny (model X.prog X.w) X.A (forIn ifs true λ c r => if r = true then do let ok <- isTrue c _ (eval c _); pure (ForInStep.yield ok) else pure (ForInStep.yield r)) _ _ s7) (λ _ _ => False) N6 ⟨x, r6, q6⟩ ?_
      rw [eg]
      intro s7 σ7 H7 ι7 N7 n7
      refine ht C s2 H2 fp _ s7 σ7 H7 ι7 σg hgg _ (λ _ _ => False) N7 ?_
      cases et : mt σg hgg with
      | ok c h8 =>
       rw [et] at K4
       intro d s8 H8 ι8 N8 n8 rd
       have rd' : d = c := rd
       subst rd'
       cases d with
       | false => exact again N8 (n7.trans n8) K4
       | true =>
        dsimp only at K4
        refine he C s2 H2 fp _ s8 σ7 H8 ι8 σg h8 _ (λ _ _ => False) N8 ?_
        cases ee : me σg h8 with
        | ok v h9 =>
         rw [ee] at K4
         dsimp only at K4
         intro w s9 H9 ι9 N9 n9 rw9
         have hat9 : ι9[h1.length]? = some D := (((n4.trans n6).trans n7).trans (n8.trans n9)).at hat
         cases hl : h9[h1.length]? with
         | none => rw [hl] at K4; exact Zf K4
         | some ob =>
          rw [hl] at K4
          cases ob with
          | lst acc =>
           dsimp only at K4
           split at K4
           ·rename_i hz
            obtain ⟨vs, eD, rD⟩ := N9.at hl hat9
            obtain ⟨wv, rw9, qw⟩ := rw9
            have ap := Jqs (X := (cxC X (loc ++ caps) scope C s2 H2 fp).wish λ _ _ => False) ([] ++ Jio fp s6.heap) s9 σ7 H9 (.ref D) [wv] (.ref D) [w] (λ _ H' => H' = upd H9 D (.lst (vs ++ [wv]))) (N9.inv.wish _) rfl (.cons rw9 .nil) ⟨D, vs, wv, rfl, rfl, eD, by rw [rD.length]; exact hz, rfl⟩
            refine wpAny_mono ap (λ _ s10 hq => ?_) λ _ _ z => z
            obtain ⟨z, H10, I10, _, rfl⟩ := hq
            have n10 : Nxt ι9 H9 ι9 (upd H9 D (.lst (vs ++ [wv]))) := ⟨⟨[], by simp⟩, Ext.upd_mut eD (by rw [eD]; exact True.intro)⟩
            obtain ⟨R10, _⟩ := N9.rel.write (o := .lst (vs ++ [wv])) (io := .lst (acc ++ [v])) hat9 eD (by rw [eD]; exact True.intro) ⟨_, Jf, (RVs.mono n10 _ _ rD).append (RVs.one (RV.mono n10 _ _ qw))⟩
            exact again ⟨I10.unwish, R10, N9.st.mono n10⟩ (((n7.trans n8).trans n9).trans n10) K4
           ·exact Zf K4
          | _ => exact Zf K4
        | _ => rw [ee] at K4; exact Zf K4
      | _ => rw [et] at K4; exact Zf K4
     | _ => rw [eg] at K4; exact Zf K4
    ·exact Zf K4
   ·have hke : Jt.xs.drop k = [] := List.drop_eq_nil_of_le (by omega)
    rw [hke] at K4
    unfold Jcg at K4
    split at K4
    ·rename_i hck
     have stop := OK.stop k hk H4 ιk (n2.trans n4) N4.rel hck (by omega)
     refine thn (T.done (cxC X (loc ++ caps) scope C s2 H2 fp) rfl rfl rfl hc k [] s4 σ4 H4 (λ _ _ => False) N4.inv (stat fr4) st4 stop) λ r s5 ⟨hr, I5⟩ => ?_
     subst hr
     obtain ⟨m, hnm, _⟩ := I5.loc
     -- back to the def's own frame
     have hos : s5.os = s2.os := I5.os
     obtain ⟨hp5, g5, d5, t5, os5⟩ := s5
     obtain rfl : os5 = s2.os := hos
     have J5 : Inv X pins σ H4 { s2 with heap := hp5, gens := g5, drawn := d5, toks := t5 } := I2.call (ch := fp) I5.base I5.hok I5.bare λ b hb => ⟨(f2 b hb).2.2.2.1, (f2 b hb).2.1, (f2 b hb).2.2.2.2.1, (f2 b hb).2.2.2.2.2⟩
     have fC : FpOk X pins H4 C := I2.fpOk (Nat.le_of_eq hC) I5.free
     exact K4 D C m _ H4 ιk ⟨J5, N4.rel, (N2.st.mono n4)⟩ .refl ⟨.ref D, rfl, D, rfl, n4.at hat⟩ hnm fC
    ·exact Zf K4
  exact codeAny_compStart_list loop (T.self X.A 0 _ _ _ st3 loop)
theorem Now.letgo {pins : List (Addr × Obj)} {ι : List Addr} {σi : ISt} {h : IH} {σ : L2.St} {H : Hp} {s : Shared} {C : Addr} {h' : Heap} (N : Now ce X pins ι σi h σ H s) (fC : FpOk X pins H C) (sb : Heap.SameBut C s.heap h') : Now ce X pins ι σi h σ H { s with heap := h' } :=
 ⟨N.inv.turned (it := C) (t' := s.toks) (λ b o hb q => (sb.2 b hb).trans q) fC.1 fC.2.1 fC.2.2.2.1 fC.2.2.2.2.1 fC.2.2.2.2.2, N.rel, N.st⟩
theorem Jzy {N0 loc caps : List Str} {js : List Nat} {sc₀ scope : Scope} {tg iter elt : Expr} {ifs : List Expr} {mi : I1} {g : G1} {mt : T1} {me : E1} {pos : Pos} (hc : X.calm = true) (hi : PIi ce X tg iter mi)
  (hg : ∀ C s H fp, PGi ce (cxC X (loc ++ caps) scope C s H fp) tg g) (ht : ∀ C s H fp, PTsi ce (cxC X (loc ++ caps) scope C s H fp) ifs mt) (he : ∀ C s H fp, PEi ce (cxC X (loc ++ caps) scope C s H fp) elt me)
  (ok : Je0 N0 loc caps js sc₀ scope = true) (hN0 : X.N = N0 := by rfl) (hsc : X.env.scope = sc₀ := by rfl) (hs : ∀ x, foldedSetIterable iter X.env x = pure x := by intro _; rfl) : PEi ce X (.ListComp elt [⟨tg, iter, ifs, 0⟩] scope pos) (Jy mi loc.length js g mt me) := by
 intro pins s σ H ι σi h Q E N K
 rw [eval_ListComp]
 refine Jqt hc hi hg ht he ok hN0 hsc hs N ?_
 cases e0 : Jy mi loc.length js g mt me σi h with
 | exc n h' => rw [e0] at K; exact K
 | stuck => rw [e0] at K; exact K
 | ok v h' =>
  rw [e0] at K
  exact λ D C m s' H' ι' N' n' r hns fC => ⟨m, hns, λ h2 sb => K _ _ H' ι' (N'.letgo fC sb) n' r⟩
theorem J0m {N0 loc caps : List Str} {js : List Nat} {sc₀ scope : Scope} {tg iter elt : Expr} {ifs : List Expr} {mi : I1} {g : G1} {mt : T1} {me : E1} {pos pos2 pos3 : Pos} {i : Nat} {x : Str} (hc : X.calm = true) (hi : PIi ce X tg iter mi)
  (hg : ∀ C s H fp, PGi ce (cxC X (loc ++ caps) scope C s H fp) tg g) (ht : ∀ C s H fp, PTsi ce (cxC X (loc ++ caps) scope C s H fp) ifs mt) (he : ∀ C s H fp, PEi ce (cxC X (loc ++ caps) scope C s H fp) elt me)
  (ok : Je0 N0 loc caps js sc₀ scope = true) (hN0 : X.N = N0 := by rfl) (hsc : X.env.scope = sc₀ := by rfl) (hs : ∀ x, foldedSetIterable iter X.env x = pure x)
  (hN : X.N.Nodup) (hix : X.N[i]? = some x) (hlx : Loc X.env.scope x) (hf : X.fn x = true ∨ X.env.scope.names.lookup x = some .local)
  (hsw : swapsWith (.ListComp elt [⟨tg, iter, ifs, 0⟩] scope pos) (some (.Name x pos2)) pos3.line X.env = pure true) :
  PS1 ce X (.Assign [.Name x pos2] (.ListComp elt [⟨tg, iter, ifs, 0⟩] scope pos) pos3) (sSet i (Jy mi loc.length js g mt me)) := by
 intro pins s σ H ι σi h Q E N K
 rw [exec_Assign_Name_used _ _ _ _ hsw]
 refine wpAny_bind (wpAny_standAt (wpAny_bind ?_))
 rw [arm_evalThenUse_ListComp]
 refine wpAny_bind ?_
 refine Jqt (use := some (assign (.Name x pos2) X.env)) hc hi hg ht he ok hN0 hsc hs N ?_
 unfold sSet at K
 cases e0 : Jy mi loc.length js g mt me σi h with
 | exc n h' => rw [e0] at K; exact λ pl a s' H' ι' N' n' q => K pl a s' σ H' ι' N' n' q
 | stuck => rw [e0] at K; exact K
 | ok v h' =>
  rw [e0] at K
  intro D C m s' H' ι' N' n' r hns fC
  obtain ⟨w, rw', q⟩ := r
  obtain ⟨oC, es, ep, hoC, hdC, hrest⟩ := id hns
  have hp : Inv X (pins ++ Jio [C] s'.heap) σ H' s' := N'.inv.pinned (λ b hb => (show b = C by simpa using hb) ▸ fC) (λ b hb => by
   have e : b = C := by simpa using hb
   subst e
   exact ⟨oC, hoC, λ v z => by rw [hdC] at z; cases z⟩)
  refine wpAny_assign_Name (Jo0 hp hN hix hlx rw' (λ s2 I2 => ?_) hf)
  have hC2 := (I2.pin (C, oC) (List.mem_append_right _ (List.mem_append_right _ (Jdc (by simp) hoC)))).1
  refine ⟨m, ⟨oC, es, ep, hC2, hdC, hrest⟩, λ h2 sb => wpAny_pure ?_⟩
  have N2 : Now ce X pins ι' (σi.set i (some v)) h' (σ.set i (some w)) H' s2 := ⟨I2.unpinned, N'.rel, N'.st.set i q⟩
  exact wpAny_pure (K _ _ H' ι' (N2.letgo fC sb) n')
end
end L3
namespace L3
open PySem PySem.Spec PyProof.Rows L2
section
variable {ce : Str -> Option Addr} {X : Cx}
noncomputable def Jnf (x : Str) : List IV := x.cps.toList.map λ c => .str ⟨#[c]⟩
noncomputable def Its (x : Str) : It := ⟨λ i _ => i < x.cps.size, λ i H y H' => H' = H /\ ∃ c, x.cps[i]? = some c /\ y = .str ⟨#[c]⟩, λ i _ => x.cps.size <= i⟩
theorem Js1 {P : Program} {w : World} {K : W.Frag} {tg : Expr} {ty : String} {x : Str} {t : Tok} (it : Addr) (hty : ["enumerate", "zip", "dict_itemiterator", "dict_reverseitemiterator", "odict_iterator", "itertools.zip_longest", "itertools.pairwise"].contains ty = false)
  (W : ∀ A : Around, A.handled = none -> Walks P w A it [it] [it] x.cps.size (SignAt x) (λ i h => h.IsStrIter it ty x t i))
  (We : ∀ (A : Around) (E : Value -> Shared -> Prop) (s : Shared) (i : Nat) (Q : Option Value -> Shared -> Prop), A.handled = none -> s.heap.IsStrIter it ty x t i -> x.cps[i]? = none -> (∀ h', Heap.ExtBut it s.heap h' -> Q none { s with heap := h' }) -> wpAny (model P w) A (pyNext (.ref it)) Q E s)
  (Ws : ∀ (A : Around) (E : Value -> Shared -> Prop) (s : Shared) (i : Nat) (Q : Value -> Shared -> Prop), s.heap.IsStrIter it ty x t i -> Q (.ref it) s -> wpAny (model P w) A (pyIter (.ref it)) Q E s) : Turn P w K tg (Its x) [it] it (λ i h => h.IsStrIter it ty x t i) where
 mem := by simp
 obj := λ i h st b hb => by
  have e : b = it := by simpa using hb
  subst e
  obtain ⟨o, e, c, d⟩ := st
  exact ⟨o, e, λ v z => by rw [d] at z; cases z⟩
 keep := λ i h h' st k => by
  obtain ⟨o, e, r⟩ := st
  exact ⟨o, k it (by simp) o e, r⟩
 item := by
  intro X hP hw hK hc i pins s σ H E I hf st hg
  subst hP hw hK
  obtain ⟨f0, f1, f2, f3, f4, f5⟩ := hf it (by simp)
  refine (W X.A (I.ok.hd hc)).item i s _ _ hg st λ v h' tk hv st' kk => ?_
  obtain ⟨c, u, hcc, rfl⟩ := hv
  have I1 : Inv X pins σ H { s with heap := h', toks := tk } := I.turned (λ b o hb e => kk b o (by simpa using hb) e) f0 f1 f3 f4 f5
  obtain ⟨o, e, c1, d1⟩ := id st'
  exact ⟨_, rfl, Jy2 (s := { s with heap := h', toks := tk }) e c1 d1 hty ⟨.str ⟨#[c]⟩, H, I1, ⟨u, rfl⟩, ⟨rfl, c, hcc, rfl⟩, st', λ b hb => (hf b hb).1⟩⟩
 done := by
  intro X hP hw hK hc i pins s σ H E I hf st hg
  subst hP hw hK
  obtain ⟨f0, f1, f2, f3, f4, f5⟩ := hf it (by simp)
  have hi : x.cps.size <= i := hg
  have hx : x.cps[i]? = none := by simp [hi]
  exact We X.A _ s i _ (I.ok.hd hc) st hx λ h' eb => ⟨rfl, I.turned (t' := s.toks) (λ b o hb e => eb b o hb e) f0 f1 f3 f4 f5⟩
 self := λ A i s Q E st h => Ws A E s i Q st h
noncomputable def Jzv : IV -> IH -> Res ItI
 | .str x, h => .ok ⟨Jnf x, λ _ => True⟩ h
 | _, _ => .stuck
noncomputable def iStr (e : E1) : I1 := λ σ h => (e σ h).bind Jzv
theorem J0e {x : Str} {ι : List Addr} {H₀ : Hp} : ItOk ce X.K ι H₀ (Its x) ⟨Jnf x, λ _ => True⟩ := by
 refine ⟨λ k v h H ι' hp R hck hx => ?_, λ k h H ι' hp R hck hx => ?_⟩
 ·have hk : k < x.cps.size := by
   have := (List.getElem?_eq_some_iff.mp hx).1
   simpa [Jnf] using this
  refine ⟨hk, λ y H' hy => ?_⟩
  obtain ⟨rfl, c, hc, rfl⟩ := hy
  simp only [Jnf, List.getElem?_map, Array.getElem?_toList, hc] at hx
  cases hx
  exact ⟨R, .refl, rfl⟩
 ·have : (Jnf x).length = x.cps.size := by simp [Jnf]
  show x.cps.size <= k
  rw [<- this]
  exact hx
theorem Jtu {tg l : Expr} {ml : E1} (hl : PEi ce X l ml) : PIi ce X tg l (iStr ml) := by
 intro pins s σ H ι σi h Q E N K
 refine hl pins s σ H ι σi h _ E N ?_
 unfold iStr at K
 cases e0 : ml σi h with
 | exc n h' => rw [e0] at K; exact K
 | stuck => rw [e0] at K; exact K
 | ok v h' =>
  rw [e0] at K
  intro u s1 H1 ι1 N1 n1 r1
  obtain ⟨w, rw', q⟩ := r1
  have fresh : ∀ b ∈ [s1.heap.objs.size], FpOk X pins H1 b := λ b hb => by
   have e : b = s1.heap.objs.size := by simpa using hb
   subst e
   exact N1.inv.fpOk (Nat.le_refl _) (N1.inv.hok.fresh (Nat.le_refl _))
  cases v with
  | str x =>
   have e1 : w = .str x := q
   subst e1
   obtain ⟨t, rfl⟩ := rw'
   simp only [Res.bind, Jzv] at K
   cases ha : x.cps.all (· < 128) with
   | true =>
    refine wpAny_pyIter_ascii ha (K _ _ H1 ι1 ⟨N1.inv.kept (t' := s1.toks) λ b o e => Heap.get?_push_of_some _ e, N1.rel, N1.st⟩ n1 ?_)
    exact ⟨s1.heap.objs.size, [s1.heap.objs.size], _, Its x, rfl, Js1 (ty := "str_ascii_iterator") (t := t) _ (by decide) (λ A hA => Walks.strAscii hA _ x t) (λ A E s i Q hA st hx hQ => wpAny_pyNext_ascii_end hA st hx hQ) (λ A E s i Q st hq => wpAny_pyIter_striter_ascii st hq), ⟨_, Heap.get?_push_size _ rfl, rfl, rfl⟩, fresh, J0e⟩
   | false =>
    refine wpAny_pyIter_wide ha (K _ _ H1 ι1 ⟨N1.inv.kept (t' := s1.toks) λ b o e => Heap.get?_push_of_some _ e, N1.rel, N1.st⟩ n1 ?_)
    exact ⟨s1.heap.objs.size, [s1.heap.objs.size], _, Its x, rfl, Js1 (ty := "str_iterator") (t := t) _ (by decide) (λ A hA => Walks.strWide hA _ x t) (λ A E s i Q hA st hx hQ => wpAny_pyNext_wide_end hA st hx hQ) (λ A E s i Q st hq => wpAny_pyIter_striter_wide st hq), ⟨_, Heap.get?_push_size _ rfl, rfl, rfl⟩, fresh, J0e⟩
  | _ => simp only [Res.bind, Jzv] at K
noncomputable def Ite (K : W.Frag) (a : Addr) : It :=
 ⟨λ i H => ∃ xs x, SqL K H a xs /\ xs[i]? = some x, λ i H y H' => ∃ p x, H p = none /\ y = .ref p /\ H' = upd H p (.tup [.int (i : Int), x]) /\ ∀ xs, SqL K H a xs -> xs[i]? = some x, λ i H => ∃ xs, SqL K H a xs /\ xs.length <= i⟩
theorem Jvz {P : Program} {w : World} {K : W.Frag} {es : List Expr} {k : Nat} {p : Pos} (a it e : Addr) (hne : e ≠ it) : Turn P w K (.Tuple es k p) (Ite K a) [e, it] e (λ i h => (∃ old, IsEnum h e it (i : Int) old) /\ h.IsListIter it a i) where
 mem := by simp
 obj := λ i h st b hb => by
  obtain ⟨⟨old, he⟩, o, e1, c, d⟩ := st
  simp only [List.mem_cons, List.not_mem_nil, or_false] at hb
  rcases hb with rfl | rfl
  ·exact ⟨_, he, λ v z => by
    have z' : Data.fields _ = Data.cell v := z
    cases z'⟩
  ·exact ⟨o, e1, λ v z => by rw [d] at z; cases z⟩
 keep := λ i h h' st k => ⟨let ⟨old, he⟩ := st.1; ⟨old, k e (by simp) _ he⟩, st.2.at λ o e => k it (by simp) o e⟩
 item := by
  intro X hP hw hK hc i pins s σ H E I hf st hg
  subst hP hw hK
  obtain ⟨⟨old, he⟩, hit⟩ := st
  obtain ⟨xs, x, hq, hx⟩ := hg
  obtain ⟨its, rv, pl, hz⟩ := I.list hq
  obtain ⟨u, hu, ru⟩ := rv.get hx
  have fe := hf e (by simp)
  have fi := hf it (by simp)
  have hn : H s.heap.objs.size = none := I.hok.fresh (Nat.le_refl _)
  refine wpAny_pyNext_enum_item he hit pl.isList (x := u) (by simpa using hu) hne λ h' he' hit' ht hsz kk => ?_
  refine ⟨_, rfl, wpAny_letOwnedTupleGo_enum he' λ h2 he2 sb => ?_⟩
  have ltE : e < s.heap.objs.size := Heap.lt_size he
  have neT : s.heap.objs.size ≠ e := Nat.ne_of_gt ltE
  have k2 : ∀ b o, b ≠ e -> b ≠ it -> s.heap.get? b = some o -> h2.get? b = some o := λ b o h1 h3 q => (sb.2 b h1).trans (kk b o h1 h3 q)
  have hl2 : h2.IsListIter it a (i + 1) := by
   obtain ⟨o, q, r⟩ := hit'
   exact ⟨o, (sb.2 it (Ne.symm hne)).trans q, r⟩
  have t2 : h2.get? s.heap.objs.size = some { cls := .type "tuple", data := .seq #[.int i s.toks, u] } := (sb.2 _ neT).trans ht
  -- the two records turn, then the tuple is tracked
  obtain ⟨oe, hoe⟩ : ∃ o, s.heap.get? e = some o := ⟨_, he⟩
  obtain ⟨oi, hoi, _⟩ := id hit
  have neP : ∀ b u, H b = some u -> b ≠ s.heap.objs.size := λ b u q => Jx q hn
  have I1 : Inv X pins σ (upd H s.heap.objs.size (.tup [.int (i : Int), x])) { s with heap := h2, toks := s.toks + 1 } := by
   refine I.step (g' := s.gens) (d' := s.drawn) (ch := [e, it]) (λ b hb => ?_) (λ b o _ _ hc q _ => k2 b o (λ z => hc (by simp [z])) (λ z => hc (by simp [z])) q) (λ b o _ _ hc q _ => ⟨o.slots, k2 b o (λ z => hc (by simp [z])) (λ z => hc (by simp [z])) q⟩) (λ b o _ q n => ?_)
    (λ b o hc q => ⟨o, k2 b o (λ z => hc (by simp [z])) (λ z => hc (by simp [z])) q⟩) (λ b xs q => by rw [Jg (neP b _ q)]; exact q) (λ b o u q => by rw [Jg (neP b _ q)]; exact q) (λ b ps q => ⟨#[], by rw [Jg (neP b _ q), q]; simp⟩) (λ m hm => ?_) (λ b u q => ?_) I.bare
   ·simp only [List.mem_cons, List.not_mem_nil, or_false] at hb
    rcases hb with rfl | rfl
    ·exact ⟨fe.2.2.2.1, fe.2.1, fe.2.2.2.2.1, fe.2.2.2.2.2⟩
    ·exact ⟨fi.2.2.2.1, fi.2.1, fi.2.2.2.2.1, fi.2.2.2.2.2⟩
   ·rw [Jg (Nat.ne_of_lt (Heap.lt_size q))]; exact n
   ·obtain ⟨o, es, ep, ho, r⟩ := hm
    exact ⟨o, es, ep, k2 _ o (Ne.symm fe.2.1) (Ne.symm fi.2.1) ho, r⟩
   ·by_cases hb : b = s.heap.objs.size
    ·subst hb
     rw [Jf] at q
     cases q
     exact ⟨by show 2 <= sizeLine; decide, [.int i s.toks, u], .cons ⟨_, rfl⟩ (.cons ru .nil), ⟨_, t2, rfl, _, rfl⟩⟩
    ·rw [Jg hb] at q
     have n1 : b ≠ e := λ z => by rw [z, fe.1] at q; cases q
     have n2 : b ≠ it := λ z => by rw [z, fi.1] at q; cases q
     refine (I.hok b u q).stay (λ c v hc r => k2 c v ?_ ?_ r) (λ c q => by rw [Jg (neP c _ q)]; exact q) λ c ys q => by rw [Jg (neP c _ q)]; exact q
     ·rcases hc with z | z
      ·rw [z]; exact n1
      ·intro y; rw [y, fe.1] at z; cases z
     ·rcases hc with z | z
      ·rw [z]; exact n2
      ·intro y; rw [y, fi.1] at z; cases z
  refine ⟨.ref s.heap.objs.size, _, I1, rfl, ⟨s.heap.objs.size, x, hn, rfl, rfl, λ ys hy => by rw [I.list_inj hy hq]; exact hx⟩, ⟨⟨_, he2⟩, hl2⟩, λ b hb => ?_⟩
  simp only [List.mem_cons, List.not_mem_nil, or_false] at hb
  rcases hb with rfl | rfl
  ·rw [Jg (Nat.ne_of_lt ltE)]; exact fe.1
  ·rw [Jg (Nat.ne_of_lt (Heap.lt_size hoi))]; exact fi.1
 done := by
  intro X hP hw hK hc i pins s σ H E I hf st hg
  subst hP hw hK
  obtain ⟨⟨old, he⟩, hit⟩ := st
  obtain ⟨xs, hq, hx⟩ := hg
  obtain ⟨its, rv, p, hz⟩ := I.list hq
  obtain ⟨f0, f1, f2, f3, f4, f5⟩ := hf it (by simp)
  have hl := rv.length
  exact wpAny_pyNext_enum_end (I.ok.hd hc) he hit p.isList (by simp; omega) λ h' eb => ⟨rfl, I.turned (t' := s.toks) (λ b o hb e => eb b o hb e) f0 f1 f3 f4 f5⟩
 self := λ _ _ _ _ _ st h => let ⟨_, he⟩ := st.1; wpAny_pyIter_enum he h
noncomputable def Jgs (n : Nat) : List IV -> List IV
 | [] => []
 | x :: xs => .tup [.int n, x] :: Jgs (n + 1) xs
theorem Ji4 : ∀ (xs : List IV) (n k : Nat), (Jgs n xs)[k]? = (xs[k]?).map λ x => .tup [.int ((n + k : Nat) : Int), x]
 | [], _, _ => by simp [Jgs]
 | x :: xs, n, 0 => by simp [Jgs]
 | x :: xs, n, k + 1 => by
  simp only [Jgs, List.getElem?_cons_succ]
  rw [Ji4 xs (n + 1) k]
  have : n + 1 + k = n + (k + 1) := by omega
  rw [this]
theorem Jdb : ∀ (xs : List IV) (n : Nat), (Jgs n xs).length = xs.length
 | [], _ => rfl
 | _ :: xs, n => by simp [Jgs, Jdb xs]
noncomputable def Jjv : List IV -> IH -> Res ItI
 | [.ref i], h => match h[i]? with
  | some (.lst xs) => .ok ⟨Jgs 0 xs, λ h' => h'[i]? = some (.lst xs)⟩ h
  | _ => .stuck
 | _, _ => .stuck
theorem J5h {a : Addr} {i : Nat} {xs : List IV} {ι : List Addr} {H₀ : Hp} (ha : ι[i]? = some a) : ItOk ce X.K ι H₀ (Ite X.K a) ⟨Jgs 0 xs, λ h' => h'[i]? = some (.lst xs)⟩ := by
 refine ⟨λ k v h H ι' hp R hck hx => ?_, λ k h H ι' hp R hck hx => ?_⟩
 ·obtain ⟨vs, e1, r1⟩ := R.get hck (hp.at ha)
  have hx' : (Jgs 0 xs)[k]? = some v := hx
  rw [Ji4] at hx'
  obtain ⟨x, hxk, rfl⟩ := Option.map_eq_some_iff.mp hx'
  obtain ⟨u, hu, qu⟩ := r1.get hxk
  refine ⟨⟨vs, u, SqL.of e1, hu⟩, λ y H' hy => ?_⟩
  obtain ⟨p, x', hp0, rfl, rfl, hy⟩ := hy
  have := hy vs (SqL.of e1)
  rw [hu] at this
  cases this
  obtain ⟨R', n'⟩ := R.grow (o := .tup [.int (k : Int), u]) hp0
  refine ⟨R', n', p, _, rfl, SqT.of Jf, ⟨_, _, rfl, ?_, _, _, rfl, RV.mono n' _ _ qu, rfl⟩⟩
  show V.int (k : Int) = V.int ((0 + k : Nat) : Int)
  simp
 ·obtain ⟨vs, e1, r1⟩ := R.get hck (hp.at ha)
  exact ⟨vs, SqL.of e1, by rw [r1.length, <- Jdb xs 0]; exact hx⟩
theorem J4i {es : List Expr} {kt : Nat} {pt : Pos} {a : Expr} {ma : A1} {p pos : Pos} (hg : Gl X "enumerate") (hm : X.mg "enumerate" = none) (ha : PAi ce X [a] ma) (hs : starEach [a] X.env = [(false, eval a X.env)] := by rfl) : PIi ce X (.Tuple es kt pt) (.Call (.Name "enumerate" p) [a] [] pos) (iRg Jjv ma) := by
 intro pins s σ H ι σi h Q E N K
 refine Call_ (Jdh N.inv hg hm boot_enumerate (PyProof.Rows.callWith_type1 ?_ hs rfl))
 refine ha pos pins s σ H ι σi h _ E N ?_
 unfold iRg at K
 cases e0 : ma σi h with
 | exc n h' => rw [e0] at K; exact K
 | stuck => rw [e0] at K; exact K
 | ok vs h' =>
  rw [e0] at K
  intro us s1 H1 ι1 N1 n1 r1
  obtain ⟨xs, rv, qs⟩ := r1
  match vs, K with
  | [.ref i], K =>
   obtain ⟨w, e1, q⟩ := qs.one_of
   subst e1
   obtain ⟨b, e3, hb⟩ := q
   subst e3
   obtain ⟨u, rfl, ru⟩ := Jng rv
   cases ru
   cases hi : h'[i]? with
   | none => simp only [Res.bind, Jjv, hi] at K
   | some ob =>
    cases ob with
    | lst ys =>
     simp only [Res.bind, Jjv, hi] at K
     obtain ⟨ws, eH, rH⟩ := N1.at hi hb
     obtain ⟨z, its, n, r, hl, eo⟩ := N1.inv.lstM eH
     refine call_enumerate_1 eo λ h2 he hit hsz kp => ?_
     refine wpAny_pyIter_enum he (K _ _ H1 ι1 ⟨N1.inv.kept (t' := s1.toks) kp, N1.rel, N1.st⟩ n1 ?_)
     refine ⟨s1.heap.objs.size + 1, [s1.heap.objs.size + 1, s1.heap.objs.size], _, Ite X.K b, rfl, Jvz b s1.heap.objs.size (s1.heap.objs.size + 1) (Nat.ne_of_gt (Nat.lt_succ_self _)), ⟨⟨_, he⟩, hit⟩, λ c hc => ?_, J5h hb⟩
     simp only [List.mem_cons, List.not_mem_nil, or_false] at hc
     rcases hc with rfl | rfl
     ·exact N1.inv.fpOk (Nat.le_succ _) (N1.inv.hok.fresh (Nat.le_succ _))
     ·exact N1.inv.fpOk (Nat.le_refl _) (N1.inv.hok.fresh (Nat.le_refl _))
    | _ => simp only [Res.bind, Jjv, hi] at K
  | [], K => exact Zf K
  | .non :: _, K => exact Zf K
  | .bl _ :: _, K => exact Zf K
  | .str _ :: _, K => exact Zf K
  | .tup _ :: _, K => exact Zf K
  | .rol _ :: _, K => exact Zf K
  | .int _ :: _, K => exact Zf K
  | .ref _ :: _ :: _, K => exact Zf K
end
end L3
namespace L3
open PySem PySem.Spec PyProof.Rows L2
noncomputable def Jt2 : IV -> IH -> Res ItI
 | .str x, h => Jzv (.str x) h
 | v, h => itOf v h
noncomputable def iAny (e : E1) : I1 := λ σ h => (e σ h).bind Jt2
theorem Jzp {ce : Str -> Option Addr} {X : Cx} {tg l : Expr} {ml : E1} (hl : PEi ce X l ml) : PIi ce X tg l (iAny ml) := by
 intro pins s σ H ι σi h Q E N K
 cases e0 : ml σi h with
 | ok v h' =>
  cases v with
  | str x => exact Jtu (tg := tg) hl pins s σ H ι σi h Q E N (by unfold iStr; unfold iAny at K; rw [e0] at K ⊢; exact K)
  | _ => exact Jxp (tg := tg) hl pins s σ H ι σi h Q E N (by unfold iVal; unfold iAny at K; rw [e0] at K ⊢; exact K)
 | exc n h' => exact Jxp (tg := tg) hl pins s σ H ι σi h Q E N (by unfold iVal; unfold iAny at K; rw [e0] at K ⊢; exact K)
 | stuck => exact Jxp (tg := tg) hl pins s σ H ι σi h Q E N (by unfold iVal; unfold iAny at K; rw [e0] at K ⊢; exact K)
end L3
namespace L3
open PySem PySem.Spec PyProof.Rows L2
section
variable {ce : Str -> Option Addr} {X : Cx}
theorem x_sl : SlI ce X slI := by
 intro pins s σ H ι σi h x v vl vu lo hi sl Q E N rx hs pl pu K
 obtain ⟨xv, rx, qx⟩ := rx
 cases x with
 | ref i =>
  obtain ⟨a, e1, ha⟩ := qx
  subst e1
  dsimp only [slI] at K
  cases hi' : h[i]? with
  | none => rw [hi'] at K; exact Zf K
  | some ob =>
   rw [hi'] at K
   cases ob with
   | lst xs =>
    obtain ⟨vs, e1, r1⟩ := N.at hi' ha
    exact Ju3 (Jwm (X := X.wish E)) N.inv rx hs pl pu ⟨a, vs, rfl, SqL.of e1, λ p hp => finA N K p hp ⟨_, Jf, RVs.new hp (r1.cut lo hi)⟩⟩
   | _ => exact Zf K
 | rol xs =>
  obtain ⟨a, vs, e1, sa, ra⟩ := qx
  subst e1
  exact Ju3 (Jwm (X := X.wish E)) N.inv rx hs pl pu ⟨a, vs, rfl, sa.sq, λ p hp => finA N K p hp ⟨_, Jf, RVs.new hp (ra.cut lo hi)⟩⟩
 | tup xs =>
  obtain ⟨a, vs, e1, sa, ra⟩ := qx
  subst e1
  dsimp only [slI] at K
  by_cases hw : HT.sIx xs.length 0 lo = 0 /\ HT.sIx xs.length xs.length hi = xs.length
  ·rw [if_pos hw] at K
   exact Zf K
  ·rw [if_neg hw] at K
   exact Ju3 (J3t (X := X.wish E)) N.inv rx hs pl pu ⟨a, vs, rfl, sa, by rw [ra.length]; exact hw, λ p hp => finT N K p hp (ra.cut lo hi)⟩
 | _ => exact Zf K
noncomputable def revI : IV -> IH -> Res IV
 | .ref i, h => match h[i]? with
  | some (.lst xs) => .ok (.ref h.length) (h ++ [.lst xs.reverse])
  | _ => .stuck
 | .rol xs, h => .ok (.ref h.length) (h ++ [.lst xs.reverse])
 | _, _ => .stuck
noncomputable def Jqv : IV -> IH -> Res IV
 | .ref i, h => match h[i]? with
  | some (.lst xs) => .ok (.ref h.length) (h ++ [.lst xs])
  | _ => .stuck
 | .rol xs, h => .ok (.ref h.length) (h ++ [.lst xs])
 | .tup xs, h => .ok (.ref h.length) (h ++ [.lst xs])
 | _, _ => .stuck
theorem J3u : Ji1 ce X (.type "list") (on1 Jqv) := Jpp λ pins s σ H ι σi h x xv u Q E N ru qx K => by
 cases x with
 | ref i =>
  obtain ⟨a, e1, ha⟩ := qx
  subst e1
  dsimp only [Jqv] at K
  cases hi : h[i]? with
  | none => rw [hi] at K; exact Zf K
  | some ob =>
   rw [hi] at K
   cases ob with
   | lst xs =>
    obtain ⟨vs, e1, r1⟩ := N.at hi ha
    exact Jav (Jfb (X := X.wish E)) N.inv (.cons ru .nil) ⟨a, vs, rfl, .inl (SqL.of e1), λ p hp => finA N K p hp ⟨_, Jf, RVs.new hp r1⟩⟩
   | _ => exact Zf K
 | rol xs =>
  obtain ⟨a, vs, e1, sa, ra⟩ := qx
  subst e1
  exact Jav (Jfb (X := X.wish E)) N.inv (.cons ru .nil) ⟨a, vs, rfl, .inl sa.sq, λ p hp => finA N K p hp ⟨_, Jf, RVs.new hp ra⟩⟩
 | tup xs =>
  obtain ⟨a, vs, e1, sa, ra⟩ := qx
  subst e1
  exact Jav (Jfb (X := X.wish E)) N.inv (.cons ru .nil) ⟨a, vs, rfl, .inr sa, λ p hp => finA N K p hp ⟨_, Jf, RVs.new hp ra⟩⟩
 | _ => exact Zf K
noncomputable def Jm1 : IV -> IH -> Res IV
 | .ref i, h => match h[i]? with
  | some (.lst xs) => .ok (.tup xs) h
  | _ => .stuck
 | .tup xs, h => .ok (.tup xs) h
 | _, _ => .stuck
theorem J03 : Ji1 ce X (.type "tuple") (on1 Jm1) := Jpp λ pins s σ H ι σi h x xv u Q E N ru qx K => by
 cases x with
 | ref i =>
  obtain ⟨a, e1, ha⟩ := qx
  subst e1
  dsimp only [Jm1] at K
  cases hi : h[i]? with
  | none => rw [hi] at K; exact Zf K
  | some ob =>
   rw [hi] at K
   cases ob with
   | lst xs =>
    obtain ⟨vs, e1, r1⟩ := N.at hi ha
    exact Jav (Jj6 (X := X.wish E)) N.inv (.cons ru .nil) ⟨a, vs, rfl, .inl ⟨SqL.of e1, λ p hp => finT N K p hp r1⟩⟩
   | _ => exact Zf K
 | tup xs =>
  have qx' := qx
  obtain ⟨a, vs, e1, sa, ra⟩ := qx
  subst e1
  exact Jav (Jj6 (X := X.wish E)) N.inv (.cons ru .nil) ⟨a, vs, rfl, .inr ⟨sa, fin0 N K qx'⟩⟩
 | _ => exact Zf K
noncomputable def intI : IV -> IH -> Res IV
 | .int i, h => .ok (.int i) h
 | .bl b, h => .ok (.int (if b then 1 else 0)) h
 | _, _ => .stuck
noncomputable def strI : IV -> IH -> Res IV
 | .int i, h => if i.natAbs.log2 < 1920 then .ok (.str (toString i)) h else .stuck
 | _, _ => .stuck
noncomputable def Jqw : List IV -> Option (List Bool)
 | [] => some []
 | .bl b :: r => (Jqw r).map (b :: ·)
 | _ :: _ => none
noncomputable def allI : IV -> IH -> Res IV
 | .ref i, h => match h[i]? with
  | some (.lst xs) => (match Jqw xs with
   | some bs => .ok (.bl (bs.all id)) h
   | none => .stuck)
  | _ => .stuck
 | _, _ => .stuck
noncomputable def anyI : IV -> IH -> Res IV
 | .ref i, h => match h[i]? with
  | some (.lst xs) => (match Jqw xs with
   | some bs => .ok (.bl (bs.any id)) h
   | none => .stuck)
  | _ => .stuck
 | _, _ => .stuck
theorem Jtl {K : W.Frag} {ι : List Addr} {H : Hp} : ∀ {xs : List IV} {bs : List Bool} {vs : List V} {us : List Value}, Jqw xs = some bs -> RVs K ι H xs vs -> Vals vs us -> us = bs.map Value.bool
 | [], bs, vs, us, e, q, r => by
  cases e
  have e1 : vs = [] := q
  subst e1
  cases r
  rfl
 | x :: xs, bs, vs, us, e, q, r => by
  obtain ⟨v, vr, e1, q1, q2⟩ := q
  subst e1
  cases r with
  | cons r1 r2 =>
   cases x with
   | bl b =>
    obtain ⟨b2, e2, rfl⟩ := Option.map_eq_some_iff.mp (show (Jqw xs).map (b :: ·) = some bs from e)
    cases (show v = .bl b from q1)
    cases r1
    rw [Jtl e2 q2 r2]
    rfl
   | _ => cases e
theorem Jxw (bs : List Bool) : ((List.range bs.length).all λ i => bs.getD i true) = bs.all id := by
 induction bs with
 | nil => rfl
 | cons b r ih =>
  rw [List.length_cons, List.range_succ_eq_map, List.all_cons, List.all_map, List.all_cons]
  have e : ((List.range r.length).all ((λ i => (b :: r).getD i true) ∘ Nat.succ)) = (List.range r.length).all λ i => r.getD i true := by
   congr 1
  rw [e, ih]
  rfl
theorem c_all (hh : X.A.handled = none) : Ji1 ce X (.builtin "all") (on1 allI) := Jpp λ pins s σ H ι σi h x xv u Q E N ru qx K => by
 cases x with
 | ref i =>
  obtain ⟨a, e1, ha⟩ := qx
  subst e1
  cases ru
  dsimp only [allI] at K
  cases hi : h[i]? with
  | none => rw [hi] at K; exact Zf K
  | some ob =>
   rw [hi] at K
   cases ob with
   | lst xs =>
    dsimp only at K
    cases hb : Jqw xs with
    | none => rw [hb] at K; exact Zf K
    | some bs =>
     rw [hb] at K
     obtain ⟨vs, e1, r1⟩ := N.at hi ha
     obtain ⟨its, rv, pl, hz⟩ := N.inv.list (SqL.of e1)
     have eu := Jtl hb r1 rv
     subst eu
     refine call_all_walk (wpAny_pyIter_list pl.isList ?_)
     have hlt : a < s.heap.objs.size := by obtain ⟨o, _, ho, _⟩ := pl; exact Heap.lt_size ho
     have ne : a ≠ s.heap.objs.size := Nat.ne_of_lt hlt
     refine ⟨s.heap.objs.size, _, _, _, _, _, λ i => bs.getD i true, rfl, Walks.list (prog := X.prog) (w := X.w) (A := X.A.in1) hh s.heap.objs.size a ne (bs.map Value.bool).toArray, ⟨⟨_, Heap.get?_push_size _ rfl, rfl, rfl⟩, ?_⟩, ?_, λ h' tk kk => ?_⟩
     ·obtain ⟨o, n, ho, hc, _, hd⟩ := pl
      exact ⟨o, Heap.get?_push_of_some _ ho, hc, n, hd⟩
     ·intro i v s' Q' E' hP hq
      simp only [List.getElem?_toArray, List.getElem?_map] at hP
      obtain ⟨b, hb', rfl⟩ := Option.map_eq_some_iff.mp hP
      refine wpAny_truthy_bool ?_
      have : bs.getD i true = b := by simp [List.getD, hb']
      rw [<- this]
      exact hq
     ·rw [show (bs.map Value.bool).toArray.size = bs.length by simp, Jxw]
      have I1 : Inv X pins σ H { s with heap := s.heap.push { cls := .type "list_iterator", data := .fields #[.ref a, .int 0 0] } } := N.inv.kept (t' := s.toks) λ b o e => Heap.get?_push_of_some _ e
      have f := N.inv.fpOk (Nat.le_refl _) (N.inv.hok.fresh (Nat.le_refl _))
      exact fin0 N K rfl _ _ (I1.turned (t' := tk) (it := s.heap.objs.size) (λ b o hb e => kk b o (by simpa using hb) e) f.1 f.2.1 f.2.2.2.1 f.2.2.2.2.1 f.2.2.2.2.2) rfl
   | _ => exact Zf K
 | _ => exact Zf K
noncomputable def MtI (ce : Str -> Option Addr) (X : Cx) (T id : String) (g : IV -> List IV -> IH -> Res IV) : Prop :=
 ∀ (pins : List (Addr × Obj)) (s : Shared) (σ : L2.St) (H : Hp) (ι : List Addr) (σi : ISt) (h : IH) (x : IV) (xs : List IV) (v : Value) (us : List Value) (Q : Value -> Shared -> Prop) (E : Value -> Shared -> Prop), Now ce X pins ι σi h σ H s -> RU X.K ι H x v -> RUs X.K ι H xs us ->
  Kont ce X RU pins ι σi σ H (g x xs h) Q E -> wpAny (model X.prog X.w) X.A (call (.builtin id) (v :: us)) Q E s
noncomputable def tyOk (T : String) : IV -> IH -> Bool
 | .str _, _ => T == "str"
 | .int _, _ => T == "int"
 | .ref i, h => match h[i]? with
  | some (.lst _) => T == "list"
  | some (.dct _) => T == "dict"
  | _ => false
 | .rol _, _ => T == "list"
 | _, _ => false
noncomputable def eBm (T : String) (g : IV -> List IV -> IH -> Res IV) (o : E1) (a : A1) : E1 := λ σ h => (o σ h).bind λ x h1 => if tyOk T x h1 = true then (a σ h1).bind λ xs h2 => g x xs h2 else .stuck
theorem J0i {pins : List (Addr × Obj)} {s : Shared} {σ : L2.St} {H : Hp} {ι : List Addr} {σi : ISt} {h : IH} {x : IV} {xv : V} {T : String} (N : Now ce X pins ι σi h σ H s) (q : RV X.K ι H x xv) (e : tyOk T x h = true) : tyV X.K T xv H := by
 cases x with
 | str y => cases (show xv = .str y from q); exact beq_iff_eq.mp e
 | int y => cases (show xv = .int y from q); exact beq_iff_eq.mp e
 | rol y =>
  obtain ⟨a, vs, rfl, sa, _⟩ := q
  exact .inl ⟨beq_iff_eq.mp e, vs, sa.sq⟩
 | ref i =>
  obtain ⟨a, rfl, ha⟩ := q
  cases hi : h[i]? with
  | none => simp [tyOk, hi] at e
  | some ob =>
   cases ob with
   | lst xs =>
    simp only [tyOk, hi] at e
    obtain ⟨vs, e1, _⟩ := N.at hi ha
    exact .inl ⟨beq_iff_eq.mp e, vs, SqL.of e1⟩
   | dct kvs =>
    simp only [tyOk, hi] at e
    obtain ⟨vs, e1, _⟩ := N.at hi ha
    exact .inr (.inr (.inl ⟨beq_iff_eq.mp e, .inl ⟨vs, e1⟩⟩))
   | _ => simp [tyOk, hi] at e
 | _ => simp [tyOk] at e
variable {o a : Expr} {es : List Expr} {mo : E1} {ma : A1} {name : Str} {apos cpos : Pos} {T id : String} {g : IV -> List IV -> IH -> Res IV}
theorem i_bm (pa : PlainAttrs T) (slot : Slot T name id) (hty : typeOf (.builtin id) = pure (.type "method_descriptor")) (hm : MtI ce X T id g) (ho : PEi ce X o mo) (ha : PAi ce X (a :: es) ma)
  (hbase : attributeBase o name X.env (eval o X.env) = eval o X.env := by rfl)
  (hfew : ((backTo cpos (starEach (a :: es) X.env)).all (λ x => !x.1) && (backToKw cpos (keywordEach [] X.env)).all (λ x => x.1.isSome)
   && decide ((a :: es).length + ([] : List Keyword).length + (if ([] : List Keyword).isEmpty then 0 else 1) < 30)) = true := by rfl)
  (hline : (apos.endLine == cpos.line) = true := by rfl) (hs : starEach (a :: es) X.env = (false, eval a X.env) :: starEach es X.env := by rfl) (hplain : (backTo cpos (starEach es X.env)).any (·.1) = false := by rfl) :
  PEi ce X (.Call (.Attribute o name apos) (a :: es) [] cpos) (eBm T g mo ma) := by
 intro pins s σ H ι σi h Q E N K
 refine wpAny_Call_method_late hbase hfew hline rfl (ho.run N K λ x h1 v s1 H1 ι1 N1 n1 r1 K1 => ?_)
 by_cases hty1 : tyOk T x h1 = true
 ·rw [if_pos hty1] at K1
  obtain ⟨xv, rx, qx⟩ := r1
  obtain ⟨h1', h2'⟩ := J0p N1.inv rx (J0i N1 qx hty1)
  refine ⟨T, id, pa, slot, hty, h1', h2', ?_⟩
  have hA := (ha cpos).run (Q1 := λ us s2 => wpAny (model X.prog X.w) X.A (call (.builtin id) (v :: us)) Q E s2) N1 K1 λ xs h2 us s2 H2 ι2 N2 n2 r2 K2 => hm pins s2 σ H2 ι2 σi h2 x xs v us Q E N2 ⟨xv, rx, RV.mono n2 _ _ qx⟩ r2 K2
  rw [hs] at hA ⊢
  exact Calls.callWith_builtin (by show (false || (backTo cpos (starEach es X.env)).any (·.1)) = false; rw [hplain] <;> rfl) (Calls.evalArgs_plain hA)
 ·rw [if_neg hty1] at K1
  exact Zf K1
theorem i_bm0 (pa : PlainAttrs T) (slot : Slot T name id) (hty : typeOf (.builtin id) = pure (.type "method_descriptor")) (hm : MtI ce X T id g) (ho : PEi ce X o mo)
  (hbase : attributeBase o name X.env (eval o X.env) = eval o X.env := by rfl) (hline : (apos.endLine == cpos.line) = true := by rfl) : PEi ce X (.Call (.Attribute o name apos) [] [] cpos) (eBm T g mo aNil) := by
 intro pins s σ H ι σi h Q E N K
 refine wpAny_Call_method0_late hbase hline (ho.run N K λ x h1 v s1 H1 ι1 N1 n1 r1 K1 => ?_)
 by_cases hty1 : tyOk T x h1 = true
 ·rw [if_pos hty1] at K1
  obtain ⟨xv, rx, qx⟩ := r1
  obtain ⟨h1', h2'⟩ := J0p N1.inv rx (J0i N1 qx hty1)
  exact ⟨T, id, pa, slot, hty, h1', h2', Calls.callWith_builtin rfl (PySem.evalArgs_none (hm pins s1 σ H1 ι1 σi h1 x [] v [] Q E N1 ⟨xv, rx, qx⟩ .nil K1))⟩
 ·rw [if_neg hty1] at K1
  exact Zf K1
theorem J4v {pins : List (Addr × Obj)} {s : Shared} {σ : L2.St} {H : Hp} {Q : Value -> Shared -> Prop} {E : Value -> Shared -> Prop} {r : V -> List V -> Hp -> VK -> Prop} {x : V} {xs : List V} {v : Value} {us : List Value} (p : MtM (X.wish E) id r) (I : Inv X pins σ H s) (rx : RelV x v) (rs : Vals xs us)
  (k : r x xs H λ z H' => ∀ u s', Inv X pins σ H' s' -> RelV z u -> Q u s') : wpAny (model X.prog X.w) X.A (call (.builtin id) (v :: us)) Q E s :=
 wpAny_mono (p pins s σ H x xs v us _ (I.wish E) rx rs k) (λ u s' ⟨_, _, I', r, q⟩ => q u s' I'.unwish r) λ _ _ z => z
theorem finW {pins : List (Addr × Obj)} {s : Shared} {σ : L2.St} {H : Hp} {ι : List Addr} {σi : ISt} {h : IH} {i : Nat} {b : Addr} {ys : List IV} {vs ws : List V} {v : IV} {w : V} {Q : Value -> Shared -> Prop} {E : Value -> Shared -> Prop} (N : Now ce X pins ι σi h σ H s) (K : Kont ce X RU pins ι σi σ H (.ok v (h.set i (.lst ys))) Q E)
  (hb : ι[i]? = some b) (eH : H b = some (.lst vs)) (r : RVs X.K ι H ys ws) (q : RV X.K ι H v w) : ∀ u s', Inv X pins σ (upd H b (.lst ws)) s' -> RelV w u -> Q u s' := λ u s' I ru => by
 have n : Nxt ι H ι (upd H b (.lst ws)) := ⟨⟨[], by simp⟩, Ext.upd_mut eH (by rw [eH]; exact True.intro)⟩
 obtain ⟨R, _⟩ := N.rel.write (o := .lst ws) (io := .lst ys) hb eH (by rw [eH]; exact True.intro) ⟨_, Jf, RVs.mono n _ _ r⟩
 exact K u s' _ ι ⟨I, R, N.st.mono n⟩ n ⟨w, ru, RV.mono n _ _ q⟩
noncomputable def Jj8 : IV -> List IV -> IH -> Res IV
 | .ref i, [y], h => match h[i]? with
  | some (.lst xs) => if xs.length < sizeLine then .ok .non (h.set i (.lst (xs ++ [y]))) else .stuck
  | _ => .stuck
 | _, _, _ => .stuck
theorem Jze : MtI ce X "list" "list.append" Jj8 := by
 intro pins s σ H ι σi h x xs v us Q E N rx rs K
 obtain ⟨xv, rx, qx⟩ := rx
 obtain ⟨vs, rv, qs⟩ := rs
 cases x with
 | ref i =>
  match xs, K with
  | [y], K =>
   obtain ⟨a, rfl, ha⟩ := qx
   obtain ⟨w, rfl, qw⟩ := qs.one_of
   dsimp only [Jj8] at K
   cases hi : h[i]? with
   | none => rw [hi] at K; exact Zf K
   | some ob =>
    rw [hi] at K
    cases ob with
    | lst zs =>
     dsimp only at K
     split at K
     ·rename_i hz
      obtain ⟨ws, e1, r1⟩ := N.at hi ha
      exact J4v (Jqs (X := X.wish E)) N.inv rx rv ⟨a, ws, w, rfl, rfl, e1, by rw [r1.length]; exact hz, finW N K ha e1 (r1.append (RVs.one qw)) rfl⟩
     ·exact Zf K
    | _ => exact Zf K
  | [], K => exact Zf K
  | _ :: _ :: _, K => exact Zf K
 | _ => cases xs <;> exact Zf K
noncomputable def setI : IV -> IV -> IV -> ISt -> IH -> SRes
 | .ref i, .int k, v, σ, h => match h[i]? with
  | some (.lst xs) => (match ixN xs.length k with
   | some j => .next σ (h.set i (.lst (xs.set j v)))
   | none => .stuck)
  | _ => .stuck
 | _, _, _, _, _ => .stuck
noncomputable def gSb (o i : E1) : G1 := λ v σ h => rS σ (o σ h) λ ov h1 => rS σ (i σ h1) λ iv h2 => setI ov iv v σ h2
theorem g_sub {oe ie : Expr} {mo mi : E1} {pos : Pos} (ho : PEi ce X oe mo) (hi : PEi ce X ie mi)
  (ha : ∀ v, assign (.Subscript oe ie pos) X.env v = (do
   let ov <- holding [v] (eval oe X.env)
   let iv <- holding [v, ov] (eval ie X.env)
   standAt pos
   holding [v, ov, iv] (setItem ov iv v)
   release [v, ov, iv] []) := by intro _; rfl) : PGi ce X (.Subscript oe ie pos) (gSb mo mi) := by
 intro pins s σ H ι σi h v u Q E N r K
 rw [ha]
 refine wpAny_bind (wpAny_holding (krun ho N K λ ov h1 ou s1 H1 ι1 N1 n1 r1 K1 => ?_))
 refine wpAny_bind (wpAny_holding (krun hi N1 K1 λ iv h2 iu s2 H2 ι2 N2 n2 r2 K2 => ?_))
 have r' : RU X.K ι2 H2 v u := (r.mono n1).mono n2
 obtain ⟨ox, ro, qo⟩ := r1.mono n2
 obtain ⟨ix, ri, qi⟩ := r2
 obtain ⟨vx, rvx, qv⟩ := r'
 refine wpAny_bind (wpAny_standAt (wpAny_bind (wpAny_holding ?_)))
 cases ov with
 | ref i =>
  cases iv with
  | int k =>
   obtain ⟨a, rfl, haa⟩ := qo
   cases (show ix = .int k from qi)
   dsimp only [setI] at K2
   cases hh : h2[i]? with
   | none => rw [hh] at K2; exact Zf K2
   | some ob =>
    rw [hh] at K2
    cases ob with
    | lst xs =>
     dsimp only at K2
     cases hj : ixN xs.length k with
     | none => rw [hj] at K2; exact Zf K2
     | some j =>
      rw [hj] at K2
      obtain ⟨ws, e1, r1'⟩ := N2.at hh haa
      refine wpAny_mono (Jya (X := X.wish E) pins s2 σ H2 (.ref a) (.int k) vx ou iu u (λ H' => H' = upd H2 a (.lst (ws.set j vx))) (N2.inv.wish E) ro ri rvx ⟨a, ws, k, j, rfl, rfl, e1, by rw [r1'.length]; exact hj, rfl⟩) (λ _ s3 hq => ?_) λ _ _ z => z
      obtain ⟨H', I', rfl⟩ := hq
      have n : Nxt ι2 H2 ι2 (upd H2 a (.lst (ws.set j vx))) := ⟨⟨[], by simp⟩, Ext.upd_mut e1 (by rw [e1]; exact True.intro)⟩
      obtain ⟨R3, _⟩ := N2.rel.write (o := .lst (ws.set j vx)) (io := .lst (xs.set j v)) haa e1 (by rw [e1]; exact True.intro) ⟨_, Jf, (RVs.mono n _ _ r1').set (RV.mono n _ _ qv) j⟩
      exact wpAny_release (K2 s3 σ _ ι2 ⟨I'.unwish, R3, N2.st.mono n⟩ n)
    | _ => exact Zf K2
  | _ => exact Zf K2
 | _ => cases iv <;> exact Zf K2
end
end L3
namespace L3
open PySem PySem.Spec PyProof.Rows L2
section
variable {ce : Str -> Option Addr} {X : Cx}
noncomputable def keyI : IV -> Option Key
 | .int i => some (.inl i)
 | .str x => some (.inr x)
 | _ => none
noncomputable def J5x (mk mv : E1) : E1 := λ σ h => (mk σ (h ++ [.dct []])).bind λ x h1 => (mv σ h1).bind λ y h2 =>
 match keyI x, h2[h.length]? with
 | some k, some (.dct []) => .ok (.ref h.length) (h2.set h.length (.dct [(k, y)]))
 | _, _ => .stuck
theorem Jit {K : W.Frag} {ι : List Addr} {H : Hp} {x : IV} {v : V} {k : Key} (e : keyI x = some k) (r : RV K ι H x v) : v = kV k := by
 cases x with
 | int i => cases e; exact r
 | str y => cases e; exact r
 | _ => cases e
theorem J5v {ke ve : Expr} {mk mv : E1} {pos : Pos} (hk : PEi ce X ke mk) (hv : PEi ce X ve mv) : PEi ce X (.Dict [some ke] [ve] pos) (J5x mk mv) := λ pins s σ H ι σi h Q E N K => by
 have hn := N.inv.hok.fresh (Nat.le_refl s.heap.objs.size)
 have I1 := N.inv.laid (a := s.heap.objs.size) (o := .dK []) (h' := s.heap.push { cls := .type "dict", data := .dict #[] }) (t' := s.toks) (λ _ _ q => Heap.get?_push_of_some _ q) (Nat.le_refl _) (Jti s.heap N.inv.big)
 obtain ⟨R1, n1⟩ := N.rel.alloc (o := .dK []) (io := .dct []) hn ⟨[], Jf, rfl⟩
 have N1 : Now ce X pins (ι ++ [s.heap.objs.size]) σi (h ++ [.dct []]) σ (upd H s.heap.objs.size (.dK [])) _ := ⟨I1, R1, N.st.mono n1⟩
 have K1 := K.mono n1
 have h0 : (ι ++ [s.heap.objs.size])[h.length]? = some s.heap.objs.size := by rw [<- N.rel.len, List.getElem?_append_right (Nat.le_refl _)]; simp
 refine wpAny_Dict_walk (knd := Jbn X.prog X.w) rfl rfl (by simp) (by simp) (pairTrees_cons_walk (PX.run hk N1 K1 λ x h1 u s1 H1 ι1 N2 n2 r1 K2 => PX.run hv N2 K2 λ y h2 u2 s2 H2 ι2 N3 n3 r2 K3 => pairTrees_nil_walk ?_))
 have h1 : ι2[h.length]? = some s.heap.objs.size := by
  obtain ⟨⟨l1, e1⟩, _⟩ := n2
  obtain ⟨⟨l2, e2⟩, _⟩ := n3
  rw [e2, e1, List.append_assoc, List.getElem?_append_left (by simp [N.rel.len])]
  exact h0
 cases ek : keyI x with
 | none => rw [ek] at K3; exact Zf K3
 | some k =>
  cases eh : h2[h.length]? with
  | none => rw [ek, eh] at K3; exact Zf K3
  | some ob =>
   rw [ek, eh] at K3
   cases ob with
   | dct kvs =>
    cases kvs with
    | cons _ _ => exact Zf K3
    | nil =>
     obtain ⟨vs0, e, r0⟩ := N3.at eh h1
     cases (show vs0 = [] from r0)
     obtain ⟨xv, rx, qx⟩ := r1
     obtain ⟨yv, ry, qy⟩ := r2
     cases Jit ek qx
     obtain ⟨rs, c, rk⟩ := Jol (P := X.prog) (w := X.w) (kvs := [(k, yv)]) (ws := [(u, u2)]) (.cons ⟨rx, ry⟩ .nil)
     obtain ⟨z, hd, ws0, r0', dd⟩ := Jww N3.inv.hok e
     cases r0'
     refine ⟨rs, c, dd, λ h' dd' hs => ?_⟩
     have hz : (Joi [] [(k, yv)]).length <= sizeLine := by
      have h1 := Ji0 [(k, yv)] []
      rw [sizeLine_eq]; simp at h1; omega
     have he : ∃ q, h'.get? s.heap.objs.size = some q := let ⟨q, _, _, hq, _⟩ := dd'; ⟨q, hq⟩
     have I4 := Jsd (t' := s2.toks + 1) N3.inv (by rw [e]; exact True.intro) hs he (Jvt hz hd (rk.merge .nil) dd')
     have n : Nxt ι2 H2 ι2 (upd H2 s.heap.objs.size (.dK (Joi [] [(k, yv)]))) := ⟨⟨[], by simp⟩, Ext.upd_mut e (by rw [e]; exact True.intro)⟩
     obtain ⟨R4, _⟩ := N3.rel.write (o := .dK (Joi [] [(k, yv)])) (io := .dct [(k, y)]) h1 e (by rw [e]; exact True.intro) ⟨_, Jf, yv, [], rfl, RV.mono n _ _ qy, rfl⟩
     exact K3 _ _ _ ι2 ⟨I4, R4, N3.st.mono n⟩ n ⟨.ref _, rfl, _, rfl, h1⟩
   | _ => exact Zf K3
noncomputable def maxI : IV -> IV -> IH -> Res IV
 | .int i, .int j, h => .ok (.int (if j > i then j else i)) h
 | _, _, _ => .stuck
noncomputable def minI : IV -> IV -> IH -> Res IV
 | .int i, .int j, h => .ok (.int (if j < i then j else i)) h
 | _, _, _ => .stuck
theorem c_max (hc : X.calm = true) : Ji1 ce X (.builtin "max") (on2 maxI) := by
 intro pins s σ H ι σi h xs us Q E N r K
 obtain ⟨vs, rv, q⟩ := r
 match xs, K with
 | [x, y], K =>
  obtain ⟨v, w, rfl, qx, qy⟩ := q.two_of
  cases x with
  | int i =>
   cases y with
   | int j =>
    cases (show v = .int i from qx)
    cases (show w = .int j from qy)
    exact Jav (Jwb (X := X.wish E) hc) N.inv rv ⟨i, j, rfl, fin0 N K rfl⟩
   | _ => exact Zf K
  | _ => cases y <;> exact Zf K
 | [], K => exact Zf K
 | [_], K => exact Zf K
 | _ :: _ :: _ :: _, K => exact Zf K
theorem c_min (hc : X.calm = true) : Ji1 ce X (.builtin "min") (on2 minI) := by
 intro pins s σ H ι σi h xs us Q E N r K
 obtain ⟨vs, rv, q⟩ := r
 match xs, K with
 | [x, y], K =>
  obtain ⟨v, w, rfl, qx, qy⟩ := q.two_of
  cases x with
  | int i =>
   cases y with
   | int j =>
    cases (show v = .int i from qx)
    cases (show w = .int j from qy)
    exact Jav (Ju9 (X := X.wish E) hc) N.inv rv ⟨i, j, rfl, fin0 N K rfl⟩
   | _ => exact Zf K
  | _ => cases y <;> exact Zf K
 | [], K => exact Zf K
 | [_], K => exact Zf K
 | _ :: _ :: _ :: _, K => exact Zf K
noncomputable def Je3 : List IV -> Option (List Str)
 | [] => some []
 | .str x :: r => (Je3 r).map (x :: ·)
 | _ => none
theorem Jr3 {K : W.Frag} {ι : List Addr} {H : Hp} : ∀ {xs : List IV} {zs : List Str} {vs : List V} {us : List Value}, Je3 xs = some zs -> RVs K ι H xs vs -> Vals vs us -> ∃ l : List (Str × Tok), us = strValues l /\ l.map (·.1) = zs
 | [], zs, vs, us, e, q, r => by
  cases e
  have e1 : vs = [] := q
  subst e1
  cases r
  exact ⟨[], rfl, rfl⟩
 | x :: xs, zs, vs, us, e, q, r => by
  obtain ⟨v, vr, e1, q1, q2⟩ := q
  subst e1
  cases r with
  | cons r1 r2 =>
   cases x with
   | str y =>
    obtain ⟨z2, e2, rfl⟩ := Option.map_eq_some_iff.mp (show (Je3 xs).map (y :: ·) = some zs from e)
    cases (show v = .str y from q1)
    obtain ⟨t, rfl⟩ := r1
    obtain ⟨l, rfl, hl⟩ := Jr3 e2 q2 r2
    exact ⟨(y, t) :: l, rfl, by rw [List.map_cons, hl]⟩
   | _ => cases e
noncomputable def Juq : IV -> List IV -> IH -> Res IV
 | .str x, [.ref i], h => match h[i]? with
  | some (.lst xs) => (match Je3 xs with
   | some zs => if JoinOk x zs = true then .ok (.str (Txt.join x zs)) h else .stuck
   | none => .stuck)
  | _ => .stuck
 | _, _, _ => .stuck
theorem J52 : MtI ce X "str" "str.join" Juq := by
 intro pins s σ H ι σi h x xs v us Q E N rx rs K
 obtain ⟨xv, rx, qx⟩ := rx
 obtain ⟨vs, rv, qs⟩ := rs
 cases x with
 | str x =>
  cases (show xv = .str x from qx)
  obtain ⟨t, rfl⟩ := rx
  match xs, K with
  | [.ref i], K =>
   obtain ⟨w, rfl, a, rfl, ha⟩ := qs.one_of
   obtain ⟨u, rfl, ru⟩ := Jng rv
   cases ru
   dsimp only [Juq] at K
   cases hi : h[i]? with
   | none => rw [hi] at K; exact Zf K
   | some ob =>
    rw [hi] at K
    cases ob with
    | lst ys =>
     dsimp only at K
     cases hb : Je3 ys with
     | none => rw [hb] at K; exact Zf K
     | some zs =>
      rw [hb] at K
      dsimp only at K
      split at K
      ·rename_i hz
       obtain ⟨ws, e1, r1⟩ := N.at hi ha
       obtain ⟨its, rv', pl, _⟩ := N.inv.list (SqL.of e1)
       obtain ⟨l, rfl, hl⟩ := Jr3 hb r1 rv'
       exact SC.join pl.isList hl hz λ t' k => fin0 N K rfl _ _ (N.inv.tok _) ⟨_, rfl⟩
      ·exact Zf K
    | _ => exact Zf K
  | [], K => exact Zf K
  | [.non], K => exact Zf K
  | [.bl _], K => exact Zf K
  | [.int _], K => exact Zf K
  | [.str _], K => exact Zf K
  | [.tup _], K => exact Zf K
  | [.rol _], K => exact Zf K
  | y :: _ :: _, K => cases y <;> exact Zf K
 | _ => exact Zf K
end
end L3
namespace L3
open PySem PySem.Spec PyProof.Rows L2
noncomputable def Jdq : List IV -> Option (List Int)
 | [] => some []
 | .int i :: r => (Jdq r).map (i :: ·)
 | _ => none
theorem Jkk {K : W.Frag} {ι : List Addr} {H : Hp} : ∀ {xs : List IV} {ns : List Int} {vs : List V} {us : List Value}, Jdq xs = some ns -> RVs K ι H xs vs -> Vals vs us -> IntsAre us ns
 | [], ns, vs, us, e, q, r => by
  cases e
  have e1 : vs = [] := q
  subst e1
  cases r
  exact .nil
 | x :: xs, ns, vs, us, e, q, r => by
  obtain ⟨v, vr, e1, q1, q2⟩ := q
  subst e1
  cases r with
  | cons r1 r2 =>
   cases x with
   | int i =>
    obtain ⟨n2, e2, rfl⟩ := Option.map_eq_some_iff.mp (show (Jdq xs).map (i :: ·) = some ns from e)
    cases (show v = .int i from q1)
    obtain ⟨t, rfl⟩ := r1
    exact .cons i t (Jkk e2 q2 r2)
   | _ => cases e
theorem Jet : ∀ {us : List Value} {ns : List Int}, IntsAre us ns -> us.length = ns.length
 | _, _, .nil => rfl
 | _, _, .cons _ _ r => by simp [Jet r]
section
variable {ce : Str -> Option Addr} {X : Cx}
noncomputable def sumI : IV -> IH -> Res IV
 | .ref i, h => match h[i]? with
  | some (.lst xs) => (match Jdq xs with
   | some ns => .ok (.int ns.sum) h
   | none => .stuck)
  | _ => .stuck
 | _, _ => .stuck
theorem c_sum (hh : X.A.handled = none) : Ji1 ce X (.builtin "sum") (on1 sumI) := Jpp λ pins s σ H ι σi h x xv u Q E N ru qx K => by
 cases x with
 | ref i =>
  obtain ⟨a, e1, ha⟩ := qx
  subst e1
  cases ru
  dsimp only [sumI] at K
  cases hi : h[i]? with
  | none => rw [hi] at K; exact Zf K
  | some ob =>
   rw [hi] at K
   cases ob with
   | lst xs =>
    dsimp only at K
    cases hb : Jdq xs with
    | none => rw [hb] at K; exact Zf K
    | some ns =>
     rw [hb] at K
     obtain ⟨vs, e1, r1⟩ := N.at hi ha
     obtain ⟨its, rv, pl, hz⟩ := N.inv.list (SqL.of e1)
     have are := Jkk hb r1 rv
     obtain ⟨ys, hy⟩ := are.allInts.items
     have pl' : s.heap.IsList a (intItems ys) := hy ▸ pl.isList
     refine sum_intListG hh pl' λ h2 tk t2 kk => ?_
     have en : ns = ys.toList.map (·.1) := by
      have q1 := are.numsOf
      have q2 := congrArg (λ z : Array Value => numsOf z.toList) hy
      simp only at q2
      rw [<- q1]
      exact q2.trans (nums_intItems ys)
     have es : preSum (numAt ys) ys.size = ns.sum := by
      rw [preSum_eq, en, List.take_of_length_le (by simp)]
     rw [es]
     exact fin0 N K rfl _ _ (N.inv.kept (t' := tk) kk) ⟨_, rfl⟩
   | _ => exact Zf K
 | _ => exact Zf K
end
end L3
namespace L3
open PySem PySem.Spec PyProof.Rows L2
noncomputable def Jcf (f : Nat -> Int) : Nat -> Int
 | 0 => 0
 | 1 => f 0
 | j + 2 => if f (j + 1) > Jcf f (j + 1) then f (j + 1) else Jcf f (j + 1)
theorem Jj9 (f : Nat -> Int) {j : Nat} (hj : 0 < j) : Jcf f (j + 1) = if f j > Jcf f j then f j else Jcf f j := by
 cases j with
 | zero => omega
 | succ j => rfl
section
variable {pr : Program} {wd : World} {B : Around} {R : Result -> Shared -> Prop} {it : Addr} {fps wrs : List Addr} {n : Nat} {P : Nat -> Value -> Prop} {St : Nat -> Heap -> Prop}
noncomputable abbrev Jz6 (v : Value) (c : Nat) : Obj := { cls := .type "list", dict := none, data := .seq #[v, v] c, slots := #[] }
theorem Jph : (toString "max" ++ toString ".loop" : String) = "max.loop" := by decide
theorem J29 {kw : List (Str × Value)} (W : Walks pr wd B.in1 it fps wrs n P St) (f : Nat -> Int) (hf : ∀ i v, P i v -> ∃ t, v = .int (f i) t) (C : Addr) (hC : C ∉ fps) :
  ∀ (r j : Nat) (z : Shared) (v : Value) (u : Tok) (c : Nat), n - j = r -> 0 < j -> j <= n -> St j z.heap -> v = .int (Jcf f j) u -> z.heap.get? C = some (Jz6 v c) ->
   (∀ u h2 tk, (∀ a o, a ∉ wrs -> a ≠ C -> z.heap.get? a = some o -> h2.get? a = some o) -> R (.ok (.ret (.int (Jcf f n) u))) { z with heap := h2, toks := tk }) ->
   codeAny (model pr wd) B (.builtin "max.loop" ⟨[.ref it, .none, .ref C], kw⟩) R z := by
 have hw : C ∉ wrs := λ q => hC (W.sub _ q)
 intro r
 induction r with
 | zero =>
  intro j z v u c hr h0 hj st ev gC fin
  obtain rfl : j = n := by omega
  subst ev
  refine codeAny_builtin PySem.F.entry_max_loop ?_
  rw [Around.under_plainId PySem.F.plain_max_loop _]
  show wpAny _ B.in1 (seqItems? (.ref C) >>= _) _ _ z
  refine wpAny_bind (wpAny_seqItems gC rfl ?_)
  show wpAny _ B.in1 (tryCatch (pyNext (.ref it)) _ >>= _) _ _ z
  refine wpAny_bind (wpAny_tryCatch (W.done z _ _ st λ h2 tk keep => ?_))
  have gC2 := keep C _ hw gC
  show wpAny _ B.in1 (updateSeq C (λ _ => #[]) >>= _) _ _ _
  refine wpAny_bind ?_
  refine wpAny_updateSeq gC2 rfl (wpAny_bind (wpAny_letGo (wpAny_pure ?_)))
  exact fin u _ tk λ a o ha hb e => (Heap.get?_update_other _ _ (Ne.symm hb)).trans (keep a o ha e)
 | succ r ih =>
  intro j z v u c hr h0 hj st ev gC fin
  have lt : j < n := by omega
  subst ev
  refine codeAny_builtin PySem.F.entry_max_loop ?_
  rw [Around.under_plainId PySem.F.plain_max_loop _]
  show wpAny _ B.in1 (seqItems? (.ref C) >>= _) _ _ z
  refine wpAny_bind (wpAny_seqItems gC rfl ?_)
  show wpAny _ B.in1 (tryCatch (pyNext (.ref it)) _ >>= _) _ _ z
  refine wpAny_bind (wpAny_tryCatch (W.item j z _ _ lt st λ y h2 tk hP st2 keep => ?_))
  obtain ⟨t, rfl⟩ := hf j y hP
  have gC2 := keep C _ hw gC
  have cmp := CmpOf.ints_gt (prog := pr) (w := wd) (A := B.in1) (P := λ i v => ∃ t, v = .int (if i = 0 then f j else Jcf f j) t) (λ i => if i = 0 then f j else Jcf f j) (λ _ _ q => q)
  show wpAny _ B.in1 (tryCatch (holding [Value.int (f j) t, Value.int (f j) t] (richCompare .Gt (.int (f j) t) (.int (Jcf f j) u) >>= _)) _ >>= _) _ _ _
  refine wpAny_bind (wpAny_tryCatch (wpAny_holding (wpAny_bind (cmp 0 1 _ _ _ _ _ ⟨t, by simp⟩ ⟨u, by simp⟩ ?_))))
  refine wpAny_bind (wpAny_holding (wpAny_truthy_bool ?_))
  refine wpAny_bind (wpAny_letGo (wpAny_pure ?_))
  have step := Jj9 f h0
  by_cases hb : f j > Jcf f j
  ·rw [if_pos hb] at step
   simp only [if_true, show ¬ (1 : Nat) = 0 by decide, if_false, decide_eq_true hb]
   refine wpAny_bind ?_
   refine wpAny_updateSeq gC2 rfl (wpAny_bind (wpAny_letGo ?_))
   rw [Jph]
   refine wpAny_pure ⟨plainId_quiet PySem.F.plain_max_loop _, ih (j + 1) _ (.int (f j) t) t _ (by omega) (by omega) lt (W.frame _ _ _ st2 λ a ha o e => ?_) (by rw [step]) (Heap.get?_update_self _ gC2 rfl) λ u2 h3 tk3 k3 => ?_⟩
   ·exact (Heap.get?_update_other _ _ (λ q : C = a => hC (by rw [q]; exact ha))).trans e
   ·exact fin u2 h3 tk3 λ a o ha hc e => k3 a o ha hc ((Heap.get?_update_other _ _ (Ne.symm hc)).trans (keep a o ha e))
  ·rw [if_neg hb] at step
   simp only [if_true, show ¬ (1 : Nat) = 0 by decide, if_false, decide_eq_false hb, Bool.false_eq_true]
   refine wpAny_bind (wpAny_letGo ?_)
   rw [Jph]
   refine wpAny_pure ⟨plainId_quiet PySem.F.plain_max_loop _, ih (j + 1) _ (.int (Jcf f j) u) u c (by omega) (by omega) lt st2 (by rw [step]) gC2 λ u2 h3 tk3 k3 => ?_⟩
   exact fin u2 h3 tk3 λ a o ha hc e => k3 a o ha hc (keep a o ha e)
end
end L3
namespace L3
open PySem PySem.Spec PyProof.Rows L2
theorem Jxl (a v : Value) : argsOk "max" ⟨[a], [(Str.ofString "default", v)]⟩ := by unfold argsOk; kernel_rfl
section
variable {pr : Program} {wd : World} {B : Around} {E : Value -> Shared -> Prop} {z : Shared} {l : Addr} {us : List Value} {ns : List Int} {d : Option Value} {Q : Value -> Shared -> Prop} {kw : List (Str × Value)}
noncomputable def MaxIs (ns : List Int) (d : Option Value) (v : Value) : Prop := (ns = [] /\ d = some v) ∨ (ns ≠ [] /\ ∃ u, v = .int (Jcf (λ i => ns.getD i 0) ns.length) u)
theorem Jva (hk : Builtin.Builtins.bindParams "max" ["key", "default"] 0 ⟨[], kw⟩ = pure [none, d]) (ha : argsOk "max" ⟨[.ref l], kw⟩) (hn : ns = [] -> ∃ v, d = some v) (hh : B.handled = none) (hl : z.heap.IsList l us.toArray) (hi : IntsAre us ns)
  (hQ : ∀ v h2 tk, MaxIs ns d v -> (∀ b o, z.heap.get? b = some o -> h2.get? b = some o) -> Q v { z with heap := h2, toks := tk }) :
  wpAny (model pr wd) B (call (.builtin "max") [.ref l] kw) Q E z := by
 obtain ⟨ol, hol, _⟩ := id hl
 have lt : l < z.heap.objs.size := Heap.lt_size hol
 have ll := Jet hi
 refine kmk_tree PySem.F.kind_max PySem.F.plain_max PySem.F.entry_max ha ?_
 show wpAny _ B.in1 (Builtin.Builtins.bindParams "max" ["key", "default"] 0 ⟨[], kw⟩ >>= _) _ _ z
 refine wpAny_bind (wpAny_of_eq hk ?_)
 refine wpAny_bind (wpAny_pure ?_)
 refine wpAny_bind (wpAny_pyIter_list hl ?_)
 refine wpAny_bind (wpAny_newList ?_ (Nat.zero_le _))
 rw [Jph]
 have ne : l ≠ z.heap.objs.size := Nat.ne_of_lt lt
 have W := Walks.list (prog := pr) (w := wd) (A := B.in1) hh z.heap.objs.size l ne us.toArray
 have sz : us.toArray.size = us.length := List.size_toArray ..
 have hS : (z.heap.push { cls := .type "list_iterator", data := .fields #[.ref l, .int 0 0] }).objs.size = z.heap.objs.size + 1 := size_push' ..
 have hC : (z.heap.push { cls := .type "list_iterator", data := .fields #[.ref l, .int 0 0] }).objs.size ∉ [z.heap.objs.size, l] := by
  rw [hS]
  simp only [List.mem_cons, List.not_mem_nil, or_false, not_or]
  exact ⟨Nat.ne_of_gt (Nat.lt_succ_self _), Nat.ne_of_gt (Nat.lt_succ_of_lt lt)⟩
 have hw : (z.heap.push { cls := .type "list_iterator", data := .fields #[.ref l, .int 0 0] }).objs.size ∉ [z.heap.objs.size] := by
  rw [hS]
  simp only [List.mem_cons, List.not_mem_nil, or_false]
  exact Nat.ne_of_gt (Nat.lt_succ_self _)
 have old : ∀ b o, z.heap.get? b = some o -> ((z.heap.push { cls := .type "list_iterator", data := .fields #[.ref l, .int 0 0] }).push (seqObj "list" #[] 0)).get? b = some o := λ b o e => Heap.get?_push_of_some _ (Heap.get?_push_of_some _ e)
 have gI : ((z.heap.push { cls := .type "list_iterator", data := .fields #[.ref l, .int 0 0] }).push (seqObj "list" #[] 0)).get? z.heap.objs.size = some { cls := .type "list_iterator", data := .fields #[.ref l, .int 0 0] } := Heap.get?_push_of_some _ (Heap.get?_push_size _ rfl)
 have gC : ((z.heap.push { cls := .type "list_iterator", data := .fields #[.ref l, .int 0 0] }).push (seqObj "list" #[] 0)).get? (z.heap.push { cls := .type "list_iterator", data := .fields #[.ref l, .int 0 0] }).objs.size = some (seqObj "list" #[] 0) := Heap.get?_push_size _ rfl
 have notin : ∀ b o, z.heap.get? b = some o -> b ∉ [z.heap.objs.size] := λ b o e q => Nat.ne_of_lt (Heap.lt_size e) (List.mem_singleton.mp q)
 have notC : ∀ b o, z.heap.get? b = some o -> b ≠ (z.heap.push { cls := .type "list_iterator", data := .fields #[.ref l, .int 0 0] }).objs.size := λ b o e => by rw [hS]; exact Nat.ne_of_lt (Nat.lt_succ_of_lt (Heap.lt_size e))
 refine wpAny_pure ⟨plainId_quiet PySem.F.plain_max_loop _, codeAny_builtin PySem.F.entry_max_loop ?_⟩
 rw [Around.under_plainId PySem.F.plain_max_loop _]
 show wpAny _ B.in1 (seqItems? (.ref _) >>= _) _ _ _
 refine wpAny_bind (wpAny_seqItems gC rfl ?_)
 show wpAny _ B.in1 (tryCatch (pyNext (.ref z.heap.objs.size)) _ >>= _) _ _ _
 by_cases h0 : us.length = 0
 ·refine wpAny_bind (wpAny_tryCatch (W.done _ _ _ (by rw [sz, h0]; exact ⟨⟨_, gI, rfl, rfl⟩, (hl.push _).push _⟩) λ h2 tk keep => ?_))
  obtain ⟨v, rfl⟩ := hn (List.eq_nil_of_length_eq_zero (by omega))
  show wpAny _ B.in1 (rule _ >>= _) _ _ _
  refine wpAny_bind (wpAny_rule (wpAny_pure ?_))
  refine hQ v h2 tk (.inl ⟨List.eq_nil_of_length_eq_zero (by omega), rfl⟩) λ b o e => keep b o (notin b o e) (old b o e)
 ·refine wpAny_bind (wpAny_tryCatch (W.item 0 _ _ _ (by rw [sz]; omega) ⟨⟨_, gI, rfl, rfl⟩, (hl.push _).push _⟩ λ y h2 tk hP st2 keep => ?_))
  have gC2 := keep _ _ hw gC
  show wpAny _ B.in1 (updateSeq (z.heap.push { cls := .type "list_iterator", data := .fields #[.ref l, .int 0 0] }).objs.size (λ _ => #[y, y]) >>= _) _ _ _
  refine wpAny_bind ?_
  refine wpAny_updateSeq gC2 rfl ?_
  rw [Jph]
  have hf : ∀ (i : Nat) (v : Value), us.toArray[i]? = some v -> ∃ t, v = .int ((λ i => ns.getD i 0) i) t := λ i v q => IntsAre.int_at hi i v (by simpa using q)
  obtain ⟨t, rfl⟩ := hf 0 y hP
  refine wpAny_pure ⟨plainId_quiet PySem.F.plain_max_loop _, J29 W (λ i => ns.getD i 0) hf _ hC _ 1 _ _ t _ rfl (by decide) (by rw [sz]; omega) (W.frame _ _ _ st2 λ a ha o e => ?_) rfl (Heap.get?_update_self _ gC2 rfl) λ u h3 tk3 k3 => ?_⟩
  ·exact (Heap.get?_update_other _ _ (λ q => hC (by rw [q]; exact ha))).trans e
  ·rw [sz, ll]
   refine hQ _ h3 tk3 (.inr ⟨λ q => h0 (by rw [ll, q]; rfl), u, rfl⟩) λ b o e => k3 b o (notin b o e) (notC b o e) ((Heap.get?_update_other _ _ (Ne.symm (notC b o e))).trans (keep b o (notin b o e) (old b o e)))
end
section
variable {ce : Str -> Option Addr} {X : Cx}
noncomputable def maxD (ns : List Int) (d : IV) : IV := if ns = [] then d else .int (Jcf (λ i => ns.getD i 0) ns.length)
noncomputable def Jv6 (aa : A1) (md : E1) : E1 := λ σ h => (aa σ h).bind λ xs h1 => (md σ h1).bind λ d h2 => match xs with
 | [.ref i] => (match h2[i]? with
  | some (.lst ys) => (match Jdq ys with
   | some ns => .ok (maxD ns d) h2
   | none => .stuck)
  | _ => .stuck)
 | _ => .stuck
theorem J5i {a de : Expr} {aa : A1} {md : E1} {p pos kp : Pos} (hh : X.A.handled = none) (hg : Gl X "max") (hm : X.mg "max" = none) (ha : PAi ce X [a] aa) (hd : PEi ce X de md) (hs : starEach [a] X.env = [(false, eval a X.env)]) :
  PEi ce X (.Call (.Name "max" p) [a] [⟨some "default", de, kp⟩] pos) (Jv6 aa md) := λ pins s σ H ι σi h Q E N K => by
 refine wpAny_Call_Name_kw (Jdh N.inv hg hm rfl ?_)
 refine callWith_kw ?_ (by rw [hs]; rfl) (by rw [hs]; rfl) rfl rfl
 refine (ha pos).run N K λ xs h1 us s1 H1 ι1 N1 n1 r1 K1 => ?_
 refine PyProof.Rows.evalAll_cons (wpAny_bind (PX.run hd N1 K1 λ d h2 du s2 H2 ι2 N2 n2 r2 K2 => wpAny_bind (wpAny_standAt (wpAny_pure (PyProof.Rows.evalAll_nil ?_)))))
 obtain ⟨vs, rv, qs⟩ := r1.mono n2
 match xs, K2 with
 | [.ref i], K2 =>
  obtain ⟨w, rfl, ad, rfl, hav⟩ := qs.one_of
  obtain ⟨u, rfl, ru⟩ := Jng rv
  cases ru
  dsimp only at K2
  cases hi : h2[i]? with
  | none => rw [hi] at K2; exact Zf K2
  | some ob =>
   rw [hi] at K2
   cases ob with
   | lst ys =>
    dsimp only at K2
    cases hb : Jdq ys with
    | none => rw [hb] at K2; exact Zf K2
    | some ns =>
     rw [hb] at K2
     dsimp only at K2
     obtain ⟨ws, e1, r3⟩ := N2.at hi hav
     obtain ⟨its, rv2, pl, _⟩ := N2.inv.list (SqL.of e1)
     refine Jva (d := some du) rfl (Jxl _ _) (λ _ => ⟨_, rfl⟩) hh pl.isList (Jkk hb r3 rv2) λ v h3 tk mi kk => ?_
     have N3 : Now ce X pins ι2 σi h2 σ H2 { s2 with heap := h3, toks := tk } := ⟨N2.inv.kept (t' := tk) kk, N2.rel, N2.st⟩
     rcases mi with ⟨e, ev⟩ | ⟨e, t, rfl⟩
     ·cases ev
      have em : maxD ns d = d := if_pos e
      rw [em] at K2
      exact K2 _ _ _ _ N3 .refl r2
     ·have em : maxD ns d = .int (Jcf (λ i => ns.getD i 0) ns.length) := if_neg e
      rw [em] at K2
      exact K2 _ _ _ _ N3 .refl ⟨.int _, ⟨t, rfl⟩, rfl⟩
   | _ => exact Zf K2
 | [], K2 => exact Zf K2
 | [.non], K2 => exact Zf K2
 | [.bl _], K2 => exact Zf K2
 | [.int _], K2 => exact Zf K2
 | [.str _], K2 => exact Zf K2
 | [.tup _], K2 => exact Zf K2
 | [.rol _], K2 => exact Zf K2
 | x :: _ :: _, K2 => cases x <;> exact Zf K2
end
end L3
namespace L3
open PySem PySem.Spec PyProof.Rows L2
noncomputable def metB (f : Nat -> Str) (i : Nat) (k : Str) : Bool := (List.range i).any λ j => decide (k = f j)
noncomputable def cntD (f : Nat -> Str) : Nat -> Nat
 | 0 => 0
 | i + 1 => if metB f i (f i) then cntD f i else cntD f i + 1
theorem Jvp (f : Nat -> Str) (i : Nat) (k : Str) : metB f (i + 1) k = (metB f i k || decide (k = f i)) := by simp [metB, List.range_succ]
theorem Jsy (f : Nat -> Str) : ∀ i, cntD f i <= i
 | 0 => Nat.le_refl _
 | i + 1 => by
  have := Jsy f i
  unfold cntD
  split <;> omega
section
variable {pr : Program} {wd : World} {B : Around} {R : Result -> Shared -> Prop} {it : Addr} {fps wrs : List Addr} {G : Array GenState -> Array GenState -> Prop} {n : Nat} {P : Nat -> Value -> Prop} {St : Nat -> Shared -> Prop}
noncomputable abbrev Jo4 (pr : Program) (wd : World) (hp : Heap) (a : Addr) (f : Nat -> Str) (i : Nat) : Prop := hp.SetOf (PySem.strKind pr wd) a (λ k => metB f i k) (cntD f i)
theorem Jo4.moved {hp h2 : Heap} {a : Addr} {f : Nat -> Str} {i : Nat} (q : Jo4 pr wd hp a f i) (m : ∀ o, hp.get? a = some o -> h2.get? a = some o) : Jo4 pr wd h2 a f i := by
 obtain ⟨o, es, ep, t, ho, rest⟩ := q
 exact ⟨o, es, ep, t, m o ho, rest⟩
theorem Jy6 (W : WalksS pr wd B.in1 it fps wrs G n P St) (C : Addr) (hC : C ∉ fps) (f : Nat -> Str) (hf : ∀ i v, P i v -> ∃ t, v = .str (f i) t) (room : n + 1 < scanBound) :
  ∀ (r i : Nat) (z : Shared), n - i = r -> i <= n -> St i z -> Jo4 pr wd z.heap C f i -> (∀ z2, Moved (C :: wrs) G z z2 -> Jo4 pr wd z2.heap C f n -> R (.ok (.ret .none)) z2) ->
   codeAny (model pr wd) B (.builtin "set.update.loop" ⟨[.ref C, .ref it], []⟩) R z := by
 have nw : C ∉ wrs := λ q => hC (W.sub _ q)
 have more : ∀ b ∈ wrs, b ∈ C :: wrs := λ b q => List.mem_cons_of_mem _ q
 intro r
 induction r with
 | zero =>
  intro i z hr hi st hS fin
  obtain rfl : i = n := by omega
  refine codeAny_builtin PyProof.Rows.F.entry_set_update_loop ?_
  rw [Around.under_plainId PyProof.Rows.F.plain_set_update_loop _]
  show wpAny _ B.in1 (pyNext (.ref it) >>= _) _ _ z
  refine wpAny_bind (W.done z _ _ st λ z2 mv => ?_)
  show wpAny _ B.in1 (ret Value.none) _ _ z2
  exact wpAny_pure (fin z2 (mv.mono more) (hS.moved λ o e => mv.heap C _ nw e))
 | succ r ih =>
  intro i z hr hi st hS fin
  have lt : i < n := by omega
  refine codeAny_builtin PyProof.Rows.F.entry_set_update_loop ?_
  rw [Around.under_plainId PyProof.Rows.F.plain_set_update_loop _]
  show wpAny _ B.in1 (pyNext (.ref it) >>= _) _ _ z
  refine wpAny_bind (W.item i z _ _ lt st λ v z2 hP st2 mv => ?_)
  obtain ⟨t, rfl⟩ := hf i v hP
  have hS2 : Jo4 pr wd z2.heap C f i := hS.moved λ o e => mv.heap C _ nw e
  have ki : (PySem.strKind pr wd).is (f i) (.str (f i) t) = true := strKind_is _ _ _ _
  show wpAny _ B.in1 (holding [Value.str (f i) t] (setAdd C (.str (f i) t)) >>= _) _ _ z2
  refine wpAny_bind (wpAny_holding ?_)
  unfold setAdd
  refine wpAny_holding ?_
  refine wpAny_bind ((PySem.strKind pr wd).pyHash (k := f i) ki ?_)
  have rm : cntD f i + 1 < scanBound := by have := Jsy f i; omega
  refine wpAny_setAddHashed_of (knd := PySem.strKind pr wd) (s := { z2 with toks := z2.toks + 1 }) ki rfl hS2 rm λ h3 sb hS3 => ?_
  have hS4 : Jo4 pr wd h3 C f (i + 1) := SetOf_congr hS3 (λ k => (Jvp f i k).symm) (by show _ = cntD f (i + 1); rfl)
  refine wpAny_pure ⟨plainId_quiet PyProof.Rows.F.plain_set_update_loop _, ih (i + 1) _ (by omega) lt (W.frame _ z2 _ _ st2 (Nat.le_succ _) λ b q o e => ?_) hS4 λ z5 m5 hS5 => ?_⟩
  ·rw [sb.2 b (λ e2 : b = C => hC (by rw [<- e2]; exact q))]; exact e
  ·refine fin z5 (Moved.trans W.gtrans ((mv.mono more).then_heap (Nat.le_succ _) λ b o q e => ?_) m5) hS5
   rw [sb.2 b (λ e2 : b = C => q (by rw [e2]; exact List.mem_cons_self))]; exact e
end
end L3
namespace L3
open PySem PySem.Spec PyProof.Rows L2
section
variable {pr : Program} {wd : World} {B : Around} {E : Value -> Shared -> Prop} {z : Shared} {l : Addr} {us : List Value} {zs : List Str} {Q : Value -> Shared -> Prop}
noncomputable abbrev Jga (led : Bool) : Obj := { cls := .type "set", dict := none, data := .set #[] 0 (.fresh 0 0 led) }
noncomputable abbrev Jey (zs : List Str) : Nat -> Str := λ i => zs.getD i Str.empty
set_option maxRecDepth 100000 in
theorem Jzq {l2 : List (Str × Tok)} (hh : B.handled = none) (hl : z.heap.IsList l us.toArray) (eu : us = strValues l2) (ez : l2.map (·.1) = zs) (room : zs.length + 1 < scanBound)
  (fin : ∀ (h2 : Heap) (tk : Nat), Jo4 pr wd h2 z.heap.objs.size (Jey zs) zs.length -> (∀ b o, z.heap.get? b = some o -> h2.get? b = some o) -> Q (.ref z.heap.objs.size) { z with heap := h2, toks := tk }) :
  wpAny (model pr wd) B (call (.type "set") [.ref l]) Q E z := by
 have len : us.toArray.size = zs.length := by rw [eu, <- ez]; simp [strValues]
 have vals : ∀ (i : Nat) (v : Value), us.toArray[i]? = some v -> ∃ t, v = .str (Jey zs i) t := λ i v q => by
  rw [eu] at q
  simp only [strValues, List.getElem?_toArray, List.getElem?_map] at q
  obtain ⟨p, hp, rfl⟩ := Option.map_eq_some_iff.mp q
  refine ⟨p.2, ?_⟩
  rw [<- ez]
  simp [Jey, List.getD_eq_getElem?_getD, List.getElem?_map, hp]
 obtain ⟨c, tl, hmro⟩ := PySem.F.called_set.mro
 have hmade := PySem.F.called_set.made
 have hsub := PySem.F.called_set.sub
 refine wpAny_call (codeAny_of_tree ?_)
 show wpAny _ _ (callAny (.type "set") _) _ _ _
 refine wpAny_pure ⟨Code.quiet_builtin _ (by decide +kernel), codeAny_builtin PySem.F.entry_type_call ?_⟩
 rw [Around.under_plain (weight_type_call_type "set" [.ref l] []) rfl]
 have no1 := PySem.F.called_set.notType
 have no2 := PySem.F.called_set.canCreate
 have ok1 := PySem.F.typeCall_set_1 (.ref l)
 repeat (any_goals (first | assumption | wp_step))
 refine codeAny_mono (code_set_new_1 (.ref l) (E := E) (Q₁ := λ obj z1 => ∃ led : Bool, obj = .ref z.heap.objs.size /\ z1 = { z with heap := z.heap.push (Jga led) }) λ led => ⟨led, rfl, rfl⟩) λ res z1 hr => ?_
 cases res with
 | error e => exact hr
 | ok fl =>
  cases fl with
  | ret obj =>
   obtain ⟨led, rfl, rfl⟩ := hr
   have gS : (z.heap.push (Jga led)).get? z.heap.objs.size = some (Jga led) := Heap.get?_push_size _ rfl
   have tS : Shared.TypeIs { z with heap := z.heap.push (Jga led) } (.ref z.heap.objs.size) "set" := ⟨_, gS, rfl⟩
   have in1 := PySem.F.called_set.init.lookup
   have in2 := PySem.F.called_set.init.bind (.ref z.heap.objs.size)
   repeat (any_goals (first | assumption | wp_step))
   refine codeAny_mono (codeAny_call_builtin (R := wants (λ res z2 => res = .none /\ ∃ h2 tk, z2 = { z with heap := h2, toks := tk } /\ Jo4 pr wd h2 z.heap.objs.size (Jey zs) zs.length /\ (∀ b o, z.heap.get? b = some o -> h2.get? b = some o)) E)
    PySem.F.called_set.init.plain PySem.F.entry_set_init (check_set_init_1 tS ?_)) λ res2 z2 hr2 => ?_
   ·obtain ⟨ol, hol, hcl, nl, hdl⟩ := hl
    obtain ⟨ocls, odict, odata, oslots⟩ := ol
    simp only at hcl hdl
    subst hcl; subst hdl
    have gl : (z.heap.push (Jga led)).get? l = some { cls := .type "list", dict := odict, data := .seq us.toArray nl, slots := oslots } := Heap.get?_push_of_some _ hol
    have sb1 := PySem.F.sub_list_set
    have sb2 := PySem.F.sub_list_frozenset
    have dne : (Value.type "list" == Value.type "dict") = false := by decide
    have hl1 : (z.heap.push (Jga led)).IsList l us.toArray := ⟨_, gl, rfl, nl, rfl⟩
    unfold Builtin.«set.__init__» noKeywords Builtin.Frozenset.updateFrom
    generalize hPI : pyIter = PI
    wp_walk
    subst hPI
    refine wpAny_pyIter_list hl1 ?_
    refine wpAny_bind (wpAny_runValue ?_)
    have lS : l < z.heap.objs.size := Heap.lt_size hol
    have h3 : B.in1.in1.in1.handled = none := by simp [hh]
    have neI : l ≠ (z.heap.push (Jga led)).objs.size := by rw [Heap.size_push]; exact Nat.ne_of_lt (Nat.lt_succ_of_lt lS)
    have nC : z.heap.objs.size ∉ [(z.heap.push (Jga led)).objs.size, l] := by
     rw [Heap.size_push]
     simp only [List.mem_cons, List.not_mem_nil, or_false, not_or]
     exact ⟨Nat.ne_of_lt (Nat.lt_succ_self _), Nat.ne_of_gt lS⟩
    refine Jy6 ((Walks.list h3 _ l neI us.toArray).toS) z.heap.objs.size nC (Jey zs) vals (by rw [len]; exact room) (us.toArray.size - 0) 0 _ (by omega) (Nat.zero_le _) ⟨⟨_, Heap.get?_push_size _ rfl, rfl, rfl⟩, (hl1.push _)⟩ ?start ?stop
    case start =>
     have g0 : ((z.heap.push (Jga led)).push { cls := .type "list_iterator", data := .fields #[.ref l, .int 0 0] }).get? z.heap.objs.size = some (Jga led) := Heap.get?_push_of_some _ gS
     exact SetOf_congr ((setObjOf_fresh (knd := PySem.strKind pr wd) led).setOf g0 (by unfold scanBound; omega)) (λ _ => rfl) rfl
    case stop =>
     intro z5 mv hS5
     obtain ⟨h5, g5, d5, tk5, os5⟩ := z5
     have eg : g5 = z.gens := mv.gens
     have ed : d5 = z.drawn := mv.drawn
     have eo : os5 = z.os := mv.os
     subst eg; subst ed; subst eo
     show wpAny _ _ _ _ _ _
     refine wpAny_pure ?_
     show wpAny _ _ (ret Value.none) _ _ _
     rw [len] at hS5
     refine wpAny_pure ⟨rfl, h5, tk5, rfl, hS5, λ b o e => ?_⟩
     have lb := Heap.lt_size e
     have b1 : b ≠ z.heap.objs.size := Nat.ne_of_lt lb
     have b2 : b ≠ (z.heap.push (Jga led)).objs.size := by rw [Heap.size_push]; exact Nat.ne_of_lt (Nat.lt_succ_of_lt lb)
     exact mv.heap b o (by simp only [List.mem_cons, List.not_mem_nil, or_false, not_or]; exact ⟨b1, b2⟩) (Heap.get?_push_of_some _ (Heap.get?_push_of_some _ e))
   ·cases res2 with
    | error e => exact hr2
    | ok fl2 =>
     cases fl2 with
     | ret rv =>
      obtain ⟨rfl, h2, tk, rfl, hS2, keep⟩ := hr2
      repeat (any_goals (first | assumption | wp_step))
      exact fin _ _ hS2 keep
     | _ => exact hr2.elim
  | _ => exact hr.elim
end
end L3
namespace L3
open PySem PySem.Spec PyProof.Rows L2
section
variable {ce : Str -> Option Addr} {X : Cx}
noncomputable def Jmq (aa : A1) : E1 := λ σ h => (aa σ h).bind λ xs h1 => match xs with
 | [.ref i] => (match h1[i]? with
  | some (.lst ys) => (match Je3 ys with
   | some zs => if zs.length + 1 < scanBound then .ok (.int (cntD (Jey zs) zs.length)) h1 else .stuck
   | none => .stuck)
  | _ => .stuck)
 | _ => .stuck
theorem Jzu {a : Expr} {aa : A1} {p pos p2 pos2 : Pos} (hh : X.A.handled = none) (g1 : Gl X "len") (m1 : X.mg "len" = none) (g2 : Gl X "set") (m2 : X.mg "set" = none) (ha : PAi ce X [a] aa) (hs : starEach [a] X.env = [(false, eval a X.env)]) :
  PEi ce X (.Call (.Name "len" p) [.Call (.Name "set" p2) [a] [] pos2] [] pos) (Jmq aa) := λ pins s σ H ι σi h Q E N K => by
 refine wpAny_Call_Name_kw (Jdh N.inv g1 m1 rfl ?_)
 refine PyProof.Rows.callWith_builtin1 ?_ rfl rfl
 refine PyProof.Rows.spliced_more ?_
 refine wpAny_Call_Name_kw (Jdh N.inv g2 m2 rfl ?_)
 refine PyProof.Rows.callWith_type1 ?_ hs rfl
 refine (ha pos2).run N K λ xs h1 us s1 H1 ι1 N1 n1 r1 K1 => ?_
 obtain ⟨vs, rv, qs⟩ := r1
 match xs, K1 with
 | [.ref i], K1 =>
  obtain ⟨w, rfl, ad, rfl, hav⟩ := qs.one_of
  obtain ⟨u, rfl, ru⟩ := Jng rv
  cases ru
  dsimp only at K1
  cases hi : h1[i]? with
  | none => rw [hi] at K1; exact Zf K1
  | some ob =>
   rw [hi] at K1
   cases ob with
   | lst ys =>
    dsimp only at K1
    cases hb : Je3 ys with
    | none => rw [hb] at K1; exact Zf K1
    | some zs =>
     rw [hb] at K1
     dsimp only at K1
     split at K1
     ·rename_i room
      obtain ⟨ws, e1, r3⟩ := N1.at hi hav
      obtain ⟨its, rv2, pl, _⟩ := N1.inv.list (SqL.of e1)
      obtain ⟨l2, eu, ez⟩ := Jr3 hb r3 rv2
      refine Jzq hh pl.isList eu ez room λ h2 tk hS keep => PyProof.Rows.spliced_none ?_
      obtain ⟨o, es, ep, t, ho, hex, hd, hel, hmem, hbb, hf, hn⟩ := hS
      have fit : (es.size : Int) < 2 ^ 63 := by
       have := Jsy (Jey zs) zs.length
       have sb : scanBound <= 2 ^ 40 := by unfold scanBound; decide
       omega
      refine call_len_set ho hex hd hf fit ?_
      rw [hn]
      exact K1 _ _ _ _ ⟨(N1.inv.kept (t' := _) keep), N1.rel, N1.st⟩ .refl ⟨.int _, ⟨_, rfl⟩, rfl⟩
     ·exact Zf K1
   | _ => exact Zf K1
 | [], K1 => exact Zf K1
 | [.non], K1 => exact Zf K1
 | [.bl _], K1 => exact Zf K1
 | [.int _], K1 => exact Zf K1
 | [.str _], K1 => exact Zf K1
 | [.tup _], K1 => exact Zf K1
 | [.rol _], K1 => exact Zf K1
 | x :: _ :: _, K1 => cases x <;> exact Zf K1
end
end L3
namespace L3
open PySem PySem.Spec PyProof.Rows L2
section
variable {α β : Type} {h h1 : IH} {σ : ISt}
noncomputable def SRes.sq (r : SRes) (b : S1) : SRes := match r with
 | .next σ' h' => b σ' h'
 | r => r
theorem Jms (v : IV) (σ : ISt) : eVar 0 (some v :: σ) h = .ok v h := rfl
theorem Jni (n : Nat) (x : Option IV) (σ : ISt) : eVar (n + 1) (x :: σ) h = eVar n σ h := rfl
end
end L3
namespace L3
open PySem PySem.Spec PyProof.Rows L2
noncomputable def MulS (x : Str) (n : Int) : Bool := decide (x.length <= 1000 /\ -1000 <= n /\ n <= 1000)
theorem MulS.ok {x : Str} {n : Int} (h : MulS x n = true) : MulOk x n := by
 simp only [MulS, decide_eq_true_eq] at h
 obtain ⟨h1, h2, h3⟩ := h
 refine ⟨?_, λ hn _ => ?_, λ hn _ => ?_⟩
 ·simp only [Bool.or_eq_false_iff, decide_eq_false_iff_not]
  omega
 ·have e : (1000 : Int) <= (2 ^ 63 - 1) / n := by
   rw [Int.le_ediv_iff_mul_le (by omega)]
   have : (1000 : Int) * n <= 1000 * 1000 := Int.mul_le_mul_of_nonneg_left h3 (by decide)
   omega
  omega
 ·have : x.length * n.toNat <= 1000 * 1000 := Nat.mul_le_mul h1 (by omega)
  have hb : 1000000 < sizeLine := by decide
  unfold Builtin.Str.tooLong
  simp only [decide_eq_false_iff_not]
  omega
theorem J2x {X : L2.Cx} : OpR X (binaryOp .Mult) (λ x y H Q => ∃ i j, x = .str i /\ y = .int j /\ MulS i j = true /\ Q (.str (Txt.mul i j)) H) := by
 intro pins s σ H x y v u Q I rx ry h
 obtain ⟨i, j, rfl, rfl, hz, q⟩ := h
 obtain ⟨t, rfl⟩ := rx
 obtain ⟨t', rfl⟩ := ry
 exact SB.mul (MulS.ok hz) λ t' tk => ⟨.str (Txt.mul i j), H, I.tok _, ⟨_, rfl⟩, q⟩
noncomputable def Jfx (x y : IV) (h : IH) : Res IV := match x with
 | .str i => (match y with
  | .int j => if MulS i j then .ok (.str (Txt.mul i j)) h else .stuck
  | _ => .stuck)
 | x => Jtr x y h
section
variable {ce : Str -> Option Addr} {X : Cx}
theorem J5q : OpI ce X (binaryOp .Mult) Jfx := by
 intro pins s σ H ι σi h x y v u Q E N rx ry K
 cases x with
 | str i =>
  obtain ⟨xv, rx, qx⟩ := rx
  obtain ⟨yv, ry, qy⟩ := ry
  cases y with
  | int j =>
   have e1 : xv = .str i := qx
   have e2 : yv = .int j := qy
   subst e1 e2
   dsimp only [Jfx] at K
   split at K
   ·rename_i hz
    exact Jay (J2x (X := X.wish E)) N.inv rx ry ⟨i, j, rfl, rfl, hz, fin0 N K rfl⟩
   ·exact Zf K
  | _ => exact Zf K
 | _ => exact o_mul pins s σ H ι σi h _ y v u Q E N rx ry K
end
end L3
namespace L3
open PySem PySem.Spec PyProof.Rows L2
noncomputable def valI (kvs : List (Key × IV)) (k : Key) : Option IV := (kvs.find? λ kv => decide (kv.1 = k)).map (·.2)
theorem Jaf {p : Key × IV} {r : List (Key × IV)} {k : Key} (e : p.1 = k) : valI (p :: r) k = some p.2 := by simp [valI, List.find?_cons, e]
theorem J8 {p : Key × IV} {r : List (Key × IV)} {k : Key} (e : ¬ p.1 = k) : valI (p :: r) k = valI r k := by simp [valI, List.find?_cons, e]
theorem RPs.get {K : W.Frag} {ι : List Addr} {H : Hp} (k : Key) : ∀ {xs : List (Key × IV)} {vs : List (Key × V)}, RPs K ι H xs vs -> (valI xs k = none /\ valV vs k = none) ∨ ∃ v w, valI xs k = some v /\ valV vs k = some w /\ RV K ι H v w
 | [], _, h => by
  have e : _ = [] := h
  subst e
  exact .inl ⟨rfl, rfl⟩
 | x :: xs, _, h => by
  obtain ⟨v, r, rfl, q, t⟩ := h
  by_cases e : x.1 = k
  ·exact .inr ⟨x.2, v, Jaf e, Jlx e, q⟩
  ·rw [J8 e, Jls e]
   exact RPs.get k t
theorem RPs.snoc {K : W.Frag} {ι : List Addr} {H : Hp} {k : Key} {v : IV} {w : V} (q : RV K ι H v w) : ∀ {xs : List (Key × IV)} {vs : List (Key × V)}, RPs K ι H xs vs -> RPs K ι H (xs ++ [(k, v)]) (vs ++ [(k, w)])
 | [], _, h => by
  have e : _ = [] := h
  subst e
  exact ⟨w, [], rfl, q, rfl⟩
 | x :: xs, _, h => by
  obtain ⟨v', r, rfl, q', t⟩ := h
  exact ⟨v', r ++ [(k, w)], rfl, q', RPs.snoc q t⟩
theorem Jpb {vs : List (Key × V)} {k : Key} {w : V} (e : valV vs k = none) : putK vs k w = vs ++ [(k, w)] := by
 unfold putK
 rw [if_neg]
 rw [Jps, e]
 exact Bool.false_ne_true
section
variable {ce : Str -> Option Addr} {X : Cx}
noncomputable def Ju7 : E1 := λ _ h => .ok (.ref h.length) (h ++ [.dct []])
theorem J3o {pos : Pos} : PEi ce X (.Dict [] [] pos) Ju7 := λ pins s σ H ι σi h Q E N K => by
 have hn := N.inv.hok.fresh (Nat.le_refl s.heap.objs.size)
 have I1 := N.inv.laid (a := s.heap.objs.size) (o := .dK []) (h' := s.heap.push { cls := .type "dict", data := .dict #[] }) (t' := s.toks) (λ _ _ q => Heap.get?_push_of_some _ q) (Nat.le_refl _) (Jti s.heap N.inv.big)
 obtain ⟨R1, n1⟩ := N.rel.alloc (o := .dK []) (io := .dct []) hn ⟨[], Jf, rfl⟩
 have N1 : Now ce X pins (ι ++ [s.heap.objs.size]) σi (h ++ [.dct []]) σ (upd H s.heap.objs.size (.dK [])) _ := ⟨I1, R1, N.st.mono n1⟩
 have h0 : (ι ++ [s.heap.objs.size])[h.length]? = some s.heap.objs.size := by rw [<- N.rel.len, List.getElem?_append_right (Nat.le_refl _)]; simp
 exact wpAny_Dict_empty (K _ _ _ (ι ++ [s.heap.objs.size]) N1 n1 ⟨.ref _, rfl, _, rfl, h0⟩)
noncomputable def getI : IV -> List IV -> IH -> Res IV
 | .ref i, [y], h => match h[i]? with
  | some (.dct kvs) => (match keyI y with
   | some k => .ok ((valI kvs k).getD .non) h
   | none => .stuck)
  | _ => .stuck
 | _, _, _ => .stuck
noncomputable def Jf8 : IV -> List IV -> IH -> Res IV
 | .ref i, [y, v], h => match h[i]? with
  | some (.dct kvs) => (match keyI y with
   | some k => (match valI kvs k with
    | some w => .ok w h
    | none => if kvs.length < sizeLine then .ok v (h.set i (.dct (kvs ++ [(k, v)]))) else .stuck)
   | none => .stuck)
  | _ => .stuck
 | _, _, _ => .stuck
theorem Jyb : MtI ce X "dict" "dict.setdefault" Jf8 := by
 intro pins s σ H ι σi h x xs v us Q E N rx rs K
 obtain ⟨xv, rx, qx⟩ := rx
 obtain ⟨vs, rv, qs⟩ := rs
 cases x with
 | ref i =>
  match xs, K with
  | [y, y2], K =>
   obtain ⟨a, rfl, ha⟩ := qx
   obtain ⟨w, w2, rfl, qw, qw2⟩ := qs.two_of
   dsimp only [Jf8] at K
   cases hi : h[i]? with
   | none => rw [hi] at K; exact Zf K
   | some ob =>
    rw [hi] at K
    cases ob with
    | dct kvs =>
     dsimp only at K
     cases ek : keyI y with
     | none => rw [ek] at K; exact Zf K
     | some k =>
      rw [ek] at K
      dsimp only at K
      obtain ⟨ws, e1, r1⟩ := N.at hi ha
      cases Jit ek qw
      cases rv with
      | @cons _ _ _ _ ru t =>
      cases t with
      | @cons _ u2 _ _ ru2 t =>
      cases t
      cases (show v = .ref a from rx)
      obtain ⟨z, hd, ps, rel, dd⟩ := Jww N.inv.hok e1
      have hz : ps.length <= sizeLine := by rw [<- rel.length]; exact z
      refine call_meetsIn PySem.F.slot_dict_setdefault dd.typeIs PySem.F.entry_dict_setdefault (PySem.F.args_dict_setdefault_3 _ _ _) (kt_meets_setdefault (Jbn X.prog X.w) a (Ju8 ru) hd u2) ⟨ps, dd, hz, λ v' hv => ?_, λ hn h' dd' hs => ?_⟩
      ·rcases r1.get k with ⟨p, q⟩ | ⟨v1, w1, p, q, r⟩
       ·have rr := rel.val k
        rw [q] at rr
        rw [RelO.none_of rr] at hv
        cases hv
       ·rw [p] at K
        have rr := rel.val k
        rw [q, hv] at rr
        exact fin0 (w := w1) N K r _ _ (N.inv.tok _) rr
      ·rcases r1.get k with ⟨p, q⟩ | ⟨v1, w1, p, q, r⟩
       ·rw [p] at K
        dsimp only at K
        split at K
        ·rename_i hl
         have he : ∃ q, h'.get? a = some q := let ⟨q, _, _, hq, _⟩ := dd'; ⟨q, hq⟩
         have hlen : (putK ws k w2).length <= sizeLine := by rw [Jpb q, List.length_append, r1.length]; exact hl
         have I4 := Jsd (t' := s.toks + 1) N.inv (by rw [e1]; exact True.intro) hs he (Jvt hlen hd (rel.put k ru2) dd')
         have n : Nxt ι H ι (upd H a (.dK (putK ws k w2))) := ⟨⟨[], by simp⟩, Ext.upd_mut e1 (by rw [e1]; exact True.intro)⟩
         obtain ⟨R4, _⟩ := N.rel.write (o := .dK (putK ws k w2)) (io := .dct (kvs ++ [(k, y2)])) ha e1 (by rw [e1]; exact True.intro) ⟨_, Jf, (congrArg (λ P => RPs X.K ι (upd H a (.dK (putK ws k w2))) (kvs ++ [(k, y2)]) P) (Jpb q)).mpr (RPs.mono n _ _ (r1.snoc qw2))⟩
         exact K _ _ _ ι ⟨I4, R4, N.st.mono n⟩ n ⟨w2, ru2, RV.mono n _ _ qw2⟩
        ·exact Zf K
       ·have rr := rel.val k
        rw [q, hn] at rr
        exact Zf rr
    | _ => exact Zf K
  | [], K => exact Zf K
  | [_], K => exact Zf K
  | _ :: _ :: _ :: _, K => exact Zf K
 | _ => cases xs <;> exact Zf K
end
end L3
namespace L3
open PySem PySem.Spec PyProof.Rows L2
noncomputable def putD (kvs : List (Key × IV)) (k : Key) (v : IV) : List (Key × IV) :=
 if (kvs.any λ kv => decide (kv.1 = k)) = true then kvs.map (λ kv => if kv.1 = k then (kv.1, v) else kv) else kvs ++ [(k, v)]
theorem RPs.any {K : W.Frag} {ι : List Addr} {H : Hp} (k : Key) : ∀ {xs : List (Key × IV)} {vs : List (Key × V)}, RPs K ι H xs vs -> (xs.any λ kv => decide (kv.1 = k)) = vs.any λ kv => decide (kv.1 = k)
 | [], _, h => by
  have e : _ = [] := h
  subst e
  rfl
 | x :: xs, _, h => by
  obtain ⟨v, r, rfl, q, t⟩ := h
  rw [List.any_cons, List.any_cons, RPs.any k t]
theorem RPs.upd {K : W.Frag} {ι : List Addr} {H : Hp} {k : Key} {v : IV} {w : V} (q : RV K ι H v w) : ∀ {xs : List (Key × IV)} {vs : List (Key × V)}, RPs K ι H xs vs -> RPs K ι H (xs.map λ kv => if kv.1 = k then (kv.1, v) else kv) (vs.map λ kv => if kv.1 = k then (kv.1, w) else kv)
 | [], _, h => by
  have e : _ = [] := h
  subst e
  exact rfl
 | x :: xs, _, h => by
  obtain ⟨v', r, rfl, q', t⟩ := h
  rw [List.map_cons, List.map_cons]
  by_cases e : x.1 = k
  ·rw [if_pos e, if_pos e]
   exact ⟨w, _, rfl, q, RPs.upd q t⟩
  ·rw [if_neg e, if_neg e]
   exact ⟨v', _, rfl, q', RPs.upd q t⟩
theorem RPs.putKK {K : W.Frag} {ι : List Addr} {H : Hp} {k : Key} {v : IV} {w : V} {xs : List (Key × IV)} {vs : List (Key × V)} (q : RV K ι H v w) (r : RPs K ι H xs vs) : RPs K ι H (putD xs k v) (putK vs k w) := by
 unfold putD putK
 rw [r.any k]
 split
 ·exact r.upd q
 ·exact r.snoc q
section
variable {ce : Str -> Option Addr} {X : Cx}
noncomputable def Jox (x y : IV) (h : IH) : Res IV := match x with
 | .ref i => (match h[i]? with
  | some (.dct kvs) => (match keyI y with
   | some k => (match valI kvs k with
    | some v => .ok v h
    | none => .stuck)
   | none => .stuck)
  | _ => .stuck)
 | _ => .stuck
theorem x_ixD : IxI ce X Jox := by
 intro value slice pins s σ H ι σi h x y v u Q E N rx ry K hs
 obtain ⟨xv, rx, qx⟩ := rx
 obtain ⟨yv, ry, qy⟩ := ry
 cases x with
 | ref i =>
  obtain ⟨a, e1, ha⟩ := qx
  subst e1
  dsimp only [Jox] at K
  cases hi : h[i]? with
  | none => rw [hi] at K; exact Zf K
  | some ob =>
   rw [hi] at K
   cases ob with
   | dct kvs =>
    dsimp only at K
    cases ek : keyI y with
    | none => rw [ek] at K; exact Zf K
    | some k =>
     rw [ek] at K
     dsimp only at K
     obtain ⟨ws, e1, r1⟩ := N.at hi ha
     cases Jit ek qy
     cases (show v = .ref a from rx)
     obtain ⟨z, hd, ps, rel, dd⟩ := Jww N.inv.hok e1
     rcases r1.get k with ⟨p, q⟩ | ⟨v1, w1, p, q, r⟩
     ·rw [p] at K; exact Zf K
     ·rw [p] at K
      have rr := rel.val k
      rw [q] at rr
      obtain ⟨w', hw, rw'⟩ := RelO.some_of rr
      exact subscriptTail_builtinR (x := w') dd.typeIs PySem.F.slot_dict_getitem.lookup (wpAny_getItem_of (Q := λ r s' => r = w' /\ Q r s') (Ju8 ry) dd.mapOf hw ⟨rfl, fin0 N K r _ _ (N.inv.tok _) rw'⟩) hs
   | _ => exact Zf K
 | _ => exact Zf K
noncomputable def cInD (x c : IV) (h : IH) : Res IV := match c with
 | .ref i => (match h[i]? with
  | some (.dct kvs) => (match keyI x with
   | some k => .ok (.bl (valI kvs k).isSome) h
   | none => .stuck)
  | _ => .stuck)
 | _ => .stuck
theorem o_inD : OpI ce X (compareOp .In) cInD := by
 intro pins s σ H ι σi h x y v u Q E N rx ry K
 obtain ⟨xv, rx, qx⟩ := rx
 obtain ⟨yv, ry, qy⟩ := ry
 cases y with
 | ref i =>
  obtain ⟨a, e1, ha⟩ := qy
  subst e1
  dsimp only [cInD] at K
  cases hi : h[i]? with
  | none => rw [hi] at K; exact Zf K
  | some ob =>
   rw [hi] at K
   cases ob with
   | dct kvs =>
    dsimp only at K
    cases ek : keyI x with
    | none => rw [ek] at K; exact Zf K
    | some k =>
     rw [ek] at K
     dsimp only at K
     obtain ⟨ws, e1, r1⟩ := N.at hi ha
     cases Jit ek qx
     cases (show u = .ref a from ry)
     obtain ⟨z, hd, ps, rel, dd⟩ := Jww N.inv.hok e1
     refine wpAny_in_of (Ju8 rx) hd dd.mapOf ?_
     rw [<- (rel.val k).isSome_eq]
     have es : (valV ws k).isSome = (valI kvs k).isSome := by
      rcases r1.get k with ⟨p, q⟩ | ⟨v1, w1, p, q, r⟩ <;> rw [p, q] <;> rfl
     rw [es]
     exact fin0 N K rfl _ _ (N.inv.tok _) rfl
   | _ => exact Zf K
 | _ => exact Zf K
noncomputable def Jv2 : IV -> IV -> IV -> ISt -> IH -> SRes
 | .ref i, iv, v, σ, h => match h[i]? with
  | some (.dct kvs) => (match keyI iv with
   | some k => if kvs.length < sizeLine then .next σ (h.set i (.dct (putD kvs k v))) else .stuck
   | none => .stuck)
  | _ => .stuck
 | _, _, _, _, _ => .stuck
noncomputable def gSbD (o i : E1) : G1 := λ v σ h => rS σ (o σ h) λ ov h1 => rS σ (i σ h1) λ iv h2 => Jv2 ov iv v σ h2
theorem J3g {oe ie : Expr} {mo mi : E1} {pos : Pos} (ho : PEi ce X oe mo) (hi : PEi ce X ie mi)
  (ha : ∀ v, assign (.Subscript oe ie pos) X.env v = (do
   let ov <- holding [v] (eval oe X.env)
   let iv <- holding [v, ov] (eval ie X.env)
   standAt pos
   holding [v, ov, iv] (setItem ov iv v)
   release [v, ov, iv] [])) : PGi ce X (.Subscript oe ie pos) (gSbD mo mi) := by
 intro pins s σ H ι σi h v u Q E N r K
 rw [ha]
 refine wpAny_bind (wpAny_holding (krun ho N K λ ov h1 ou s1 H1 ι1 N1 n1 r1 K1 => ?_))
 refine wpAny_bind (wpAny_holding (krun hi N1 K1 λ iv h2 iu s2 H2 ι2 N2 n2 r2 K2 => ?_))
 have r' : RU X.K ι2 H2 v u := (r.mono n1).mono n2
 obtain ⟨ox, ro, qo⟩ := r1.mono n2
 obtain ⟨ix, ri, qi⟩ := r2
 obtain ⟨vx, rvx, qv⟩ := r'
 refine wpAny_bind (wpAny_standAt (wpAny_bind (wpAny_holding ?_)))
 cases ov with
 | ref i =>
  obtain ⟨a, rfl, haa⟩ := qo
  dsimp only [Jv2] at K2
  cases hh : h2[i]? with
  | none => rw [hh] at K2; exact Zf K2
  | some ob =>
   rw [hh] at K2
   cases ob with
   | dct kvs =>
    dsimp only at K2
    cases ek : keyI iv with
    | none => rw [ek] at K2; exact Zf K2
    | some k =>
     rw [ek] at K2
     dsimp only at K2
     split at K2
     ·rename_i hl
      obtain ⟨ws, e1, r1'⟩ := N2.at hh haa
      cases Jit ek qi
      cases (show ou = .ref a from ro)
      obtain ⟨z, hd, ps, rel, dd⟩ := Jww N2.inv.hok e1
      have hz : ps.length <= sizeLine := by rw [<- rel.length]; exact z
      have hlen : (putK ws k vx).length <= sizeLine := by
       have h1 := Jmk ws k vx
       have h2 := r1'.length
       omega
      refine wpAny_setItem_pairs (hsz := hz) (Ju8 ri) dd λ h' dd' hs => ?_
      have he : ∃ q, h'.get? a = some q := let ⟨q, _, _, hq, _⟩ := dd'; ⟨q, hq⟩
      have I4 := Jsd (t' := s2.toks + 1) N2.inv (by rw [e1]; exact True.intro) hs he (Jvt hlen hd (rel.put k rvx) dd')
      have n : Nxt ι2 H2 ι2 (upd H2 a (.dK (putK ws k vx))) := ⟨⟨[], by simp⟩, Ext.upd_mut e1 (by rw [e1]; exact True.intro)⟩
      obtain ⟨R3, _⟩ := N2.rel.write (o := .dK (putK ws k vx)) (io := .dct (putD kvs k v)) haa e1 (by rw [e1]; exact True.intro) ⟨_, Jf, RPs.putKK (RV.mono n _ _ qv) (RPs.mono n _ _ r1')⟩
      exact wpAny_release (K2 _ σ _ ι2 ⟨I4, R3, N2.st.mono n⟩ n)
     ·exact Zf K2
   | _ => exact Zf K2
 | _ => exact Zf K2
end
end L3
namespace L3
open PySem PySem.Spec PyProof.Rows L2
noncomputable def leZ (a b : Int) : Bool := decide (a <= b)
noncomputable def leS (a b : Str) : Bool := decide (a.cps.toList <= b.cps.toList)
noncomputable def Jmp (ns : List Int) : List Int := ns.mergeSort leZ
noncomputable def Jwj (zs : List Str) : List Str := zs.mergeSort leS
theorem J07 {a b : Str} (h : a.cps.toList = b.cps.toList) : a = b := by
 cases a; cases b
 simp only [Str.mk.injEq]
 exact Array.toList_inj.mp h
theorem Jtb (ns : List Int) : (Jmp ns).Pairwise (· <= ·) := by
 have := List.pairwise_mergeSort (le := leZ) (λ a b c h1 h2 => by simp only [leZ, decide_eq_true_eq] at *; omega) (λ a b => by simp only [leZ, Bool.or_eq_true, decide_eq_true_eq]; omega) ns
 exact this.imp λ h => by simpa [leZ] using h
theorem Jx6 (zs : List Str) : (Jwj zs).Pairwise λ a b => a.cps.toList <= b.cps.toList := by
 have := List.pairwise_mergeSort (le := leS) (λ a b c h1 h2 => by simp only [leS, decide_eq_true_eq] at *; exact List.le_trans h1 h2) (λ a b => by simp only [leS, Bool.or_eq_true, decide_eq_true_eq]; exact List.le_total _ _) zs
 exact this.imp λ h => by simpa [leS] using h
theorem Jx0 {ns ns' : List Int} (p : ns'.Perm ns) (s : ns'.Pairwise (· <= ·)) : ns' = Jmp ns :=
 List.Perm.eq_of_pairwise (le := (· <= ·)) (λ a b _ _ h1 h2 => Int.le_antisymm h1 h2) s (Jtb ns) (p.trans (List.mergeSort_perm ns leZ).symm)
theorem Jq9 : ∀ (p : Str) (l : List Str), risingS p l = true -> (p :: l).Pairwise λ a b => a.cps.toList <= b.cps.toList
 | p, [], _ => List.pairwise_singleton ..
 | p, x :: r, h => by
  have h : (!ltCps x.cps.toList p.cps.toList && risingS x r) = true := h
  rw [Bool.and_eq_true, Bool.not_eq_true', ltCps_eq, decide_eq_false_iff_not, List.not_lt] at h
  have ih := Jq9 x r h.2
  refine List.pairwise_cons.mpr ⟨λ y hy => ?_, ih⟩
  rcases List.mem_cons.mp hy with rfl | hy
  ·exact h.1
  ·exact List.le_trans h.1 ((List.pairwise_cons.mp ih).1 y hy)
theorem Jy8 {zs zs' : List Str} (p : zs'.Perm zs) (s : sortedS zs' = true) : zs' = Jwj zs := by
 have pw : zs'.Pairwise λ a b => a.cps.toList <= b.cps.toList := by
  cases zs' with
  | nil => exact .nil
  | cons x r => exact Jq9 x r s
 exact List.Perm.eq_of_pairwise (le := λ a b : Str => a.cps.toList <= b.cps.toList) (λ a b _ _ h1 h2 => J07 (List.le_antisymm h1 h2)) pw (Jx6 zs) (p.trans (List.mergeSort_perm zs leS).symm)
theorem Joe {K : W.Frag} {ι : List Addr} {H : Hp} : ∀ {xs : List IV} {zs : List Str} {vs : List V} {us : List Value}, Je3 xs = some zs -> RVs K ι H xs vs -> Vals vs us -> StrsAre us zs
 | [], zs, vs, us, e, q, r => by
  cases e
  have e1 : vs = [] := q
  subst e1
  cases r
  exact .nil
 | x :: xs, zs, vs, us, e, q, r => by
  obtain ⟨v, vr, e1, q1, q2⟩ := q
  subst e1
  cases r with
  | cons r1 r2 =>
   cases x with
   | str y =>
    obtain ⟨z2, e2, rfl⟩ := Option.map_eq_some_iff.mp (show (Je3 xs).map (y :: ·) = some zs from e)
    cases (show v = .str y from q1)
    obtain ⟨t, rfl⟩ := r1
    exact .cons y t (Joe e2 q2 r2)
   | _ => cases e
theorem Jc9 : ∀ {us : List Value} {ns : List Int}, IntsAre us ns -> Vals (ns.map V.int) us
 | _, _, .nil => .nil
 | _, _, .cons _ _ r => .cons ⟨_, rfl⟩ (Jc9 r)
theorem Jl6 : ∀ {us : List Value} {zs : List Str}, StrsAre us zs -> Vals (zs.map V.str) us
 | _, _, .nil => .nil
 | _, _, .cons _ _ r => .cons ⟨_, rfl⟩ (Jl6 r)
theorem Jpr {K : W.Frag} {ι : List Addr} {H : Hp} : ∀ ns : List Int, RVs K ι H (ns.map IV.int) (ns.map V.int)
 | [] => rfl
 | _ :: ns => ⟨_, _, rfl, rfl, Jpr ns⟩
theorem Jtg {K : W.Frag} {ι : List Addr} {H : Hp} : ∀ zs : List Str, RVs K ι H (zs.map IV.str) (zs.map V.str)
 | [] => rfl
 | _ :: zs => ⟨_, _, rfl, rfl, Jtg zs⟩
noncomputable def srtI (xs : List IV) : Option (List IV) := match Jdq xs with
 | some ns => some ((Jmp ns).map .int)
 | none => (Je3 xs).map λ zs => (Jwj zs).map .str
section
variable {ce : Str -> Option Addr} {X : Cx}
noncomputable def Jkg : IV -> IH -> Res IV
 | .ref i, h => match h[i]? with
  | some (.lst xs) => if xs.length < 64 then (match srtI xs with
   | some ys => .ok (.ref h.length) (h ++ [.lst ys])
   | none => .stuck) else .stuck
  | _ => .stuck
 | _, _ => .stuck
theorem Jy0 : Ji1 ce X (.builtin "sorted") (on1 Jkg) := Jpp λ pins s σ H ι σi h x xv u Q E N ru qx K => by
 cases x with
 | ref i =>
  obtain ⟨a, e1, ha⟩ := qx
  subst e1
  cases ru
  dsimp only [Jkg] at K
  cases hi : h[i]? with
  | none => rw [hi] at K; exact Zf K
  | some ob =>
   rw [hi] at K
   cases ob with
   | lst xs =>
    dsimp only at K
    split at K
    ·rename_i h64
     obtain ⟨vs, e1, r1⟩ := N.at hi ha
     obtain ⟨its, rv, pl, hz⟩ := N.inv.list (SqL.of e1)
     have li : its.length = xs.length := by rw [<- rv.length, r1.length]
     have hb : 64 <= sizeLine := by decide
     have fresh : H (s.heap.objs.size + 1) = none := N.inv.hok.fresh (Nat.le_succ _)
     unfold srtI at K
     cases ei : Jdq xs with
     | some ns =>
      rw [ei] at K
      have are := Jkk ei r1 rv
      have ln := Jet are
      refine sorted_ints pl.isList are (by omega) λ out ns' hI hp hs => ?_
      have en := Jx0 hp hs
      subst en
      obtain ⟨e, he⟩ := sortedAll_at s.heap its out
      have hl : ((Jmp ns).map V.int).length <= sizeLine := by rw [List.length_map, hp.length_eq]; omega
      have I' := N.inv.laid (a := s.heap.objs.size + 1) (o := .lst ((Jmp ns).map V.int)) (h' := sortedAll s.heap its out) (t' := s.toks) (λ _ _ => sortedAll_old) (Nat.le_succ _) ⟨hl, out.toList, e, Jc9 hI, he⟩
      exact finA N K (s.heap.objs.size + 1) fresh ⟨_, Jf, Jpr _⟩ _ _ I' rfl
     | none =>
      rw [ei] at K
      cases es : Je3 xs with
      | none => rw [es] at K; exact Zf K
      | some zs =>
       rw [es] at K
       have are := Joe es r1 rv
       refine sorted_strs pl.isList are (by omega) λ out zs' hS hp hs => ?_
       have en := Jy8 hp hs
       subst en
       obtain ⟨e, he⟩ := sortedAll_at s.heap its out
       have lz : zs.length = its.length := by have := (Jl6 are).length; rw [List.length_map] at this; exact this
       have hl : ((Jwj zs).map V.str).length <= sizeLine := by rw [List.length_map, hp.length_eq]; omega
       have I' := N.inv.laid (a := s.heap.objs.size + 1) (o := .lst ((Jwj zs).map V.str)) (h' := sortedAll s.heap its out) (t' := s.toks) (λ _ _ => sortedAll_old) (Nat.le_succ _) ⟨hl, out.toList, e, Jl6 hS, he⟩
       exact finA N K (s.heap.objs.size + 1) fresh ⟨_, Jf, Jtg _⟩ _ _ I' rfl
    ·exact Zf K
   | _ => exact Zf K
 | _ => exact Zf K
end
end L3
namespace L3
open PySem PySem.Spec PyProof.Rows L2
noncomputable def Je4 (f : Nat -> Int) : Nat -> Int
 | 0 => 0
 | 1 => f 0
 | j + 2 => if f (j + 1) < Je4 f (j + 1) then f (j + 1) else Je4 f (j + 1)
theorem Jkc (f : Nat -> Int) {j : Nat} (hj : 0 < j) : Je4 f (j + 1) = if f j < Je4 f j then f j else Je4 f j := by
 cases j with
 | zero => omega
 | succ j => rfl
section
variable {pr : Program} {wd : World} {B : Around} {R : Result -> Shared -> Prop} {it : Addr} {fps wrs : List Addr} {n : Nat} {P : Nat -> Value -> Prop} {St : Nat -> Heap -> Prop}
theorem Jpn : (toString "min" ++ toString ".loop" : String) = "min.loop" := by decide
theorem J2m {kw : List (Str × Value)} (W : Walks pr wd B.in1 it fps wrs n P St) (f : Nat -> Int) (hf : ∀ i v, P i v -> ∃ t, v = .int (f i) t) (C : Addr) (hC : C ∉ fps) :
  ∀ (r j : Nat) (z : Shared) (v : Value) (u : Tok) (c : Nat), n - j = r -> 0 < j -> j <= n -> St j z.heap -> v = .int (Je4 f j) u -> z.heap.get? C = some (Jz6 v c) ->
   (∀ u h2 tk, (∀ a o, a ∉ wrs -> a ≠ C -> z.heap.get? a = some o -> h2.get? a = some o) -> R (.ok (.ret (.int (Je4 f n) u))) { z with heap := h2, toks := tk }) ->
   codeAny (model pr wd) B (.builtin "min.loop" ⟨[.ref it, .none, .ref C], kw⟩) R z := by
 have hw : C ∉ wrs := λ q => hC (W.sub _ q)
 intro r
 induction r with
 | zero =>
  intro j z v u c hr h0 hj st ev gC fin
  obtain rfl : j = n := by omega
  subst ev
  refine codeAny_builtin PySem.F.entry_min_loop ?_
  rw [Around.under_plainId PySem.F.plain_min_loop _]
  show wpAny _ B.in1 (seqItems? (.ref C) >>= _) _ _ z
  refine wpAny_bind (wpAny_seqItems gC rfl ?_)
  show wpAny _ B.in1 (tryCatch (pyNext (.ref it)) _ >>= _) _ _ z
  refine wpAny_bind (wpAny_tryCatch (W.done z _ _ st λ h2 tk keep => ?_))
  have gC2 := keep C _ hw gC
  show wpAny _ B.in1 (updateSeq C (λ _ => #[]) >>= _) _ _ _
  refine wpAny_bind ?_
  refine wpAny_updateSeq gC2 rfl (wpAny_bind (wpAny_letGo (wpAny_pure ?_)))
  exact fin u _ tk λ a o ha hb e => (Heap.get?_update_other _ _ (Ne.symm hb)).trans (keep a o ha e)
 | succ r ih =>
  intro j z v u c hr h0 hj st ev gC fin
  have lt : j < n := by omega
  subst ev
  refine codeAny_builtin PySem.F.entry_min_loop ?_
  rw [Around.under_plainId PySem.F.plain_min_loop _]
  show wpAny _ B.in1 (seqItems? (.ref C) >>= _) _ _ z
  refine wpAny_bind (wpAny_seqItems gC rfl ?_)
  show wpAny _ B.in1 (tryCatch (pyNext (.ref it)) _ >>= _) _ _ z
  refine wpAny_bind (wpAny_tryCatch (W.item j z _ _ lt st λ y h2 tk hP st2 keep => ?_))
  obtain ⟨t, rfl⟩ := hf j y hP
  have gC2 := keep C _ hw gC
  have cmp := CmpOf.ints_lt (prog := pr) (w := wd) (A := B.in1) (P := λ i v => ∃ t, v = .int (if i = 0 then f j else Je4 f j) t) (λ i => if i = 0 then f j else Je4 f j) (λ _ _ q => q)
  show wpAny _ B.in1 (tryCatch (holding [Value.int (f j) t, Value.int (f j) t] (richCompare .Lt (.int (f j) t) (.int (Je4 f j) u) >>= _)) _ >>= _) _ _ _
  refine wpAny_bind (wpAny_tryCatch (wpAny_holding (wpAny_bind (cmp 0 1 _ _ _ _ _ ⟨t, by simp⟩ ⟨u, by simp⟩ ?_))))
  refine wpAny_bind (wpAny_holding (wpAny_truthy_bool ?_))
  refine wpAny_bind (wpAny_letGo (wpAny_pure ?_))
  have step := Jkc f h0
  by_cases hb : f j < Je4 f j
  ·rw [if_pos hb] at step
   simp only [if_true, show ¬ (1 : Nat) = 0 by decide, if_false, decide_eq_true hb]
   refine wpAny_bind ?_
   refine wpAny_updateSeq gC2 rfl (wpAny_bind (wpAny_letGo ?_))
   rw [Jpn]
   refine wpAny_pure ⟨plainId_quiet PySem.F.plain_min_loop _, ih (j + 1) _ (.int (f j) t) t _ (by omega) (by omega) lt (W.frame _ _ _ st2 λ a ha o e => ?_) (by rw [step]) (Heap.get?_update_self _ gC2 rfl) λ u2 h3 tk3 k3 => ?_⟩
   ·exact (Heap.get?_update_other _ _ (λ q : C = a => hC (by rw [q]; exact ha))).trans e
   ·exact fin u2 h3 tk3 λ a o ha hc e => k3 a o ha hc ((Heap.get?_update_other _ _ (Ne.symm hc)).trans (keep a o ha e))
  ·rw [if_neg hb] at step
   simp only [if_true, show ¬ (1 : Nat) = 0 by decide, if_false, decide_eq_false hb, Bool.false_eq_true]
   refine wpAny_bind (wpAny_letGo ?_)
   rw [Jpn]
   refine wpAny_pure ⟨plainId_quiet PySem.F.plain_min_loop _, ih (j + 1) _ (.int (Je4 f j) u) u c (by omega) (by omega) lt st2 (by rw [step]) gC2 λ u2 h3 tk3 k3 => ?_⟩
   exact fin u2 h3 tk3 λ a o ha hc e => k3 a o ha hc (keep a o ha e)
end
theorem Jwo (a : Value) : argsOk "min" ⟨[a], []⟩ := by unfold argsOk; kernel_rfl
section
variable {pr : Program} {wd : World} {B : Around} {E : Value -> Shared -> Prop} {z : Shared} {l : Addr} {us : List Value} {ns : List Int} {Q : Value -> Shared -> Prop}
theorem J02 (hh : B.handled = none) (hl : z.heap.IsList l us.toArray) (hi : IntsAre us ns) (hne : ns ≠ [])
  (hQ : ∀ v h2 tk, (∃ u, v = .int (Je4 (λ i => ns.getD i 0) ns.length) u) -> (∀ b o, z.heap.get? b = some o -> h2.get? b = some o) -> Q v { z with heap := h2, toks := tk }) :
  wpAny (model pr wd) B (call (.builtin "min") [.ref l]) Q E z := by
 obtain ⟨ol, hol, _⟩ := id hl
 have lt : l < z.heap.objs.size := Heap.lt_size hol
 have ll := Jet hi
 refine kmk_tree PySem.F.kind_min PySem.F.plain_min PySem.F.entry_min (Jwo _) ?_
 show wpAny _ B.in1 (Builtin.Builtins.bindParams "min" ["key", "default"] 0 ⟨[], []⟩ >>= _) _ _ z
 refine wpAny_bind (wpAny_of_eq (show Builtin.Builtins.bindParams "min" ["key", "default"] 0 ⟨[], []⟩ = pure [none, none] from rfl) ?_)
 refine wpAny_bind (wpAny_pure ?_)
 refine wpAny_bind (wpAny_pyIter_list hl ?_)
 refine wpAny_bind (wpAny_newList ?_ (Nat.zero_le _))
 rw [Jpn]
 have ne : l ≠ z.heap.objs.size := Nat.ne_of_lt lt
 have W := Walks.list (prog := pr) (w := wd) (A := B.in1) hh z.heap.objs.size l ne us.toArray
 have sz : us.toArray.size = us.length := List.size_toArray ..
 have hS : (z.heap.push { cls := .type "list_iterator", data := .fields #[.ref l, .int 0 0] }).objs.size = z.heap.objs.size + 1 := size_push' ..
 have hC : (z.heap.push { cls := .type "list_iterator", data := .fields #[.ref l, .int 0 0] }).objs.size ∉ [z.heap.objs.size, l] := by
  rw [hS]
  simp only [List.mem_cons, List.not_mem_nil, or_false, not_or]
  exact ⟨Nat.ne_of_gt (Nat.lt_succ_self _), Nat.ne_of_gt (Nat.lt_succ_of_lt lt)⟩
 have hw : (z.heap.push { cls := .type "list_iterator", data := .fields #[.ref l, .int 0 0] }).objs.size ∉ [z.heap.objs.size] := by
  rw [hS]
  simp only [List.mem_cons, List.not_mem_nil, or_false]
  exact Nat.ne_of_gt (Nat.lt_succ_self _)
 have old : ∀ b o, z.heap.get? b = some o -> ((z.heap.push { cls := .type "list_iterator", data := .fields #[.ref l, .int 0 0] }).push (seqObj "list" #[] 0)).get? b = some o := λ b o e => Heap.get?_push_of_some _ (Heap.get?_push_of_some _ e)
 have gI : ((z.heap.push { cls := .type "list_iterator", data := .fields #[.ref l, .int 0 0] }).push (seqObj "list" #[] 0)).get? z.heap.objs.size = some { cls := .type "list_iterator", data := .fields #[.ref l, .int 0 0] } := Heap.get?_push_of_some _ (Heap.get?_push_size _ rfl)
 have gC : ((z.heap.push { cls := .type "list_iterator", data := .fields #[.ref l, .int 0 0] }).push (seqObj "list" #[] 0)).get? (z.heap.push { cls := .type "list_iterator", data := .fields #[.ref l, .int 0 0] }).objs.size = some (seqObj "list" #[] 0) := Heap.get?_push_size _ rfl
 have notin : ∀ b o, z.heap.get? b = some o -> b ∉ [z.heap.objs.size] := λ b o e q => Nat.ne_of_lt (Heap.lt_size e) (List.mem_singleton.mp q)
 have notC : ∀ b o, z.heap.get? b = some o -> b ≠ (z.heap.push { cls := .type "list_iterator", data := .fields #[.ref l, .int 0 0] }).objs.size := λ b o e => by rw [hS]; exact Nat.ne_of_lt (Nat.lt_succ_of_lt (Heap.lt_size e))
 refine wpAny_pure ⟨plainId_quiet PySem.F.plain_min_loop _, codeAny_builtin PySem.F.entry_min_loop ?_⟩
 rw [Around.under_plainId PySem.F.plain_min_loop _]
 show wpAny _ B.in1 (seqItems? (.ref _) >>= _) _ _ _
 refine wpAny_bind (wpAny_seqItems gC rfl ?_)
 show wpAny _ B.in1 (tryCatch (pyNext (.ref z.heap.objs.size)) _ >>= _) _ _ _
 have h0 : ¬ us.length = 0 := λ q => hne (List.eq_nil_of_length_eq_zero (by omega))
 ·refine wpAny_bind (wpAny_tryCatch (W.item 0 _ _ _ (by rw [sz]; omega) ⟨⟨_, gI, rfl, rfl⟩, (hl.push _).push _⟩ λ y h2 tk hP st2 keep => ?_))
  have gC2 := keep _ _ hw gC
  show wpAny _ B.in1 (updateSeq (z.heap.push { cls := .type "list_iterator", data := .fields #[.ref l, .int 0 0] }).objs.size (λ _ => #[y, y]) >>= _) _ _ _
  refine wpAny_bind ?_
  refine wpAny_updateSeq gC2 rfl ?_
  rw [Jpn]
  have hf : ∀ (i : Nat) (v : Value), us.toArray[i]? = some v -> ∃ t, v = .int ((λ i => ns.getD i 0) i) t := λ i v q => IntsAre.int_at hi i v (by simpa using q)
  obtain ⟨t, rfl⟩ := hf 0 y hP
  refine wpAny_pure ⟨plainId_quiet PySem.F.plain_min_loop _, J2m W (λ i => ns.getD i 0) hf _ hC _ 1 _ _ t _ rfl (by decide) (by rw [sz]; omega) (W.frame _ _ _ st2 λ a ha o e => ?_) rfl (Heap.get?_update_self _ gC2 rfl) λ u h3 tk3 k3 => ?_⟩
  ·exact (Heap.get?_update_other _ _ (λ q => hC (by rw [q]; exact ha))).trans e
  ·rw [sz, ll]
   refine hQ _ h3 tk3 ⟨u, rfl⟩ λ b o e => k3 b o (notin b o e) (notC b o e) ((Heap.get?_update_other _ _ (Ne.symm (notC b o e))).trans (keep b o (notin b o e) (old b o e)))
end
section
variable {ce : Str -> Option Addr} {X : Cx}
noncomputable def Jun : IV -> IH -> Res IV
 | .ref i, h => match h[i]? with
  | some (.lst xs) => (match Jdq xs with
   | some ns => if ns = [] then .stuck else .ok (.int (Je4 (λ i => ns.getD i 0) ns.length)) h
   | none => .stuck)
  | _ => .stuck
 | _, _ => .stuck
theorem J5n (hh : X.A.handled = none) : Ji1 ce X (.builtin "min") (on1 Jun) := Jpp λ pins s σ H ι σi h x xv u Q E N ru qx K => by
 cases x with
 | ref i =>
  obtain ⟨a, e1, ha⟩ := qx
  subst e1
  cases ru
  dsimp only [Jun] at K
  cases hi : h[i]? with
  | none => rw [hi] at K; exact Zf K
  | some ob =>
   rw [hi] at K
   cases ob with
   | lst xs =>
    dsimp only at K
    cases hb : Jdq xs with
    | none => rw [hb] at K; exact Zf K
    | some ns =>
     rw [hb] at K
     dsimp only at K
     split at K
     ·exact Zf K
     ·rename_i hne
      obtain ⟨vs, e1, r1⟩ := N.at hi ha
      obtain ⟨its, rv, pl, hz⟩ := N.inv.list (SqL.of e1)
      refine J02 hh pl.isList (Jkk hb r1 rv) hne λ v h2 tk ⟨t, ev⟩ kk => ?_
      subst ev
      exact fin0 N K rfl _ _ (N.inv.kept (t' := tk) kk) ⟨t, rfl⟩
   | _ => exact Zf K
 | _ => exact Zf K
end
end L3
namespace L3
open PySem PySem.Spec PyProof.Rows L2
section
variable {ce : Str -> Option Addr} {X : Cx}
noncomputable def popI : IV -> List IV -> IH -> Res IV
 | .ref i, [.int k], h => match h[i]? with
  | some (.lst xs) => if 0 <= k /\ k < 1000000 then (match xs[k.toNat]? with
   | some y => .ok y (h.set i (.lst (xs.eraseIdx k.toNat)))
   | none => .stuck) else .stuck
  | _ => .stuck
 | _, _, _ => .stuck
theorem Jxr : ∀ (us : List Value) (ns : List Int), us.length = ns.length -> (∀ i v, us[i]? = some v -> ∃ t : Tok, v = Value.int (ns.getD i 0) t) -> IntsAre us ns
 | [], [], _, _ => .nil
 | u :: us, n :: ns, hl, h => by
  obtain ⟨t, e⟩ := h 0 u rfl
  cases (show u = .int n t from e)
  exact .cons n t (Jxr us ns (by simpa using hl) λ i v q => h (i + 1) v q)
 | [], _ :: _, hl, _ => by cases hl
 | _ :: _, [], hl, _ => by cases hl
noncomputable def eLR (aa : A1) : E1 := λ σ h => (aa σ h).bind λ xs h1 => match xs with
 | [.int j] => if 0 <= j /\ j <= 1000 then .ok (.ref h1.length) (h1 ++ [.lst (rngI 0 j)]) else .stuck
 | _ => .stuck
theorem J2r (j : Int) : rngI 0 j = ((List.range j.toNat).map λ k => ((k : Nat) : Int)).map IV.int := by
 simp [rngI]
theorem Jv9 {a : Expr} {aa : A1} {p pos p2 pos2 : Pos} (hh : X.A.handled = none) (g1 : Gl X "list") (m1 : X.mg "list" = none) (g2 : Gl X "range") (m2 : X.mg "range" = none) (ha : PAi ce X [a] aa) (hs : starEach [a] X.env = [(false, eval a X.env)]) :
  PEi ce X (.Call (.Name "list" p) [.Call (.Name "range" p2) [a] [] pos2] [] pos) (eLR aa) := λ pins s σ H ι σi h Q E N K => by
 refine wpAny_Call_Name_kw (Jdh N.inv g1 m1 rfl ?_)
 refine PyProof.Rows.callWith_type1 ?_ rfl rfl
 refine PyProof.Rows.spliced_more ?_
 refine wpAny_Call_Name_kw (Jdh N.inv g2 m2 boot_range ?_)
 refine PyProof.Rows.callWith_type1 ?_ hs rfl
 refine (ha pos2).run N K λ xs h1 us s1 H1 ι1 N1 n1 r1 K1 => ?_
 obtain ⟨vs, rv, qs⟩ := r1
 match xs, K1 with
 | [.int j], K1 =>
  obtain ⟨w, rfl, qw⟩ := qs.one_of
  cases (show w = .int j from qw)
  obtain ⟨u, rfl, t, rfl⟩ := Jng rv
  dsimp only at K1
  split at K1
  ·rename_i hj
   refine call_range_1 (PyProof.Rows.spliced_none ?_)
   have I2 := N1.inv.kept (h' := s1.heap.push { cls := .type "range", data := .fields #[.int 0 s1.toks, .int j t, .int 1 (s1.toks + 1)] }) (t' := s1.toks + 1 + 1) λ b o e => Heap.get?_push_of_some _ e
   refine call_list_range (n := j.toNat) hh (Heap.get?_push_size _ rfl) ?_ ?_ (by omega) λ h3 tk acc c' keep hget its => ?_
   ·exact small_one (by decide) (by decide) (by omega) (by omega)
   ·rw [rangeSize_one]
    split <;> omega
   ·have sb : (1000 : Nat) <= sizeLine := by decide
    have are : IntsAre acc.toList ((List.range j.toNat).map λ k => ((k : Nat) : Int)) := by
     refine Jxr _ _ (by simp [its.1]) λ i v hv => ?_
     obtain ⟨t, rfl⟩ := its.2 i v (by simpa using hv)
     have hi : i < j.toNat := by
      have := (List.getElem?_eq_some_iff.mp hv).1
      simp only [Array.length_toList, its.1] at this
      exact this
     exact ⟨t, by simp [List.getD_eq_getElem?_getD, hi]⟩
    rw [J2r] at K1
    have fresh : H1 (s1.heap.objs.size + 1) = none := N1.inv.hok.fresh (Nat.le_succ _)
    have hz : (s1.heap.push { cls := .type "range", data := .fields #[.int 0 s1.toks, .int j t, .int 1 (s1.toks + 1)] }).objs.size = s1.heap.objs.size + 1 := size_push' ..
    rw [hz] at hget ⊢
    have I' := N1.inv.laid (a := s1.heap.objs.size + 1) (o := .lst (((List.range j.toNat).map λ k => ((k : Nat) : Int)).map V.int)) (h' := h3) (t' := tk) (λ b o e => keep b o (Heap.get?_push_of_some _ e)) (Nat.le_succ _) ⟨by simp; omega, acc.toList, c', Jc9 are, by simpa using hget⟩
    exact finA N1 K1 (s1.heap.objs.size + 1) fresh ⟨_, Jf, Jpr _⟩ _ _ I' rfl
  ·exact Zf K1
 | [], K1 => exact Zf K1
 | [.non], K1 => exact Zf K1
 | [.bl _], K1 => exact Zf K1
 | [.ref _], K1 => exact Zf K1
 | [.str _], K1 => exact Zf K1
 | [.tup _], K1 => exact Zf K1
 | [.rol _], K1 => exact Zf K1
 | x :: _ :: _, K1 => cases x <;> exact Zf K1
end
end L3
namespace L3
open PySem PySem.Spec PyProof.Rows L2
section
variable {prog : Program} {w : World} {A : Around} {E : Value -> Shared -> Prop} {s : Shared}
theorem Jt7 {it t : Addr} {i : Nat} {items : Array Value} {x : Value} {Q : Value -> Shared -> Prop} (hit : s.heap.IsTupleIter it t i) (ht : s.heap.IsTuple t items) (hx : items[i]? = some x)
  (hQ : ∀ h', h'.IsTupleIter it t (i + 1) -> Heap.SameBut it s.heap h' -> Q x { s with heap := h' }) : wpAny (model prog w) A (Builtin.SmallTypes.nextOf (.ref it)) Q E s := by
 obtain ⟨oi, hi, ci, di⟩ := id hit
 obtain ⟨ot, hot, _, nt, dt⟩ := ht
 unfold Builtin.SmallTypes.nextOf
 refine wpAny_bind (wpAny_callSpecial?_slot (name := Str.ofString "__next__") hit.typeIs F.slot_tuple_iterator_next (wpAny_call_entry F.slot_tuple_iterator_next hit.typeIs F.entry_tuple_iterator_next ?_ (F.args_tuple_iterator_next_1 _)))
 show wpAny _ A.in1 (field (.ref it) 0 >>= _) _ _ s
 refine wpAny_bind (wpAny_field hi di (x := .ref t) rfl ?_)
 show wpAny _ A.in1 (if (Value.ref t == Value.none) = true then _ else _) _ _ s
 rw [if_neg (show ¬ (Value.ref t == Value.none) = true from Bool.false_ne_true)]
 show wpAny _ A.in1 (field (.ref it) 1 >>= _) _ _ s
 refine wpAny_bind (wpAny_field hi di (x := .int i 0) rfl ?_)
 show wpAny _ A.in1 (seqItems? (.ref t) >>= _) _ _ s
 refine wpAny_bind (wpAny_seqItems hot dt ?_); simp only [Int.toNat_natCast, hx]
 refine wpAny_bind (wpAny_setField hi di (by simp) (wpAny_pure ⟨x, rfl, wpAny_pure (hQ _ ⟨_, Heap.get?_update_self _ hi (Obj.isFreed_of_fields (Obj.data_mapFields di _)), (Obj.cls_mapFields ..).trans ci, ?_⟩ (Heap.SameBut.update ..))⟩))
 rw [Obj.data_mapFields di]; simp [rawInt]
theorem Jp8 {it t : Addr} {i : Nat} {items : Array Value} {Q : Value -> Shared -> Prop} (hh : A.handled = none) (hit : s.heap.IsTupleIter it t i) (ht : s.heap.IsTuple t items) (hx : items[i]? = none)
  (hE : ∀ h' e, Heap.ExtBut it s.heap h' -> (∃ o, h'.get? e = some o /\ o.cls = .type "StopIteration") -> E (.ref e) { s with heap := h' }) : wpAny (model prog w) A (Builtin.SmallTypes.nextOf (.ref it)) Q E s := by
 obtain ⟨oi, hi, ci, di⟩ := id hit
 obtain ⟨ot, hot, _, nt, dt⟩ := ht
 unfold Builtin.SmallTypes.nextOf
 refine wpAny_bind (wpAny_callSpecial?_slot (name := Str.ofString "__next__") hit.typeIs F.slot_tuple_iterator_next (wpAny_call_entry F.slot_tuple_iterator_next hit.typeIs F.entry_tuple_iterator_next ?_ (F.args_tuple_iterator_next_1 _)))
 show wpAny _ A.in1 (field (.ref it) 0 >>= _) _ _ s
 refine wpAny_bind (wpAny_field hi di (x := .ref t) rfl ?_)
 show wpAny _ A.in1 (if (Value.ref t == Value.none) = true then _ else _) _ _ s
 rw [if_neg (show ¬ (Value.ref t == Value.none) = true from Bool.false_ne_true)]
 show wpAny _ A.in1 (field (.ref it) 1 >>= _) _ _ s
 refine wpAny_bind (wpAny_field hi di (x := .int i 0) rfl ?_)
 show wpAny _ A.in1 (seqItems? (.ref t) >>= _) _ _ s
 refine wpAny_bind (wpAny_seqItems hot dt ?_); simp only [Int.toNat_natCast, hx]
 refine wpAny_bind (wpAny_rule (wpAny_bind (wpAny_setField hi di (by simp) ?_)))
 show wpAny _ A.in1 (newExc (.type "StopIteration") [] >>= _) _ _ _
 refine wpAny_bind ?_; simp only [newExc, newTuple]
 refine wpAny_bind (wpAny_newObj_type ?_ (by size_fits)); refine wpAny_bind (m := firstArgMember _ _) (wpAny_of_eq (a := Value.none) (by first | rfl | (simp only [firstArgMember]; rfl)) ?_)
 refine wpAny_newObj_type ?_ (by size_fits); simp only [raiseNew]
 refine wpAny_bind (wpAny_handled ?_); rw [show A.in1.handled = none from hh]
 exact wpAny_bind (wpAny_pure (wpAny_throw (hE _ _ (((Heap.SameBut.update ..).extBut.push _).push _) ⟨_, Heap.get?_push_size _ rfl, rfl⟩)))
end
theorem J3h {prog : Program} {w : World} {A : Around} (hh : A.handled = none) (it l : Addr) (hne : l ≠ it) (items : Array Value) :
  Draws prog w A it [it, l] items.size (λ i v => items[i]? = some v) (λ i h => h.IsTupleIter it l i /\ h.IsTuple l items) where
 live := λ _ _ st => let ⟨o, ho, _⟩ := st.1; ⟨o, ho⟩
 frame := λ _ _ _ st hk => ⟨st.1.at λ o e => hk it (by simp) o e, let ⟨o, e, r⟩ := st.2; ⟨o, hk l (by simp) o e, r⟩⟩
 item := λ i s Q E hi st hQ => Jt7 st.1 st.2 (x := items[i]) (by simp [hi]) λ h' hit' hs' => hQ _ h' s.toks (by simp [hi]) ⟨hit', st.2.extBut hs'.extBut hne⟩ hs'
 done := λ s Q E st hE => Jp8 hh st.1 st.2 (by simp) hE
theorem J5o {prog : Program} {w : World} {A : Around} (hh : A.handled = none) (it l : Addr) (i : Nat) (items : Array Value) (hx : items[i]? = none) :
  Draws prog w A it [it, l] i (λ _ _ => True) (λ j h => j = i /\ h.IsTupleIter it l i /\ h.IsTuple l items) where
 live := λ _ _ st => let ⟨o, ho, _⟩ := st.2.1; ⟨o, ho⟩
 frame := λ _ _ _ st hk => ⟨st.1, st.2.1.at λ o e => hk it (by simp) o e, let ⟨o, e, r⟩ := st.2.2; ⟨o, hk l (by simp) o e, r⟩⟩
 item := λ j s Q E hi st hQ => by have := st.1; omega
 done := λ s Q E st hE => Jp8 hh st.2.1 st.2.2 hx hE
open AutoSeq1 (wpAny_loadPart') in
theorem Jwf (l : Addr) (items : Array Value) (n : Nat) (dct : Option Addr) (sl : Array (Option Value)) :
  Meets (Builtin.«enumerate.__new__» ⟨[.type "enumerate", .ref l], []⟩) (λ _ R s => s.heap.get? l = some { cls := .type "tuple", dict := dct, data := .seq items n, slots := sl } /\
   R (.ok (.ret (.ref (s.heap.push { cls := .type "tuple_iterator", data := .fields #[.ref l, .int 0 0] }).objs.size)))
    { s with heap := (s.heap.push { cls := .type "tuple_iterator", data := .fields #[.ref l, .int 0 0] }).push { cls := .type "enumerate", data := .fields #[.none, .bool false, .ref s.heap.objs.size, rawInt 0, .none, .none] } }) :=
 .of_wp λ prog w A R s h => by
  obtain ⟨hp, g, d, tk, os⟩ := s; obtain ⟨hl, h⟩ := h
  have hsub := sub_enumerate; have hT : Heap.IsTuple (Shared.heap ⟨hp, g, d, tk, os⟩) l items := ⟨_, hl, rfl, n, rfl⟩
  wp_walk using wpAny_loadPart' hl
  refine wpAny_stack_any λ st => wpAny_pure ?_
  split
  ·rename_i c _ _ _ _ _
   cases (c == Value.type "enumerate") <;> (wp_walk using wpAny_loadPart' hl, wpAny_pyIter_tuple hT; exact ⟨_, rfl, h⟩)
  ·wp_walk using wpAny_loadPart' hl, wpAny_pyIter_tuple hT
   exact ⟨_, rfl, h⟩
section
variable {prog : Program} {w : World} {A : Around} {E : Value -> Shared -> Prop} {s : Shared}
theorem Juf {l : Addr} {items : Array Value} {Q : Value -> Shared -> Prop} (hT : s.heap.IsTuple l items)
  (h : ∀ h', IsEnum h' (s.heap.objs.size + 1) s.heap.objs.size 0 .none -> h'.IsTupleIter s.heap.objs.size l 0 -> (∀ b o, s.heap.get? b = some o -> h'.get? b = some o) -> Q (.ref (s.heap.objs.size + 1)) { s with heap := h' }) :
  wpAny (model prog w) A (call (.type "enumerate") [.ref l]) Q E s := by
 obtain ⟨⟨c, dct, dt, sl⟩, hl, hc, n, hd⟩ := hT
 cases (show c = .type "tuple" from hc)
 cases (show dt = .seq items n from hd)
 refine callType_new F.called_enumerate (by decide) (F.typeCall_enumerate_1 _) (F.newCall_enumerate_1 _) (λ obj => F.args_object_init_2 obj _) F.entry_enumerate_new (Jwf l items n dct sl) ⟨hl, ?_⟩
 have hz : (s.heap.push { cls := .type "tuple_iterator", data := .fields #[.ref l, .int 0 0] }).objs.size = s.heap.objs.size + 1 := Heap.size_push ..
 show _ /\ _
 rw [hz]
 have he : IsEnum ((s.heap.push { cls := .type "tuple_iterator", data := .fields #[.ref l, .int 0 0] }).push { cls := .type "enumerate", data := .fields #[.none, .bool false, .ref s.heap.objs.size, rawInt 0, .none, .none] }) (s.heap.objs.size + 1) s.heap.objs.size 0 .none := by
  have := Heap.get?_push_size (s.heap.push { cls := .type "tuple_iterator", data := .fields #[.ref l, .int 0 0] }) (o := { cls := .type "enumerate", data := .fields #[.none, .bool false, .ref s.heap.objs.size, rawInt 0, .none, .none] }) rfl
  rw [hz] at this
  exact this
 exact ⟨⟨_, he, rfl⟩, h _ he ⟨_, Heap.get?_push_of_some _ (Heap.get?_push_size _ rfl), rfl, rfl⟩ λ b o x => Heap.get?_push_of_some _ (Heap.get?_push_of_some _ x)⟩
end
section
variable {ce : Str -> Option Addr} {X : Cx}
noncomputable def IteT (K : W.Frag) (a : Addr) : It :=
 ⟨λ i H => ∃ xs x, SqT K H a xs /\ xs[i]? = some x, λ i H y H' => ∃ p x, H p = none /\ y = .ref p /\ H' = upd H p (.tup [.int (i : Int), x]) /\ ∀ xs, SqT K H a xs -> xs[i]? = some x, λ i H => ∃ xs, SqT K H a xs /\ xs.length <= i⟩
theorem Juj {P : Program} {w : World} {K : W.Frag} {es : List Expr} {k : Nat} {p : Pos} (a it e : Addr) (hne : e ≠ it) : Turn P w K (.Tuple es k p) (IteT K a) [e, it] e (λ i h => (∃ old, IsEnum h e it (i : Int) old) /\ h.IsTupleIter it a i) where
 mem := by simp
 obj := λ i h st b hb => by
  obtain ⟨⟨old, he⟩, o, e1, c, d⟩ := st
  simp only [List.mem_cons, List.not_mem_nil, or_false] at hb
  rcases hb with rfl | rfl
  ·exact ⟨_, he, λ v z => by
    have z' : Data.fields _ = Data.cell v := z
    cases z'⟩
  ·exact ⟨o, e1, λ v z => by rw [d] at z; cases z⟩
 keep := λ i h h' st k => ⟨let ⟨old, he⟩ := st.1; ⟨old, k e (by simp) _ he⟩, st.2.at λ o e => k it (by simp) o e⟩
 item := by
  intro X hP hw hK hc i pins s σ H E I hf st hg
  subst hP hw hK
  obtain ⟨⟨old, he⟩, hit⟩ := st
  obtain ⟨xs, x, hq, hx⟩ := hg
  obtain ⟨its, rv, pl, hz⟩ := I.tuple hq
  have pt : s.heap.IsTuple a its.toArray := pl
  obtain ⟨u, hu, ru⟩ := rv.get hx
  have fe := hf e (by simp)
  have fi := hf it (by simp)
  have hn : H s.heap.objs.size = none := I.hok.fresh (Nat.le_refl _)
  obtain ⟨oe, hoe⟩ : ∃ o, s.heap.get? e = some o := ⟨_, he⟩
  obtain ⟨oi, hoi, ci, di⟩ := id hit
  have nea : a ≠ it := λ z => by
   obtain ⟨oa, ha, ca, _⟩ := pt
   rw [z, hoi] at ha; cases ha
   rw [ci] at ca
   injection ca with z1
   exact absurd z1 (by decide)
  have nee : e ∉ [it, a] := λ z => by
   simp only [List.mem_cons, List.not_mem_nil, or_false] at z
   rcases z with z | z
   ·exact hne z
   ·obtain ⟨oa, ha, ca, _⟩ := pt
    have he' : s.heap.get? e = some _ := he
    rw [<- z, he'] at ha; cases ha
    injection ca with z1
    exact absurd z1 (by decide)
  have lti : i < its.toArray.size := by have := (List.getElem?_eq_some_iff.mp hu).1; simpa using this
  refine wpAny_pyNext_enum_itemD (J3h (A := X.A.in1) (I.ok.hd hc) it a nea its.toArray) he ⟨hit, pt⟩ lti hne nee λ y h' tk hy he' st' ht hsz kk => ?_
  have ey : y = u := by
   have h2 : its[i]? = some y := by simpa using hy
   rw [hu] at h2; cases h2; rfl
  subst ey
  have hit' := st'.1
  refine ⟨_, rfl, wpAny_letOwnedTupleGo_enum he' λ h2 he2 sb => ?_⟩
  have ltE : e < s.heap.objs.size := Heap.lt_size he
  have neT : s.heap.objs.size ≠ e := Nat.ne_of_gt ltE
  have k2 : ∀ b o, b ≠ e -> b ≠ it -> s.heap.get? b = some o -> h2.get? b = some o := λ b o h1 h3 q => (sb.2 b h1).trans (kk b o h1 h3 q)
  have hl2 : h2.IsTupleIter it a (i + 1) := by
   obtain ⟨o, q, r⟩ := hit'
   exact ⟨o, (sb.2 it (Ne.symm hne)).trans q, r⟩
  have t2 : h2.get? s.heap.objs.size = some { cls := .type "tuple", data := .seq #[.int i tk, y] } := (sb.2 _ neT).trans ht
  have neP : ∀ b u, H b = some u -> b ≠ s.heap.objs.size := λ b u q => Jx q hn
  have I1 : Inv X pins σ (upd H s.heap.objs.size (.tup [.int (i : Int), x])) { s with heap := h2, toks := tk + 1 } := by
   refine I.step (g' := s.gens) (d' := s.drawn) (ch := [e, it]) (λ b hb => ?_) (λ b o _ _ hc q _ => k2 b o (λ z => hc (by simp [z])) (λ z => hc (by simp [z])) q) (λ b o _ _ hc q _ => ⟨o.slots, k2 b o (λ z => hc (by simp [z])) (λ z => hc (by simp [z])) q⟩) (λ b o _ q n => ?_)
    (λ b o hc q => ⟨o, k2 b o (λ z => hc (by simp [z])) (λ z => hc (by simp [z])) q⟩) (λ b xs q => by rw [Jg (neP b _ q)]; exact q) (λ b o u q => by rw [Jg (neP b _ q)]; exact q) (λ b ps q => ⟨#[], by rw [Jg (neP b _ q), q]; simp⟩) (λ m hm => ?_) (λ b u q => ?_) I.bare
   ·simp only [List.mem_cons, List.not_mem_nil, or_false] at hb
    rcases hb with rfl | rfl
    ·exact ⟨fe.2.2.2.1, fe.2.1, fe.2.2.2.2.1, fe.2.2.2.2.2⟩
    ·exact ⟨fi.2.2.2.1, fi.2.1, fi.2.2.2.2.1, fi.2.2.2.2.2⟩
   ·rw [Jg (Nat.ne_of_lt (Heap.lt_size q))]; exact n
   ·obtain ⟨o, es, ep, ho, r⟩ := hm
    exact ⟨o, es, ep, k2 _ o (Ne.symm fe.2.1) (Ne.symm fi.2.1) ho, r⟩
   ·by_cases hb : b = s.heap.objs.size
    ·subst hb
     rw [Jf] at q
     cases q
     exact ⟨by show 2 <= sizeLine; decide, [.int i tk, y], .cons ⟨_, rfl⟩ (.cons ru .nil), ⟨_, t2, rfl, _, rfl⟩⟩
    ·rw [Jg hb] at q
     have n1 : b ≠ e := λ z => by rw [z, fe.1] at q; cases q
     have n2 : b ≠ it := λ z => by rw [z, fi.1] at q; cases q
     refine (I.hok b u q).stay (λ c v hc r => k2 c v ?_ ?_ r) (λ c q => by rw [Jg (neP c _ q)]; exact q) λ c ys q => by rw [Jg (neP c _ q)]; exact q
     ·rcases hc with z | z
      ·rw [z]; exact n1
      ·intro y; rw [y, fe.1] at z; cases z
     ·rcases hc with z | z
      ·rw [z]; exact n2
      ·intro y; rw [y, fi.1] at z; cases z
  refine ⟨.ref s.heap.objs.size, _, I1, rfl, ⟨s.heap.objs.size, x, hn, rfl, rfl, λ ys hy => by rw [I.tuple_inj hy hq]; exact hx⟩, ⟨⟨_, he2⟩, hl2⟩, λ b hb => ?_⟩
  simp only [List.mem_cons, List.not_mem_nil, or_false] at hb
  rcases hb with rfl | rfl
  ·rw [Jg (Nat.ne_of_lt ltE)]; exact fe.1
  ·rw [Jg (Nat.ne_of_lt (Heap.lt_size hoi))]; exact fi.1
 done := by
  intro X hP hw hK hc i pins s σ H E I hf st hg
  subst hP hw hK
  obtain ⟨⟨old, he⟩, hit⟩ := st
  obtain ⟨xs, hq, hx⟩ := hg
  obtain ⟨its, rv, p, hz⟩ := I.tuple hq
  obtain ⟨f0, f1, f2, f3, f4, f5⟩ := hf it (by simp)
  have hl := rv.length
  have pt : s.heap.IsTuple a its.toArray := p
  exact wpAny_pyNext_enum_endD (J5o (A := X.A.in1) (I.ok.hd hc) it a i its.toArray (by simp; omega)) he ⟨rfl, hit, pt⟩ λ h' eb => ⟨rfl, I.turned (t' := s.toks) (λ b o hb e => eb b o hb e) f0 f1 f3 f4 f5⟩
 self := λ _ _ _ _ _ st h => let ⟨_, he⟩ := st.1; wpAny_pyIter_enum he h
noncomputable def Je9 : List IV -> IH -> Res ItI
 | [.tup xs], h => .ok ⟨Jgs 0 xs, λ _ => True⟩ h
 | vs, h => Jjv vs h
theorem J28 {a : Addr} {xs : List IV} {vs : List V} {ι : List Addr} {H₀ : Hp} (ha : SqT X.K H₀ a vs) (r : RVs X.K ι H₀ xs vs) : ItOk ce X.K ι H₀ (IteT X.K a) ⟨Jgs 0 xs, λ _ => True⟩ := by
 refine ⟨λ k v h H ι' hp R hck hx => ?_, λ k h H ι' hp R hck hx => ?_⟩
 ·have hx' : (Jgs 0 xs)[k]? = some v := hx
  rw [Ji4] at hx'
  obtain ⟨x, hxk, rfl⟩ := Option.map_eq_some_iff.mp hx'
  have r1 := RVs.mono hp _ _ r
  have sa := hp.ext.sqT ha
  obtain ⟨u, hu, qu⟩ := r1.get hxk
  refine ⟨⟨vs, u, sa, hu⟩, λ y H' hy => ?_⟩
  obtain ⟨p, x', hp0, rfl, rfl, hy⟩ := hy
  have := hy vs sa
  rw [hu] at this
  cases this
  obtain ⟨R', n'⟩ := R.grow (o := .tup [.int (k : Int), u]) hp0
  refine ⟨R', n', p, _, rfl, SqT.of Jf, ⟨_, _, rfl, ?_, _, _, rfl, RV.mono n' _ _ qu, rfl⟩⟩
  show V.int (k : Int) = V.int ((0 + k : Nat) : Int)
  simp
 ·exact ⟨vs, hp.ext.sqT ha, by rw [r.length, <- Jdb xs 0]; exact hx⟩
theorem J0w {es : List Expr} {kt : Nat} {pt : Pos} {a : Expr} {ma : A1} {p pos : Pos} (hg : Gl X "enumerate") (hm : X.mg "enumerate" = none) (ha : PAi ce X [a] ma) (hs : starEach [a] X.env = [(false, eval a X.env)] := by rfl) : PIi ce X (.Tuple es kt pt) (.Call (.Name "enumerate" p) [a] [] pos) (iRg Je9 ma) := by
 intro pins s σ H ι σi h Q E N K
 by_cases ht : ∃ xs h', ma σi h = .ok [.tup xs] h'
 ·obtain ⟨xs, h', e0⟩ := ht
  refine Call_ (Jdh N.inv hg hm boot_enumerate (PyProof.Rows.callWith_type1 ?_ hs rfl))
  refine ha pos pins s σ H ι σi h _ E N ?_
  unfold iRg at K
  rw [e0] at K ⊢
  intro us s1 H1 ι1 N1 n1 r1
  obtain ⟨ws, rv, qs⟩ := r1
  obtain ⟨w, e1, q⟩ := qs.one_of
  subst e1
  obtain ⟨b, vs, rfl, sb, rb⟩ := q
  obtain ⟨u, rfl, ru⟩ := Jng rv
  cases ru
  obtain ⟨its, rv2, pl, hz⟩ := N1.inv.tuple sb
  refine Juf (show s1.heap.IsTuple b its.toArray from pl) λ h2 he hit kp => ?_
  refine wpAny_pyIter_enum he (K _ _ H1 ι1 ⟨N1.inv.kept (t' := s1.toks) kp, N1.rel, N1.st⟩ n1 ?_)
  refine ⟨s1.heap.objs.size + 1, [s1.heap.objs.size + 1, s1.heap.objs.size], _, IteT X.K b, rfl, Juj b s1.heap.objs.size (s1.heap.objs.size + 1) (Nat.ne_of_gt (Nat.lt_succ_self _)), ⟨⟨_, he⟩, hit⟩, λ c hc => ?_, J28 sb rb⟩
  simp only [List.mem_cons, List.not_mem_nil, or_false] at hc
  rcases hc with rfl | rfl
  ·exact N1.inv.fpOk (Nat.le_succ _) (N1.inv.hok.fresh (Nat.le_succ _))
  ·exact N1.inv.fpOk (Nat.le_refl _) (N1.inv.hok.fresh (Nat.le_refl _))
 ·refine J4i (es := es) (kt := kt) (pt := pt) hg hm ha hs pins s σ H ι σi h Q E N ?_
  have e : iRg Jjv ma σi h = iRg Je9 ma σi h := by
   unfold iRg
   cases e0 : ma σi h with
   | ok vs h' =>
    show Jjv vs h' = Je9 vs h'
    unfold Je9
    split
    ·exact absurd ⟨_, _, e0⟩ ht
    ·rfl
   | _ => rfl
  rw [e]
  exact K
end
end L3
namespace L3
open PySem PySem.Spec PyProof.Rows L2
noncomputable def lamOne (a : Arguments) : Option Str := match a with
 | { posonlyargs := [], args := [p], vararg := none, kwonlyargs := [], kw_defaults := [], kwarg := none, defaults := [] } => some p.arg
 | _ => none
noncomputable abbrev lamQ (q : Str) : Str := q ++ ".<locals>." ++ "<lambda>"
noncomputable def Jyc (mg : Str -> Option Value) (base : Heap) : Prop :=
 ∃ bm ob, mg "__builtins__" = some (.ref bm) /\ bm ≠ builtinsNs /\ bm ≠ mainGlobals /\ base.get? bm = some ob /\ ob.cls = .type "module" /\ ob.dict = some builtinsNs /\ ob.data = .plain
theorem Jo2.mono {H H' : Hp} {q : Str} {cv : Value} (fz : ∀ b o u, H b = some (.frz o u) -> H' b = some (.frz o u)) (l : Jo2 H q cv) : Jo2 H' q cv := by
 obtain ⟨c, oc, vs, t, e1, e2, r⟩ := l
 exact ⟨c, oc, vs, t, e1, fz _ _ _ e2, r⟩
section
variable {ce : Str -> Option Addr} {X : Cx}
end
end L3
namespace L3
open PySem PySem.Spec PyProof.Rows L2
noncomputable abbrev envL (q : Str) (scope : Scope) (L f : Addr) (cd : Value) (cl : List (Str × Addr)) : Env := newEnv scope L mainGlobals cl (lamQ q ++ ".<locals>.") (some f) cd none builtinsNs
noncomputable def cxL (X : Cx) (A : Around) (N' : List Str) (q : Str) (scope : Scope) (f : Addr) (cd : Value) (s : Shared) (H : Hp) : Cx :=
 { X with A := A.deeper (envL q scope s.heap.objs.size f cd (clOf X.env.cells scope.names [])), N := N', s₀ := s, H₀ := H, env := envL q scope s.heap.objs.size f cd (clOf X.env.cells scope.names []), outer := X.stack, stack := envL q scope s.heap.objs.size f cd (clOf X.env.cells scope.names []) :: X.stack, ex := [], calm := true, fn := λ _ => false, pn := [], xe := λ _ _ => False }
structure LamSc (N0 : List Str) (sc₀ : List (Str × NameKind)) (x : Str) (caps : List Str) (js : List Nat) (scope : Scope) : Prop where
 kind : scope.kind = .function
 co : scope.isCoroutine = false
 gen : scope.isGenerator = false
 nocell : ∀ y ∈ scope.names, y.2 ≠ .cell
 par : scope.names.lookup x = some .local
 free : ∀ y ∈ scope.names, y.2 = .free -> sc₀.lookup y.1 = some .cell
 fr : ∀ y, scope.names.lookup y = some .free -> (y, .free) ∈ scope.names
 cap : ∀ (k j : Nat) (y : Str), js[k]? = some j -> caps[k]? = some y -> N0[j]? = some y /\ scope.names.lookup y = some .free
 len : js.length = caps.length
 nd : (x :: caps).Nodup
section
variable {ce : Str -> Option Addr} {X : Cx}
end
end L3
namespace L3
open PySem PySem.Spec PyProof.Rows L2
noncomputable def gtZ : IV -> IV -> Option Bool
 | .int a, .int b => some (decide (a > b))
 | _, _ => none
theorem FpOk.more {X : Cx} {pins : List (Addr × Obj)} {H : Hp} {b : Addr} {p : Addr × Obj} (F : FpOk X pins H b) (ne : p.1 ≠ b) : FpOk X (pins ++ [p]) H b := by
 refine ⟨F.1, F.2.1, F.2.2.1, F.2.2.2.1, F.2.2.2.2.1, λ q hq => ?_⟩
 rcases List.mem_append.mp hq with z | z
 ·exact F.2.2.2.2.2 q (List.mem_append_left _ z)
 ·rcases List.mem_append.mp z with z | z
  ·exact F.2.2.2.2.2 q (List.mem_append_right _ z)
  ·rw [List.mem_singleton.mp z]
   exact ne
theorem FpOk.at {X : Cx} {pins : List (Addr × Obj)} {H H' : Hp} {b : Addr} (F : FpOk X pins H b) (n : H' b = none) : FpOk X pins H' b := ⟨n, F.2⟩
section
variable {ce : Str -> Option Addr} {X : Cx}
section
variable {A : Around} {R : Result -> Shared -> Prop} {Q : Value -> Shared -> Prop} {E : Value -> Shared -> Prop} {pins : List (Addr × Obj)} {σi : ISt} {σ : L2.St} {G : Hp -> Prop} {fq : Addr} {mk : IV -> IH -> Res IV} {gt : IV -> IV -> Option Bool} {i n : Nat} {l I C : Addr} {kw : List (Str × Value)}
end
theorem Kont.more {α β : Type} {R : REL α β} {pins pl : List (Addr × Obj)} {ι : List Addr} {σi : ISt} {σ : L2.St} {H : Hp} {r : Res α} {Q : β -> Shared -> Prop} {E : Value -> Shared -> Prop} (K : Kont ce X R pins ι σi σ H r Q E) : Kont ce X R (pins ++ pl) ι σi σ H r Q E := by
 cases r with
 | ok v h' => exact λ u s' H' ι' N n q => K u s' H' ι' N.pins n q
 | exc m h' => exact λ pl' a s' H' ι' N n q => K (pl ++ pl') a s' H' ι' (by rw [<- List.append_assoc]; exact N) n q
 | stuck => exact K
end
end L3
namespace L3
open PySem PySem.Spec PyProof.Rows L2
noncomputable def bmV : List Value := [.type "ValueError", .type "Exception", .type "BaseException", .type "object"]
noncomputable def XCls (K : W.Frag) (C : Addr) : Prop := W.excIn K C bmV "ValueError.__new__" = true
theorem XCls.obj {K : W.Frag} {C : Addr} {h : Heap} (x : XCls K C) (I : K.In h) : ∃ bm N nm q bs hdct sn sub ab col dd k0 k1 k2 k3 k5 mN, h.get? C = some (excClassObj nm q C N bs bm hdct sn sub ab col dd k0 k1 k2 k3 k5 "ValueError.__new__") /\ h.Ns N mN /\ mN "__init__" = none /\ OwnTail h bmV bm := by
 unfold XCls W.excIn at x
 split at x
 case h_2 => cases x
 rename_i dd cd sl ho
 split at x
 case h_2 => cases x
 rename_i D bm k0 k1 k2 k3 n k5 em es
 simp only [Bool.and_eq_true, beq_iff_eq, Bool.not_eq_true'] at x
 obtain ⟨⟨⟨⟨⟨e1, e2⟩, e3⟩, e4⟩, e5⟩, e6⟩ := x
 subst e1 e2
 obtain ⟨nm, bs, mro, N, qn, hd, sn, sub, ab, col, del⟩ := cd
 have em : mro = .ref D :: bm := em
 have e3 : del = false := e3
 subst em e3
 have es : sl = #[k0, k1, k2, k3, some (.builtin "ValueError.__new__"), k5] := by
  rw [<- Array.toArray_toList (xs := sl), es]
 subst es
 exact ⟨bm, N, nm, qn, bs, hd, sn, sub, ab, col, dd, k0, k1, k2, k3, k5, _, I _ _ ho, .of_isNs (W.isNs_of_in I e5), W.nsMap_none_of_in I e5 e6, W.tail_of_in I e4⟩
section
variable {ce : Str -> Option Addr} {X : Cx} {C : Addr} {x c : Str} {np cpos pos : Pos} {e : Expr} {es : List Expr} {ma : A1}
end
noncomputable abbrev Jee (X : Cx) (a : Addr) : Cx := { X with A := X.A.mark (some (.ref a)), calm := false }
section
variable {ce : Str -> Option Addr} {X : Cx} {a C : Addr} {pins : List (Addr × Obj)} {σ : L2.St} {H : Hp} {s : Shared} {ι : List Addr} {σi : ISt} {h : IH} {n : Nat} {c : Str} {fs : List (Str × IV)} {tv : Value}
end
noncomputable abbrev HdI := (Str -> Option Bool) × Option Nat × S1
noncomputable def J00 (sl : Option Nat) (x : Option IV) (σ : ISt) : ISt := match sl with
 | some i => σ.set i x
 | none => σ
noncomputable def SRes.drop (sl : Option Nat) (r : SRes) : SRes := match r with
 | .next σ h => .next (J00 sl none σ) h
 | .brk σ h => .brk (J00 sl none σ) h
 | .cont σ h => .cont (J00 sl none σ) h
 | .ret v h => .ret v h
 | _ => .stuck
structure HdOk (ce : Str -> Option Addr) (X : Cx) (t : Expr) (nm : Option Str) (suite : List Stmt) (f : Str -> Option Bool) (sl : Option Nat) (m : S1) : Prop where
 test : ∀ (a : Addr) (c : Str) (C : Addr) (b : Bool) (pins : List (Addr × Obj)) (σ : L2.St) (H : Hp) (s : Shared) (Q : Bool -> Shared -> Prop) (E : Value -> Shared -> Prop), f c = some b -> W.nsIn X.K mainGlobals c = some (some (.ref C)) -> Inv (Jee X a) pins σ H s -> (∃ oe, s.heap.get? a = some oe /\ oe.cls = .ref C) -> Q b s ->
  wpAny (model X.prog X.w) (Jee X a).A (eval t X.env) (λ v s₁ => wpAny (model X.prog X.w) (Jee X a).A (excMatches (.ref a) v) Q E s₁) E s
 nm : (nm = none /\ sl = none) ∨ ∃ n i, nm = some n /\ sl = some i /\ X.N[i]? = some n /\ X.env.kindOf n = some .local
 run : ∀ a, PS2 ce (Jee X a) suite m
inductive HdsOk (ce : Str -> Option Addr) (X : Cx) : List ExceptHandler -> List HdI -> Prop
 | nil : HdsOk ce X [] []
 | cons {t : Expr} {nm : Option Str} {b₀ : Stmt} {suite : List Stmt} {pos : Pos} {f : Str -> Option Bool} {sl : Option Nat} {m : S1} {hs : List ExceptHandler} {ms : List HdI} : HdOk ce X t nm (b₀ :: suite) f sl m -> HdsOk ce X hs ms -> HdsOk ce X (.ExceptHandler (some t) nm (b₀ :: suite) pos :: hs) ((f, sl, m) :: ms)
section
variable {ce : Str -> Option Addr} {X : Cx}
end
section
variable {ce : Str -> Option Addr} {X : Cx}
end
end L3
namespace L3
open PySem PySem.Spec PyProof.Rows L2
section
variable {ce : Str -> Option Addr} {X : Cx}
noncomputable def slT : IV -> Option Int -> Option Int -> IH -> Res IV
 | .str x, lo, hi, h => if x.length <= sizeLine then .ok (.str (Txt.slice x lo hi)) h else .stuck
 | x, lo, hi, h => slI x lo hi h
theorem x_slT : SlI ce X slT := by
 intro pins s σ H ι σi h x v vl vu lo hi sl Q E N rx hs pl pu K
 cases x with
 | str x =>
  obtain ⟨xv, rx, qx⟩ := rx
  cases (show xv = .str x from qx)
  obtain ⟨t, rfl⟩ := rx
  dsimp only [slT] at K
  split at K
  ·rename_i hz
   refine ⟨"str", _, F.slot_str_getitem.lookup, typeIs_str _ _ _, ?_⟩
   cases pl with
   | none =>
    cases pu with
    | none => exact wpAny_getItem_str_slice (l := none) (u := none) (st := none) hs rfl (post_val_or_str ⟨Nat.le_trans (Txt.slice_le x _ _) hz, λ t' k => fin0 N K rfl _ _ (N.inv.tok _) ⟨_, rfl⟩⟩)
    | int j tj => exact wpAny_getItem_str_slice (l := none) (u := some (j, tj)) (st := none) hs rfl (post_val_or_str ⟨Nat.le_trans (Txt.slice_le x _ _) hz, λ t' k => fin0 N K rfl _ _ (N.inv.tok _) ⟨_, rfl⟩⟩)
   | int i ti =>
    cases pu with
    | none => exact wpAny_getItem_str_slice (l := some (i, ti)) (u := none) (st := none) hs rfl (post_val_or_str ⟨Nat.le_trans (Txt.slice_le x _ _) hz, λ t' k => fin0 N K rfl _ _ (N.inv.tok _) ⟨_, rfl⟩⟩)
    | int j tj => exact wpAny_getItem_str_slice (l := some (i, ti)) (u := some (j, tj)) (st := none) hs rfl (post_val_or_str ⟨Nat.le_trans (Txt.slice_le x _ _) hz, λ t' k => fin0 N K rfl _ _ (N.inv.tok _) ⟨_, rfl⟩⟩)
  ·exact Zf K
 | _ => exact x_sl pins s σ H ι σi h _ v vl vu lo hi sl Q E N rx hs pl pu K
end
end L3
namespace L3
open PySem PySem.Spec PyProof.Rows L2
theorem Jvn (a : Value) : argsOk "max" ⟨[a], []⟩ := by unfold argsOk; kernel_rfl
section
variable {ce : Str -> Option Addr} {X : Cx}
noncomputable def Juc : IV -> IH -> Res IV
 | .ref i, h => match h[i]? with
  | some (.lst xs) => (match Jdq xs with
   | some ns => if ns = [] then .stuck else .ok (.int (Jcf (λ i => ns.getD i 0) ns.length)) h
   | none => .stuck)
  | _ => .stuck
 | _, _ => .stuck
theorem J4n (hh : X.A.handled = none) : Ji1 ce X (.builtin "max") (on1 Juc) := Jpp λ pins s σ H ι σi h x xv u Q E N ru qx K => by
 cases x with
 | ref i =>
  obtain ⟨a, e1, ha⟩ := qx
  subst e1
  cases ru
  dsimp only [Juc] at K
  cases hi : h[i]? with
  | none => rw [hi] at K; exact Zf K
  | some ob =>
   rw [hi] at K
   cases ob with
   | lst xs =>
    dsimp only at K
    cases hb : Jdq xs with
    | none => rw [hb] at K; exact Zf K
    | some ns =>
     rw [hb] at K
     dsimp only at K
     split at K
     ·exact Zf K
     ·rename_i hne
      obtain ⟨vs, e1, r1⟩ := N.at hi ha
      obtain ⟨its, rv, pl, hz⟩ := N.inv.list (SqL.of e1)
      refine Jva (d := none) rfl (Jvn _) (λ q => absurd q hne) hh pl.isList (Jkk hb r1 rv) λ v h2 tk mi kk => ?_
      rcases mi with ⟨e, _⟩ | ⟨_, t, ev⟩
      ·exact absurd e hne
      ·subst ev
       exact fin0 N K rfl _ _ (N.inv.kept (t' := tk) kk) ⟨t, rfl⟩
   | _ => exact Zf K
 | _ => exact Zf K
noncomputable def Jul : IV -> IH -> Res IV
 | .ref i, h => match h[i]? with
  | some (.dct kvs) => .ok (.int kvs.length) h
  | _ => .stuck
 | _, _ => .stuck
theorem J3d : Ji1 ce X (.builtin "len") (on1 Jul) := Jpp λ pins s σ H ι σi h x xv u Q E N ru qx K => by
 cases x with
 | ref i =>
  obtain ⟨a, e1, ha⟩ := qx
  subst e1
  cases ru
  dsimp only [Jul] at K
  cases hi : h[i]? with
  | none => rw [hi] at K; exact Zf K
  | some ob =>
   rw [hi] at K
   cases ob with
   | dct kvs =>
    obtain ⟨ws, e1, r1⟩ := N.at hi ha
    refine d_len N.inv (.of e1) λ t s' I' => ?_
    rw [r1.length]
    exact fin0 N K rfl _ _ I' ⟨_, rfl⟩
   | _ => exact Zf K
 | _ => exact Zf K
structure BasK (K : W.Frag) (C : Addr) : Prop where
 sp : W.specialIn K (.ref C) "__getattribute__" = some (some (.builtin "type.__getattribute__"))
 rd : W.readsIn K C (.type "type") = true
 fc : ∃ fa, W.findIn K (.ref C) "__init__" = some (some (.ref fa)) /\ W.findCls K (.ref C) (.type "type") "__init__" = some (.val (.ref fa)) /\ W.keepIn K (.ref fa) = true
variable {k : Nat} {fa C : Addr} {fd : FuncData} {ps : List Str} {f : List IV -> IH -> Res IV} {dvs : List IV} {ds : List Value} {x : Str} {p pos apos : Pos} {e : Expr} {es : List Expr} {ma : A1} {pl : Sem Bool}
theorem J39 (F : FnOk X.prog X.w X.K X.mg X.base (CXI X.prog X.w) k fa fd ps (spI ce X.K ps f)) (hr : Room k X.A) (hg : Gl X x) (hm : X.mg x = some (.ref C)) (B : BasK X.K C) (M : Mk X.K C fa) (hb : Jgr X.K fd ps ds) (hd : ∃ vs, Vals vs ds /\ ∀ ι H, RVs X.K ι H dvs vs)
  (ha : PAi ce X (e :: es) ma) (hlen : ∀ σ h xs h', ma σ h = .ok xs h' -> xs.length + ds.length = ps.length) (hdb : (x == ("__debug__" : Str)) = false := by decide) (he : starEach (e :: es) X.env = (false, eval e X.env) :: starEach es X.env := by rfl) (hpl : (backTo pos (starEach es X.env)).any (·.1) = false := by rfl)
  (ht : eval (.Call (.Attribute (.Name x p) "__init__" apos) (e :: es) [] pos) X.env = (do
   let ov <- eval (.Name x p) X.env
   standAt apos.atName
   let (f, first) <- holding [ov] (getMethod ov "__init__" pl)
   callWith pos f first (backTo pos (starEach (e :: es) X.env)) (backToKw pos (keywordEach [] X.env))) := by rfl) :
  PEi ce X (.Call (.Attribute (.Name x p) "__init__" apos) (e :: es) [] pos) (Jn f dvs ma) := by
 intro pins s σ H ι σi h Q E N K
 obtain ⟨fa', f1, f2, hk⟩ := B.fc
 have ef : fa' = fa := by
  have := f1.symm.trans M.init
  cases this
  rfl
 subst ef
 refine W.methodCall_KW (pl := pl) (Jh1 N.inv hg hm ?_ hdb) ht
 refine W.method_cls N.inv.kIn B.sp (W.cls_value N.inv.kIn B.rd f2 rfl ?_)
 have N' : Now ce X pins ι σi h σ H { s with toks := s.toks + 1 } := ⟨N.inv.tok _, N.rel, N.st⟩
 refine W.callWith_K (h₀ := X.base) N.inv.ok.mod.kin hk ?_ he hpl
 have K' := K
 unfold Jn at K'
 refine ha pos pins _ σ H ι σi h _ E N' ?_
 cases e0 : ma σi h with
 | exc n h' => rw [e0] at K'; exact K'
 | stuck => rw [e0] at K'; exact K'
 | ok xs h' =>
  rw [e0] at K'
  intro us s1 H1 ι1 N1 n1 r1
  have hl : xs.length = us.length := by
   obtain ⟨vs, rv, q⟩ := r1
   rw [<- rv.length, q.length]
  have hl2 := hlen σi h xs h' e0
  exact ⟨N1.inv.kIn, Jmx (us := us) F hr hb hd (by omega) N1 r1 (Kont.mono (r := f (xs ++ dvs) h') K' n1)⟩
end
end L3
namespace L3
open PySem PySem.Spec PyProof.Rows L2
section
variable {prog : Program} {w : World} {A : Around} {E : Value -> Shared -> Prop} {s : Shared} {x y : Str} {t u : Tok} {Q : Value -> Shared -> Prop}
open Builtin Builtin.Str in
end
noncomputable def onTT (f : Str -> Str -> IH -> Res IV) : IV -> List IV -> IH -> Res IV
 | .str x, [.str y], h => f x y h
 | _, _, _ => .stuck
section
variable {ce : Str -> Option Addr} {X : Cx}
noncomputable def intTI : IV -> IH -> Res IV
 | .str x, h => if x.length <= 640 then (match PySem.intText? x with
  | some n => .ok (.int n) h
  | none => .stuck) else .stuck
 | v, h => intI v h
end
end L3
namespace L4
open PySem PySem.Spec PyProof.Rows L2 L3
noncomputable def stE : E1 := λ _ _ => .stuck
noncomputable def stT : T1 := λ _ _ => .stuck
noncomputable def stO : O1 := λ _ _ => .stuck
noncomputable def stI : I1 := λ _ _ => .stuck
noncomputable def stG : G1 := λ _ _ _ => .stuck
noncomputable def stS : S1 := λ _ _ => .stuck
structure Fn where
 np : Nat
 dvs : List IV
 run : List IV -> IH -> Res IV
structure Pg where
 fn : Str -> Option Fn
 cls : Str -> Option Fn
 meth : Str -> Str -> Option Fn
 con : Str -> Option IV
 isa : Str -> Option (Str -> Bool)
 fld : Str -> Bool
 free : Str -> Bool
 tabs : Str -> Option Nat
 rz : Str -> Bool
 bas : Str -> Bool
 xi : Str -> Option (Str -> Option Bool)
structure Sc where
 N : List Str
 names : List (Str × NameKind)
 own : Bool
 q : Str
noncomputable def ixOf (x : Str) : List Str -> Option Nat
 | [] => none
 | y :: r => if y == x then some 0 else (ixOf x r).map (· + 1)
noncomputable def Sc.vis (S : Sc) (x : Str) : Option Nat :=
 match S.names.lookup x with
 | some .local => if x == "__debug__" || x == "__classdict__" then none else ixOf x S.N
 | some .cell => if x == "__debug__" || x == "__classdict__" then none else ixOf x S.N
 | some .free => if x == "__debug__" || x == "__classdict__" then none else ixOf x S.N
 | _ => none
noncomputable def Sc.gl (S : Sc) (x : Str) : Bool := S.names.lookup x == some .globalImplicit && !(x == "__debug__") && !(x == "__name__")
noncomputable def Sc.sto (S : Sc) (x : Str) : Option Nat :=
 match S.names.lookup x with
 | some .local => ixOf x S.N
 | some .cell => if S.own then ixOf x S.N else none
 | _ => none
noncomputable def evC : Const -> E1
 | .int i => eC (.int i)
 | .bool b => eC (.bl b)
 | .none => eC .non
 | .str x => eC (.str x)
 | _ => stE
noncomputable def binI : Operator -> IV -> IV -> IH -> Res IV
 | .Add => Jo
 | .Sub => Jnk
 | .Mult => Jfx
 | .FloorDiv => Jaj
 | .Mod => Ju
 | .Pow => Jiy
 | _ => λ _ _ _ => .stuck
noncomputable def cmpI : CmpOp -> IV -> IV -> IH -> Res IV
 | .Lt => cLt
 | .LtE => cLe
 | .Gt => cGt
 | .GtE => cGe
 | .Eq => cEq
 | .NotEq => cNe
 | .Is => cIs
 | .IsNot => Jwv
 | .In => cIn
 | .NotIn => Jvx
noncomputable def unI : UnaryOp -> IV -> IH -> Res IV
 | .Not => Jub tru
 | .USub => J1s
 | _ => λ _ _ => .stuck
noncomputable def Jyw : List E1 -> E1
 | [] => stE
 | [a] => a
 | a :: b :: r => eAnd a (Jyw (b :: r)) tru
noncomputable def eOrs : List E1 -> E1
 | [] => stE
 | [a] => a
 | a :: b :: r => eOr a (eOrs (b :: r)) tru
noncomputable def Jy3 : List T1 -> T1
 | [] => stT
 | [a] => a
 | a :: b :: r => Jtw a (Jy3 (b :: r))
noncomputable def tOrs : List T1 -> T1
 | [] => stT
 | [a] => a
 | a :: b :: r => tOrI a (tOrs (b :: r))
noncomputable def aAll : List E1 -> A1
 | [] => aNil
 | a :: r => Ja a (aAll r)
noncomputable def Jh : Expr -> Bool
 | .Starred .. => false
 | _ => true
noncomputable def Ju1 : Expr -> Bool
 | .Set .. => false
 | _ => true
noncomputable def Jpt : Expr -> Bool
 | .Slice .. => false
 | _ => true
noncomputable def Jf7 : Expr -> Bool
 | .ListComp .. => false
 | .SetComp .. => false
 | .DictComp .. => false
 | _ => true
noncomputable def Jdm : Expr -> Bool
 | .Call (.Name ..) [] [] _ => false
 | _ => true
noncomputable def isM1 : Expr -> Bool
 | .UnaryOp .USub (.Constant (.int 1) _ _) _ => true
 | _ => false
noncomputable def Fn.fill (f : Fn) (n : Nat) : Option (List IV) := if n <= f.np /\ f.np <= n + f.dvs.length then some (f.dvs.drop (f.dvs.length - (f.np - n))) else none
noncomputable def Jl5 (f : Fn) (n : Nat) (a : A1) : E1 := match f.fill n with
 | some d => Jn f.run d a
 | none => stE
noncomputable def Js3 (c : Str) (f : Fn) (n : Nat) (a : A1) : E1 := match f.fill (n + 1) with
 | some d => Jmc c f.run d a
 | none => stE
noncomputable def bltF (x : Str) : List IV -> IH -> Res IV :=
 if x == "len" then on1 lenI else if x == "all" then on1 allI else if x == "sum" then on1 sumI else if x == "sorted" then on1 Jkg else if x == "min" then on1 Jun else if x == "max" then on1 Juc else λ _ _ => .stuck
noncomputable def bltT (x : Str) : List IV -> IH -> Res IV :=
 if x == "list" then on1 Jqv else if x == "tuple" then on1 Jm1 else λ _ _ => .stuck
noncomputable def Jxn (x : Str) : Bool := x == "len" || x == "all" || x == "sum" || x == "sorted" || x == "min" || x == "max"
noncomputable def Jws (x : Str) : Bool := x == "list" || x == "tuple"
noncomputable def Jza (P : Pg) (x : Str) : Option (Ty -> Option Bool) :=
 match P.isa x with
 | some g => some λ t => match t with | .ins c => some (g c) | .exc _ => none | _ => some false
 | none => if P.free x then (if x == "int" then some Je1 else if x == "bool" then some Jaz else if x == "str" then some Jgc else if x == "list" then some Jbl else if x == "tuple" then some Jfp else none) else none
noncomputable def J2f (o : Option (Ty -> Option Bool)) (e : E1) : E1 := match o with
 | some ans => eIsi ans e
 | none => stE
noncomputable def bmOf (T : String) (m : Str) (n : Nat) : Option (IV -> List IV -> IH -> Res IV) :=
 if T == "list" && m == "append" && n == 1 then some Jj8 else if T == "str" && m == "join" && n == 1 then some Juq else if T == "dict" && m == "setdefault" && n == 2 then some Jf8 else none
noncomputable def Jke (P : Pg) (m : Str) (n : Nat) : Str -> Option ((List IV -> IH -> Res IV) × List IV) := λ c => match P.meth c m with
 | some f => (match f.fill (n + 1) with
  | some d => some (f.run, d)
  | none => none)
 | none => none
noncomputable def Jqo (v : IV) (h : IH) : Bool := match v with
 | .ref i => (match h[i]? with
  | some (.ins ..) => true
  | _ => false)
 | _ => false
noncomputable def tyS (v : IV) (h : IH) : String := match v with
 | .str _ => "str"
 | .rol _ => "list"
 | .ref i => (match h[i]? with
  | some (.lst _) => "list"
  | some (.dct _) => "dict"
  | _ => "")
 | _ => ""
noncomputable def eDot (P : Pg) (m : Str) (n : Nat) (o : E1) (a : A1) : E1 := λ σ h => match o σ h with
 | .ok v h1 => if Jqo v h1 then Jx9 m (Jke P m n) o a σ h else (match bmOf (tyS v h1) m n with
  | some g => eBm (tyS v h1) g o a σ h
  | none => .stuck)
 | _ => .stuck
noncomputable def J4o (n : Nat) (a : A1) : I1 := match n with
 | 1 => iRg Jb4 a
 | 2 => iRg Jl8 a
 | _ => stI
noncomputable def gAll : List G1 -> List IV -> ISt -> IH -> SRes
 | [] => gN
 | g :: r => gC g (gAll r)
noncomputable def Jo7 (sc : Scope) : List Str := sc.names.filterMap λ x => if x.2 == .local && !(x.1 == (".0" : Str)) then some x.1 else none
noncomputable def Jnj (sc : Scope) : List Str := sc.names.filterMap λ x => if x.2 == .free then some x.1 else none
noncomputable def jsOf (S : Sc) (sc : Scope) : List Nat := (Jnj sc).map λ x => (ixOf x S.N).getD 0
noncomputable def Sc.comp (S : Sc) (sc : Scope) : Sc where
 N := Jo7 sc ++ Jnj sc
 names := sc.names.map λ x => if x.2 == .free && S.names.lookup x.1 == some .cell then (x.1, .cell) else x
 own := false
 q := ""
noncomputable def J2n (S : Sc) (x : Str) (sc : Scope) : Bool :=
 sc.kind == .function && !sc.isCoroutine && !sc.isGenerator && sc.names.all (λ y => !(y.2 == .cell)) && sc.names.lookup x == some .local && sc.names.all (λ y => !(y.2 == .free) || S.names.lookup y.1 == some .cell)
  && (Jnj sc).all (λ y => decide (S.N[(ixOf y S.N).getD 0]? = some y) && sc.names.lookup y == some .free) && decide (x :: Jnj sc).Nodup
noncomputable def Sc.fake (S : Sc) : Scope := { kind := .function, names := S.names, isGenerator := false, isCoroutine := false }
noncomputable def Jv5 : Expr -> Bool
 | .Name x _ => x == "last_come" || x == "tops" || x == "last" || x == "_law_last"
 | _ => false
noncomputable def ixD (a : Expr) : IV -> IV -> IH -> Res IV := if Jv5 a then Jox else opIx
noncomputable def txtB : Expr -> Bool
 | .Name x _ => x == "_law_word_here"
 | .Subscript .. => true
 | _ => false
noncomputable def slD (a : Expr) : IV -> Option Int -> Option Int -> IH -> Res IV := if txtB a then slT else slI
noncomputable def cmpD (o : CmpOp) (b : Expr) : IV -> IV -> IH -> Res IV := match o with
 | .In => if Jv5 b then cInD else cIn
 | o => cmpI o
noncomputable def gSbF (a : Expr) (o i : E1) : G1 := if Jv5 a then gSbD o i else gSb o i
noncomputable def Jz1 : Expr -> Option Expr
 | .Call (.Name y _) [e] [] _ => if y == "set" && Jh e then some e else none
 | _ => none
noncomputable def J0h : Expr -> Option Expr
 | .Call (.Name y _) [e] [] _ => if y == "range" && Jh e then some e else none
 | _ => none
noncomputable def dctB : Expr -> Bool
 | .Call (.Name y _) _ _ _ => y == "ceilings"
 | _ => false
noncomputable def Jpk (P : Pg) (S : Sc) (x : Str) (f : Expr -> E1) : List Expr -> E1
 | [a, b] => if x == "max" then eCB (on2 maxI) (Ja (f a) (Ja (f b) aNil)) else if x == "min" then eCB (on2 minI) (Ja (f a) (Ja (f b) aNil)) else (match b with
  | .Name y _ => if x == "isinstance" && S.gl y then J2f (Jza P y) (f a) else stE
  | _ => stE)
 | [a] => (match (if x == "len" && S.gl "set" && P.free "set" then Jz1 a else none) with
  | some e => Jmq (Ja (f e) aNil)
  | none => match (if x == "list" && S.gl "range" && P.free "range" then J0h a else none) with
  | some e => eLR (Ja (f e) aNil)
  | none => if x == "len" && dctB a then eCB (on1 Jul) (Ja (f a) aNil) else if Jxn x then eCB (bltF x) (Ja (f a) aNil) else if Jws x then eCB (bltT x) (Ja (f a) aNil) else stE)
 | _ => stE
noncomputable def Jw0 (P : Pg) (S : Sc) (f : Sc -> Expr -> E1) (x : Str) (args : List Expr) (kws : List Keyword) : E1 := match args, kws with
 | [a], [⟨some k, d, _⟩] => if x == "max" && k == "default" && S.gl x && P.free x && Jh a then Jv6 (Ja (f S a) aNil) (f S d) else stE
 | _, _ => stE
noncomputable def Js8 (P : Pg) (S : Sc) (m : Str) : Expr -> Option Fn
 | .Name x _ => if m == "__init__" && S.gl x && P.bas x then P.cls x else none
 | _ => none
noncomputable def J2q (P : Pg) (m : Str) (n : Nat) (b : Option Fn) (o : E1) (a : A1) : E1 := match b with
 | some f => if n = 0 then stE else Jl5 f n a
 | none => eDot P m n o a
noncomputable def Jxo (ifs : List Expr) (f : Expr -> T1) (m : T1 -> E1) : E1 := match ifs with
 | [] => m Ja2
 | [c] => m (f c)
 | _ => stE
noncomputable section
mutual
noncomputable def ev (P : Pg) : Nat -> Sc -> Expr -> E1
 | 0, _, _ => stE
 | n + 1, S, e => match e with
  | .Constant c _ _ => evC c
  | .Name x _ => (match S.vis x with
   | some i => eVar i
   | none => if S.gl x then (match P.con x with
    | some v => eC v
    | none => stE) else stE)
  | .BinOp a op b _ => eBin (binI op) (ev P n S a) (ev P n S b)
  | .UnaryOp op a _ => eUn (unI op) (ev P n S a)
  | .BoolOp .And vs _ => Jyw (vs.map (ev P n S))
  | .BoolOp .Or vs _ => eOrs (vs.map (ev P n S))
  | .IfExp t a b _ => eIf (evT P n S t) (ev P n S a) (ev P n S b)
  | .Compare a [o] [b] _ => if behindInMarks o b then stE else eBin (cmpD o b) (ev P n S a) (ev P n S b)
  | .Compare a [o, o'] [b, c] _ => if lastMarks [o, o'] [b, c] then stE else Je2 (cmpI o) (cmpI o') (ev P n S a) (ev P n S b) (ev P n S c)
  | .Tuple es _ _ => if es.all Jh then eTup (aAll (es.map (ev P n S))) else stE
  | .Dict [] [] _ => Ju7
  | .Dict [some k] [v] _ => J5x (ev P n S k) (ev P n S v)
  | .List es _ => if es.all Jh then eLst (aAll (es.map (ev P n S))) else stE
  | .Subscript a (.Slice lo hi none _) _ => eSl (slD a) (ev P n S a) (evO P n S lo) (evO P n S hi)
  | .Subscript a i _ => if Jpt i then eBin (ixD a) (ev P n S a) (ev P n S i) else stE
  | .Attribute o f _ => if Jdm o && P.fld f then eFld f (ev P n S o) else stE
  | .Call (.Name x _) args [] _ => if S.gl x && args.all Jh then Jxf P n S x args else stE
  | .Call (.Name x _) args (kw :: kws) _ => Jw0 P S (λ S e => ev P n S e) x args (kw :: kws)
  | .Call (.Attribute o m ap) args [] p => if args.all Jh && Jdm o && (ap.endLine == p.line) && decide (args.length < 30) then J2q P m args.length (Js8 P S m o) (ev P n S o) (aAll (args.map (ev P n S))) else stE
  | .ListComp elt [⟨tg, iter, ifs, as⟩] sc _ =>
   if as = 0 /\ Ju1 iter = true /\ Je0 S.N (Jo7 sc) (Jnj sc) (jsOf S sc) S.fake sc = true then
    Jxo ifs (evT P n (S.comp sc)) λ mt => Jy (evI P n S tg iter) (Jo7 sc).length (jsOf S sc) (tgt P n (S.comp sc) tg) mt (ev P n (S.comp sc) elt)
   else stE
  | _ => stE
noncomputable def evT (P : Pg) : Nat -> Sc -> Expr -> T1
 | 0, _, _ => stT
 | n + 1, S, e => match e with
  | .UnaryOp .Not a _ => Jb6 (evT P n S a)
  | .BoolOp .And vs _ => Jy3 (vs.map (evT P n S))
  | .BoolOp .Or vs _ => tOrs (vs.map (evT P n S))
  | .IfExp .. => stT
  | .Compare a [o] [b] _ => if behindInMarks o b then stT else tOfB asB (eBin (cmpD o b) (ev P n S a) (ev P n S b))
  | .Compare a [o, o'] [b, c] _ => if lastMarks [o, o'] [b, c] then stT else tOfB asB (Je2 (cmpI o) (cmpI o') (ev P n S a) (ev P n S b) (ev P n S c))
  | .Compare .. => stT
  | e => tOfB tru (ev P n S e)
noncomputable def evO (P : Pg) : Nat -> Sc -> Option Expr -> O1
 | 0, _, _ => stO
 | _ + 1, _, none => Jpg
 | n + 1, S, some e => Jld (ev P n S e)
noncomputable def Jxf (P : Pg) : Nat -> Sc -> Str -> List Expr -> E1
 | 0, _, _, _ => stE
 | n + 1, S, x, args => match P.fn x with
  | some f => Jl5 f args.length (aAll (args.map (ev P n S)))
  | none => match P.cls x with
   | some f => Js3 x f args.length (aAll (args.map (ev P n S)))
   | none => if P.free x then Jpk P S x (ev P n S) args else stE
noncomputable def evI (P : Pg) : Nat -> Sc -> Expr -> Expr -> I1
 | 0, _, _, _ => stI
 | n + 1, S, tg, e => match e with
  | .Call (.Name x _) args [] _ =>
   if S.gl x && P.free x && args.all Jh && (x == "range") then J4o args.length (aAll (args.map (ev P n S)))
   else if S.gl x && P.free x && args.all Jh && (x == "enumerate") then (match tg, args with
    | .Tuple .., [a] => iRg Je9 (Ja (ev P n S a) aNil)
    | _, _ => stI)
   else iAny (ev P n S e)
  | e => iAny (ev P n S e)
noncomputable def tgt (P : Pg) : Nat -> Sc -> Expr -> G1
 | 0, _, _ => stG
 | n + 1, S, e => match e with
  | .Name x _ => (match S.sto x with
   | some i => gNm i
   | none => stG)
  | .Tuple es _ _ => if es.all Jh then gTp es.length (gAll (es.map (tgt P n S))) else stG
  | .Subscript o i _ => if Jpt i then gSbF o (ev P n S o) (ev P n S i) else stG
  | _ => stG
end
end
end L4
namespace L4
open PySem PySem.Spec PyProof.Rows L2 L3
noncomputable def Jmi (t : T1) (b : S1) : Nat -> S1
 | 0, _, _ => .stuck
 | n + 1, σ, h => match t σ h with
  | .ok c h1 => if c then (match b σ h1 with
   | .next σ2 h2 => Jmi t b n σ2 h2
   | .cont σ2 h2 => Jmi t b n σ2 h2
   | .brk σ2 h2 => .next σ2 h2
   | .ret v h2 => .ret v h2
   | _ => .stuck) else .next σ h1
  | _ => .stuck
@[irreducible] noncomputable def J36 : Nat := 1000000
noncomputable def Jv3 (t : T1) (b : S1) : S1 := Jmi t b J36
noncomputable def ipI : Operator -> IV -> IV -> IH -> Res IV
 | .Add, .int i, .int j, h => .ok (.int (i + j)) h
 | _, _, _, _ => .stuck
noncomputable def sAug (op : Operator) (i : Nat) (e : E1) : S1 := λ σ h => rS σ (eVar i σ h) λ x h1 => rS σ (e σ h1) λ y h2 => rS σ (ipI op x y h2) λ z h3 => .next (σ.set i (some z)) h3
noncomputable def sAugF (op : Operator) (f : Str) (o e : E1) : S1 := λ σ h => rS σ (o σ h) λ ov h1 => match ov with
 | .ref i => (match h1[i]? with
  | some (.ins _ fs) => (match fs.lookup f with
   | some x => rS σ (e σ h1) λ y h2 => rS σ (ipI op x y h2) λ z h3 => (match h3[i]? with
    | some (.ins c gs) => if gs.length < 1000 then .next σ (h3.set i (.ins c (putI f z gs))) else .stuck
    | _ => .stuck)
   | none => .stuck)
  | _ => .stuck)
 | _ => .stuck
noncomputable def ixL : IV -> IV -> IH -> Res IV
 | .ref i, .int k, h => match h[i]? with
  | some (.lst xs) => (match atI xs k with
   | some v => if 0 <= k then .ok v h else .stuck
   | none => .stuck)
  | _ => .stuck
 | _, _, _ => .stuck
noncomputable def sAugS (op : Operator) (o k e : E1) : S1 := λ σ h => rS σ (o σ h) λ ov h1 => rS σ (k σ h1) λ kv h2 => rS σ (ixL ov kv h2) λ x h3 => rS σ (e σ h3) λ y h4 => rS σ (ipI op x y h4) λ z h5 => setI ov kv z σ h5
noncomputable def sAll : List S1 -> S1
 | [] => sNil
 | [a] => a
 | a :: b :: r => sSeq a (sAll (b :: r))
noncomputable def J2l : Expr -> Bool
 | .Tuple .. => false
 | _ => true
noncomputable def Jyx : Expr -> Bool
 | .Tuple .. => true
 | _ => false
noncomputable def isLC : Expr -> Bool
 | .ListComp .. => true
 | _ => false
noncomputable def Jyr : Expr -> Bool
 | .Subscript .. => true
 | _ => false
noncomputable abbrev Xi := Str -> Option (Str -> Option Bool)
noncomputable def ansX (g : Str -> Option Bool) : Ty -> Option Bool
 | .exc c => g c
 | _ => none
noncomputable section
noncomputable def J06 (S : Sc) (xi : Xi) (f : Expr) (as : List Expr) (ks : List Keyword) (m : Expr -> E1) : E1 := match f, as, ks with
 | .Name x _, [a, .Name D _], [] => if x == "isinstance" && S.gl x && S.gl D && Jh a then (match xi D with
  | some g => eIsi (ansX g) (m a)
  | none => stE) else stE
 | _, _, _ => stE
noncomputable def hv (S : Sc) (xi : Xi) : Nat -> Expr -> E1
 | 0, _ => stE
 | n + 1, e => match e with
  | .Constant c _ _ => evC c
  | .Name x _ => (match S.vis x with
   | some i => eVar i
   | none => stE)
  | .UnaryOp op a _ => eUn (unI op) (hv S xi n a)
  | .BoolOp .And vs _ => Jyw (vs.map (hv S xi n))
  | .BoolOp .Or vs _ => eOrs (vs.map (hv S xi n))
  | .Tuple es _ _ => if es.all Jh then eTup (aAll (es.map (hv S xi n))) else stE
  | .List es _ => if es.all Jh then eLst (aAll (es.map (hv S xi n))) else stE
  | .Call f as ks _ => J06 S xi f as ks (hv S xi n)
  | _ => stE
noncomputable def hT (S : Sc) (xi : Xi) : Nat -> Expr -> T1
 | 0, _ => stT
 | n + 1, e => match e with
  | .UnaryOp .Not a _ => Jb6 (hT S xi n a)
  | .BoolOp .And vs _ => Jy3 (vs.map (hT S xi n))
  | .BoolOp .Or vs _ => tOrs (vs.map (hT S xi n))
  | .Call f as ks p => tOfB tru (hv S xi n (.Call f as ks p))
  | _ => stT
noncomputable def hx (S : Sc) (xi : Xi) : Nat -> Stmt -> S1
 | 0, _ => stS
 | n + 1, st => match st with
  | .Pass _ => Jzt
  | .Return (some e) _ => sRet (hv S xi n e)
  | .If c a b _ => sIf (hT S xi n c) (sAll (a.map (hx S xi n))) (sAll (b.map (hx S xi n)))
  | .Assign [.Name x _] e _ => if Jf7 e then (match S.sto x with
   | some i => sSet i (hv S xi n e)
   | none => stS) else stS
  | _ => stS
end
noncomputable def XiOk (K : W.Frag) (mg : Str -> Option Value) (xi : Xi) : Prop := ∀ D g, xi D = some g -> ∃ v, (mg D = some v ∨ (mg D = none /\ bootBuiltins D = some v)) /\
 ∀ c C b, g c = some b -> W.nsIn K mainGlobals c = some (some (.ref C)) -> ExI K C /\ W.kitOne K (.ref C) v = some b /\ W.exmOne K (.ref C) v = some b
noncomputable section
end
noncomputable section
noncomputable def ex (P : Pg) : Nat -> Sc -> Stmt -> S1
 | 0, _, _ => stS
 | n + 1, S, st => match st with
  | .Pass _ => Jzt
  | .Break _ => J0q
  | .Continue _ => J3n
  | .Expr e _ => if Jf7 e then Jgq (ev P n S e) else stS
  | .Return none _ => J2d
  | .Return (some e) _ => sRet (ev P n S e)
  | .If c a b _ => sIf (evT P n S c) (sAll (a.map (ex P n S))) (sAll (b.map (ex P n S)))
  | .While c a [] _ => Jv3 (evT P n S c) (sAll (a.map (ex P n S)))
  | .For tg it a [] _ => if Ju1 it then sFor (evI P n S tg it) (tgt P n S tg) (sAll (a.map (ex P n S))) else stS
  | .Assign [.Name x _] e _ => if Jf7 e || isLC e then (match S.sto x with
   | some i => sSet i (ev P n S e)
   | none => stS) else stS
  | .Assign [.Attribute o f _] e _ => if Jf7 e && P.fld f then Jiq f (ev P n S o) (ev P n S e) else stS
  | .Assign [tg] e _ => if Jf7 e && ((Jyx tg && J2l e) || Jyr tg) then sAsg (ev P n S e) (tgt P n S tg) else stS
  | _ => stS
end
end L4
namespace L4
open PySem PySem.Spec PyProof.Rows L2 L3
structure FnD (ce : Str -> Option Addr) (prog : Program) (w : World) (K : W.Frag) (mg : Str -> Option Value) (base : Heap) (k : Nat) (f : Fn) (fa : Addr) (fd : FuncData) (ps : List Str) : Prop where
 len : ps.length = f.np
 ok : FnOk prog w K mg base (CXI prog w) k fa fd ps (spI ce K ps f.run)
 dv : ∀ j, j <= f.dvs.length -> ∃ ds, Jgr K fd ps ds /\ ds.length = f.dvs.length - j /\ ∃ vs, Vals vs ds /\ ∀ ι H, RVs K ι H (f.dvs.drop j) vs
structure PgOk (ce : Str -> Option Addr) (k : Nat) (P : Pg) (prog : Program) (w : World) (K : W.Frag) (mg : Str -> Option Value) (base : Heap) : Prop where
 fn : ∀ x f, P.fn x = some f -> ∃ fa fd ps, mg x = some (.ref fa) /\ W.keepIn K (.ref fa) = true /\ FnD ce prog w K mg base k f fa fd ps
 cls : ∀ x f, P.cls x = some f -> ∃ C fa fd ps, mg x = some (.ref C) /\ ce x = some C /\ Mk K C fa /\ FnD ce prog w K mg base k f fa fd ps
 meth : ∀ c m f, P.meth c m = some f -> ∃ C fa fd ps, ce c = some C /\ Cls K C /\ Meth K C m fa /\ FnD ce prog w K mg base k f fa fd ps
 con : ∀ x v, P.con x = some v -> ∃ u y, mg x = some u /\ RelV y u /\ ∀ ι H, RV K ι H v y
 isa : ∀ D g, P.isa D = some g -> ∃ c, mg D = some c /\ IsOk ce K c λ t => match t with | .ins c => some (g c) | .exc _ => none | _ => some false
 fld : ∀ f, P.fld f = true -> Jyj ce K f
 free : ∀ x, P.free x = true -> mg x = none
 blt : ∀ q j, P.tabs q = some j -> Jyc mg base
 rz : ∀ x, P.rz x = true -> ∃ C, mg x = some (.ref C) /\ W.nsIn K mainGlobals x = some (some (.ref C)) /\ XCls K C
 xi : XiOk K mg P.xi
 bas : ∀ x, P.bas x = true -> ∃ C, mg x = some (.ref C) /\ BasK K C
structure Good (ce : Str -> Option Addr) (k : Nat) (P : Pg) (S : Sc) (X : Cx) : Prop where
 n : X.N = S.N
 sc : X.env.scope.names = S.names
 nd : S.N.Nodup
 fk : X.env.scope.kind = .function
 calm : X.calm = true
 room : Room (k + 1) X.A
 st : S.own = true -> ∀ x, X.fn x = true
 pg : PgOk ce k P X.prog X.w X.K X.mg X.base
 code : S.own = true -> W.codeIn X.K X.env.code S.q = true /\ X.env.qual = S.q ++ ".<locals>."
 room3 : S.own = true -> Room (k + 3) X.A
 top : S.own = true -> X.stack = X.env :: X.outer /\ X.env.frame = some X.env.locals
section
variable {ce : Str -> Option Addr} {k : Nat} {P : Pg} {S : Sc} {X : Cx} {α β : Type} {R : REL α β}
theorem Jb {t : Sem β} : PX ce X R t (λ _ _ => .stuck) := λ _ _ _ _ _ _ _ _ _ _ K => (show False from K).elim
theorem px_pt {t : Sem β} {m : ISt -> IH -> Res α} (hh : ∀ σi h, ∃ m', m σi h = m' σi h /\ PX ce X R t m') : PX ce X R t m := by
 intro pins s σ H ι σi h Q E N K
 obtain ⟨m', e, p⟩ := hh σi h
 rw [e] at K
 exact p pins s σ H ι σi h Q E N K
theorem Jlu {tg e : Expr} : PIi ce X tg e stI := λ _ _ _ _ _ _ _ _ _ _ K => (show False from K).elim
theorem Jix {e : Expr} : PGi ce X e stG := λ _ _ _ _ _ _ _ _ _ _ _ _ _ K => (show False from K).elim
theorem Jm {t : Sem Flow} : PSi ce X t stS := λ _ _ _ _ _ _ _ _ _ _ K => (show False from K).elim
theorem Jlr {x : Str} : ∀ {l : List Str} {i : Nat}, ixOf x l = some i -> l[i]? = some x
 | [], _, h => by cases h
 | y :: r, i, h => by
  unfold ixOf at h
  split at h
  ·rename_i e
   cases h
   simp [beq_iff_eq.mp e]
  ·obtain ⟨j, hj, rfl⟩ := Option.map_eq_some_iff.mp h
   simpa using Jlr hj
theorem Good.kind (G : Good ce k P S X) (x : Str) : X.env.kindOf x = S.names.lookup x := by
 show X.env.scope.names.lookup x = _
 rw [G.sc]
theorem Good.vis (G : Good ce k P S X) {x : Str} {i : Nat} (h : S.vis x = some i) : X.N[i]? = some x /\ Vis X.env.scope x /\ (x == ("__debug__" : Str)) = false /\ (x == ("__classdict__" : Str)) = false := by
 unfold Sc.vis at h
 have fin : ∀ {o : NameKind}, (o = .local ∨ o = .cell ∨ o = .free) -> S.names.lookup x = some o -> (if (x == ("__debug__" : Str) || x == ("__classdict__" : Str)) = true then none else ixOf x S.N) = some i ->
   X.N[i]? = some x /\ Vis X.env.scope x /\ (x == ("__debug__" : Str)) = false /\ (x == ("__classdict__" : Str)) = false := λ ho e h => by
  split at h
  ·cases h
  ·rename_i hd
   have hd' := Bool.eq_false_iff.mpr hd
   rw [Bool.or_eq_false_iff] at hd'
   refine ⟨by rw [G.n]; exact Jlr h, ?_, hd'.1, hd'.2⟩
   unfold Vis
   rw [G.sc, e]
   rcases ho with rfl | rfl | rfl
   ·exact .inl rfl
   ·exact .inr (.inl rfl)
   ·exact .inr (.inr rfl)
 cases e : S.names.lookup x with
 | none => rw [e] at h; cases h
 | some o =>
  rw [e] at h
  cases o with
  | «local» => exact fin (.inl rfl) e h
  | cell => exact fin (.inr (.inl rfl)) e h
  | free => exact fin (.inr (.inr rfl)) e h
  | _ => cases h
theorem Good.gl (G : Good ce k P S X) {x : Str} (h : S.gl x = true) : Gl X x /\ (x == ("__debug__" : Str)) = false /\ x ≠ "__name__" := by
 unfold Sc.gl at h
 simp only [Bool.and_eq_true, beq_iff_eq, Bool.not_eq_true'] at h
 refine ⟨?_, h.1.2, λ e => ?_⟩
 ·show X.env.kindOf x = _
  rw [G.kind]
  exact h.1.1
 ·have := h.2
  rw [e] at this
  exact absurd this (by decide)
theorem Good.sto (G : Good ce k P S X) {x : Str} {i : Nat} (h : S.sto x = some i) : X.N[i]? = some x /\ Loc X.env.scope x /\ (X.fn x = true ∨ X.env.scope.names.lookup x = some .local) := by
 unfold Sc.sto at h
 unfold L2.Loc
 rw [G.sc]
 cases e : S.names.lookup x with
 | none => rw [e] at h; cases h
 | some o =>
  rw [e] at h
  cases o with
  | «local» => exact ⟨by rw [G.n]; exact Jlr h, .inl rfl, .inr rfl⟩
  | cell =>
   dsimp only at h
   split at h
   ·rename_i ho
    exact ⟨by rw [G.n]; exact Jlr h, .inr rfl, .inl (G.st ho x)⟩
   ·cases h
  | _ => cases h
theorem Good.nodup (G : Good ce k P S X) : X.N.Nodup := by rw [G.n]; exact G.nd
theorem Jc {a : Expr} {es : List Expr} {env : Env} (h : Jh a = true) : starEach (a :: es) env = (false, eval a env) :: starEach es env := by
 cases a <;> first | rfl | cases h
theorem Jd4 {pos : Pos} {env : Env} : ∀ {es : List Expr}, es.all Jh = true -> (backTo pos (starEach es env)).any (·.1) = false
 | [], _ => rfl
 | a :: es, h => by
  simp only [List.all_cons, Bool.and_eq_true] at h
  rw [Jc h.1]
  show (false || (backTo pos (starEach es env)).any (·.1)) = false
  rw [Jd4 h.2] <;> rfl
theorem Jmw {pos : Pos} {env : Env} : ∀ {es : List Expr}, es.all Jh = true -> (backTo pos (starEach es env)).all (λ x => !x.1) = true
 | [], _ => rfl
 | a :: es, h => by
  simp only [List.all_cons, Bool.and_eq_true] at h
  rw [Jc h.1]
  show (true && (backTo pos (starEach es env)).all (λ x => !x.1)) = true
  rw [Jmw h.2] <;> rfl
theorem J0y {pos : Pos} {env : Env} {es : List Expr} (ha : es.all Jh = true) (hn : es.length < 30) : ((backTo pos (starEach es env)).all (λ x => !x.1) && (backToKw pos (keywordEach [] env)).all (λ x => x.1.isSome)
   && decide (es.length + ([] : List Keyword).length + (if ([] : List Keyword).isEmpty then 0 else 1) < 30)) = true := by
 show ((backTo pos (starEach es env)).all (λ x => !x.1) && true && decide (es.length + 0 + 0 < 30)) = true
 rw [Jmw ha]
 simpa using hn
theorem Jjx : ∀ (l : List E1), ALen l.length (aAll l)
 | [] => Jyu
 | _ :: r => Jw4 (Jjx r)
theorem Jml {f : Expr -> E1} : ∀ {es : List Expr}, es.all Jh = true -> (∀ e, PEi ce X e (f e)) -> PAi ce X es (aAll (es.map f))
 | [], _, _ => Jpw
 | a :: es, h, hf => by
  simp only [List.all_cons, Bool.and_eq_true] at h
  exact Jhj (hf a) (Jml h.2 hf) (Jc h.1)
theorem Jxx {f : Expr -> E1} {pos : Pos} (hf : ∀ e, PEi ce X e (f e)) : ∀ (vs : List Expr), PEi ce X (.BoolOp .And vs pos) (Jyw (vs.map f))
 | [] => Jb
 | [a] => J31 (hf a)
 | a :: b :: r => i_and Joj (hf a) (Jxx hf (b :: r))
theorem J2v {f : Expr -> E1} {pos : Pos} (hf : ∀ e, PEi ce X e (f e)) : ∀ (vs : List Expr), PEi ce X (.BoolOp .Or vs pos) (eOrs (vs.map f))
 | [] => Jb
 | [a] => J31 (hf a)
 | a :: b :: r => i_or Joj (hf a) (J2v hf (b :: r))
theorem Jxq {f : Expr -> T1} {pos : Pos} (hf : ∀ e, PTi ce X e (f e)) : ∀ (vs : List Expr), PWi ce X (.BoolOp .And vs pos) (Jy3 (vs.map f))
 | [] => λ _ => Jb
 | [a] => J18 (hf a)
 | a :: b :: r => J3r (hf a) (Jxq hf (b :: r))
theorem J2z {f : Expr -> T1} {pos : Pos} (hf : ∀ e, PTi ce X e (f e)) : ∀ (vs : List Expr), PWi ce X (.BoolOp .Or vs pos) (tOrs (vs.map f))
 | [] => λ _ => Jb
 | [a] => J3z (hf a)
 | a :: b :: r => tw_or (hf a) (J2z hf (b :: r))
theorem Jz3 {f : Expr -> G1} : ∀ {es : List Expr}, es.all Jh = true -> (∀ e, PGi ce X e (f e)) -> PGsi ce X es (gAll (es.map f))
 | [], _, _ => J5s
 | a :: es, h, hf => by
  simp only [List.all_cons, Bool.and_eq_true] at h
  refine J1g (hf a) (Jz3 h.2 hf) ?_
  cases a <;> first | rfl | exact absurd h.1 Bool.false_ne_true
theorem Jz4 {env : Env} : ∀ {es : List Expr}, es.all Jh = true -> (assignEach es env).length = es.length
 | [], _ => rfl
 | a :: es, h => by
  simp only [List.all_cons, Bool.and_eq_true] at h
  have : assignEach (a :: es) env = (false, assign a env) :: assignEach es env := by cases a <;> first | rfl | exact absurd h.1 Bool.false_ne_true
  rw [this, List.length_cons, List.length_cons, Jz4 h.2]
theorem Jwp {env : Env} : ∀ {es : List Expr}, es.all Jh = true -> (assignEach es env).findIdx? (·.1) = none
 | [], _ => rfl
 | a :: es, h => by
  simp only [List.all_cons, Bool.and_eq_true] at h
  have : assignEach (a :: es) env = (false, assign a env) :: assignEach es env := by cases a <;> first | rfl | exact absurd h.1 Bool.false_ne_true
  rw [this, List.findIdx?_cons, Jwp h.2]
  rfl
theorem o_bin (op : Operator) : OpI ce X (binaryOp op) (binI op) := by
 cases op with
 | Add => exact o_add
 | Sub => exact o_sub
 | Mult => exact J5q
 | FloorDiv => exact J30
 | Mod => exact o_mod
 | Pow => exact o_pow
 | _ => exact λ _ _ _ _ _ _ _ _ _ _ _ _ _ _ _ _ K => (show False from K).elim
theorem Jxk (hu : X.A.units + 64 < cLine) (op : CmpOp) : OpI ce X (compareOp op) (cmpI op) := by
 cases op with
 | Lt => exact o_lt
 | LtE => exact o_le
 | Gt => exact o_gt
 | GtE => exact o_ge
 | Eq => exact o_eq hu
 | NotEq => exact o_ne hu
 | Is => exact o_is
 | IsNot => exact J2t
 | In => exact o_in hu
 | NotIn => exact J01 hu
theorem Jz0 (hu : X.A.units + 64 < cLine) (op : CmpOp) (b : Expr) : OpI ce X (compareOp op) (cmpD op b) := by
 unfold cmpD
 split
 ·split
  ·exact o_inD
  ·exact o_in hu
 ·exact Jxk hu op
theorem x_slD (a : Expr) : SlI ce X (slD a) := by
 unfold slD
 split
 ·exact x_slT
 ·exact x_sl
theorem x_ixF (a : Expr) : IxI ce X (ixD a) := by
 unfold ixD
 split
 ·exact x_ixD
 ·exact x_ix
theorem o_un (op : UnaryOp) : UnI ce X (unaryOp op) (unI op) := by
 cases op with
 | Not => exact J23 Joj
 | USub => exact u_neg
 | _ => exact λ _ _ _ _ _ _ _ _ _ _ _ _ _ K => (show False from K).elim
theorem Jgj {o : Expr} {m : Str} {env : Env} {w : Sem Value} (h : Jdm o = true) : attributeBase o m env w = w := by
 cases o with
 | Call f as ks p =>
  cases f with
  | Name x q =>
   cases as with
   | nil =>
    cases ks with
    | nil => cases h
    | cons _ _ => rfl
   | cons _ _ => rfl
  | _ => rfl
 | _ => rfl
theorem Jbh {e : Expr} {env : Env} (h : Ju1 e = true) (x : Value) : foldedSetIterable e env x = pure x := by
 cases e <;> first | rfl | cases h
theorem Jdg {e : Expr} {t : Option Expr} {l : Nat} {env : Env} (h : Jf7 e = true) : swapsWith e t l env = pure false := by
 cases e <;> first | rfl | cases h
theorem Jyh {i : Expr} (h : Jpt i = true) : Jwz i := λ _ _ => by
 cases i <;> first | rfl | cases h
theorem Jmb {o : Expr} {m : Str} {ap pos : Pos} {es : List Expr} {env : Env} (hb : Jdm o = true) (hs : es.all Jh = true) (hl : (ap.endLine == pos.line) = true) (hn : es.length < 30) :
  eval (.Call (.Attribute o m ap) es [] pos) env = (do
   let ov <- eval o env
   standAt ap.atName
   let (f, first) <- holding [ov] (getMethod ov m (do return (<- importBound o env).getD true))
   callWith pos f first (backTo pos (starEach es env)) (backToKw pos (keywordEach [] env))) := by
 have hform : methodCallForm (es.length + ([] : List Keyword).length) (backTo pos (starEach es env)) (backToKw pos (keywordEach [] env)) = true := by
  show ((backTo pos (starEach es env)).all (λ x => !x.1) && true && decide (es.length + 0 + 0 < 30)) = true
  rw [Jmw hs]
  simpa using hn
 have hpos : methodCallPos true o env ap pos = pure pos := by unfold methodCallPos; simp [hl]
 rw [arm_eval_Call, Jgj hb]
 unfold methodCall
 rw [hform, hpos]
 rfl
end
section
variable {ce : Str -> Option Addr} {k : Nat} {P : Pg} {S : Sc} {X : Cx}
theorem Jqk (G : Good ce k P S X) (N0 l c : List Str) (js : List Nat) (sc : Scope) : Je0 N0 l c js X.env.scope sc = Je0 N0 l c js S.fake sc := by
 unfold Je0
 rw [G.fk, G.sc]
 rfl
theorem Good.comp (G : Good ce k P S X) {sc : Scope} (h : Je0 S.N (Jo7 sc) (Jnj sc) (jsOf S sc) S.fake sc = true) (C : Addr) (s : Shared) (H : Hp) (fp : List Addr) : Good ce k P (S.comp sc) (cxC X (Jo7 sc ++ Jnj sc) sc C s H fp) := by
 simp only [Je0, Bool.and_eq_true, decide_eq_true_eq] at h
 obtain ⟨⟨⟨⟨⟨⟨⟨⟨⟨kF, kF0⟩, kNC⟩, kL⟩, kFr⟩, kFx⟩, kJ⟩, kLen⟩, kNd⟩, kLo⟩ := h
 refine ⟨rfl, ?_, kNd, kF, G.calm, G.room, λ z => absurd z Bool.false_ne_true, G.pg, λ z => absurd z Bool.false_ne_true, λ z => absurd z Bool.false_ne_true, λ z => absurd z Bool.false_ne_true⟩
 show (relabel sc X.env).names = _
 unfold relabel Sc.comp
 dsimp only
 refine List.map_congr_left λ x _ => ?_
 obtain ⟨n, kd⟩ := x
 dsimp only
 rw [G.fk, G.kind]
 simp
end
structure Snd (ce : Str -> Option Addr) (k : Nat) (P : Pg) (n : Nat) : Prop where
 e : ∀ S X e, Good ce k P S X -> PEi ce X e (ev P n S e)
 t : ∀ S X e, Good ce k P S X -> PTi ce X e (evT P n S e)
 o : ∀ S X e, Good ce k P S X -> PPi ce X e (evO P n S e)
 c : ∀ S X x args p pos, Good ce k P S X -> S.gl x = true -> args.all Jh = true -> PEi ce X (.Call (.Name x p) args [] pos) (Jxf P n S x args)
 i : ∀ S X tg e, Good ce k P S X -> PIi ce X tg e (evI P n S tg e)
 g : ∀ S X e, Good ce k P S X -> PGi ce X e (tgt P n S e)
section
variable {ce : Str -> Option Addr} {k : Nat} {P : Pg} {n : Nat} {S : Sc} {X : Cx}
theorem Jzc : Snd ce k P 0 := ⟨λ _ _ _ _ => Jb, λ _ _ _ _ => Jb, λ _ _ _ _ => Jb, λ _ _ _ _ _ _ _ _ _ => Jb, λ _ _ _ _ _ => Jlu, λ _ _ _ _ => Jix⟩
theorem Jpd {prog : Program} {w : World} {K : W.Frag} {mg : Str -> Option Value} {base : Heap} {f : Fn} {fa : Addr} {fd : FuncData} {ps : List Str} {m : Nat} {d : List IV} (D : FnD ce prog w K mg base k f fa fd ps) (h : f.fill m = some d) :
  ∃ ds, Jgr K fd ps ds /\ m + ds.length = ps.length /\ ∃ vs, Vals vs ds /\ ∀ ι H, RVs K ι H d vs := by
 unfold Fn.fill at h
 split at h
 ·rename_i hz
  cases h
  obtain ⟨ds, hb, hl, q⟩ := D.dv (f.dvs.length - (f.np - m)) (by omega)
  exact ⟨ds, hb, by rw [hl, D.len]; omega, q⟩
 ·cases h
theorem Jyl (G : Good ce k P S X) {x : Str} {f : Fn} (hx : P.fn x = some f) (hg : S.gl x = true) {args : List Expr} (ha : args.all Jh = true) {g : Expr -> E1} (hf : ∀ e, PEi ce X e (g e)) {p pos : Pos} :
  PEi ce X (.Call (.Name x p) args [] pos) (Jl5 f args.length (aAll (args.map g))) := by
 obtain ⟨fa, fd, ps, hm, hk, D⟩ := G.pg.fn x f hx
 obtain ⟨gl, hdb, _⟩ := G.gl hg
 unfold Jl5
 cases hd : f.fill args.length with
 | none => exact Jb
 | some d =>
  obtain ⟨ds, hb, hl, q⟩ := Jpd D hd
  have hr : Room k X.A := G.room.mono (Nat.le_succ k)
  cases args with
  | nil => exact J1j D.ok hr gl hm hk hb q (by simpa using hl) hdb
  | cons a es =>
   have ha' := ha
   simp only [List.all_cons, Bool.and_eq_true] at ha'
   refine J5a D.ok hr gl hm hk hb q (Jml ha hf) (λ σ h xs h' e => ?_) hdb (Jc ha'.1) (Jd4 ha'.2)
   have := Jjx _ σ h xs h' e
   rw [List.length_map] at this
   rw [this]
   exact hl
theorem Jy5 (G : Good ce k P S X) {x : Str} {f : Fn} (hx : P.cls x = some f) (hg : S.gl x = true) {args : List Expr} (ha : args.all Jh = true) {g : Expr -> E1} (hf : ∀ e, PEi ce X e (g e)) {p pos : Pos} :
  PEi ce X (.Call (.Name x p) args [] pos) (Js3 x f args.length (aAll (args.map g))) := by
 obtain ⟨C, fa, fd, ps, hm, hC, M, D⟩ := G.pg.cls x f hx
 obtain ⟨gl, hdb, _⟩ := G.gl hg
 unfold Js3
 cases hd : f.fill (args.length + 1) with
 | none => exact Jb
 | some d =>
  obtain ⟨ds, hb, hl, q⟩ := Jpd D hd
  cases args with
  | nil => exact J2w M D.ok hC G.room gl hm hb q (by simp at hl; omega) hdb
  | cons a es =>
   have ha' := ha
   simp only [List.all_cons, Bool.and_eq_true] at ha'
   refine J5e M D.ok hC G.room gl hm hb q (Jml ha hf) (λ σ h xs h' e => ?_) hdb (Jc ha'.1) (Jd4 ha'.2)
   have := Jjx _ σ h xs h' e
   rw [List.length_map] at this
   omega
theorem Jw8 (G : Good ce k P S X) (m : Str) (n : Nat) : Jxi ce X m n (Jke P m n) := by
 intro c f dvs h
 unfold Jke at h
 cases hm : P.meth c m with
 | none => rw [hm] at h; cases h
 | some fn =>
  rw [hm] at h
  dsimp only at h
  cases hd : fn.fill (n + 1) with
  | none => rw [hd] at h; cases h
  | some d =>
   rw [hd] at h
   cases h
   obtain ⟨C, fa, fd, ps, hC, hcl, hM, D⟩ := G.pg.meth c m fn hm
   obtain ⟨ds, hb, hl, q⟩ := Jpd D hd
   exact ⟨C, fa, fd, k, ps, ds, hC, hcl, hM, D.ok, G.room.mono (Nat.le_succ k), hb, q, by omega⟩
theorem bm_ok {T : String} {m : Str} {n : Nat} {g : IV -> List IV -> IH -> Res IV} (h : bmOf T m n = some g) : ∃ id, PlainAttrs T /\ Slot T m id /\ typeOf (.builtin id) = pure (.type "method_descriptor") /\ MtI ce X T id g := by
 unfold bmOf at h
 split at h
 ·rename_i hm
  simp only [Bool.and_eq_true, beq_iff_eq] at hm
  obtain ⟨⟨rfl, rfl⟩, _⟩ := hm
  cases h
  exact ⟨_, PySem.F.plainAttrs_list, PySem.F.slot_list_append, PySem.F.type_list_append, Jze⟩
 ·split at h
  ·rename_i hm
   simp only [Bool.and_eq_true, beq_iff_eq] at hm
   obtain ⟨⟨rfl, rfl⟩, _⟩ := hm
   cases h
   exact ⟨_, PySem.F.plainAttrs_str, PySem.F.slot_str_join, PySem.F.type_str_join, J52⟩
  ·split at h
   ·rename_i hm
    simp only [Bool.and_eq_true, beq_iff_eq] at hm
    obtain ⟨⟨rfl, rfl⟩, _⟩ := hm
    cases h
    exact ⟨_, PySem.F.plainAttrs_dict, PySem.F.slot_dict_setdefault, PySem.F.type_dict_setdefault, Jyb⟩
   ·cases h
theorem J4l {o : Expr} {m : Str} {mo : E1} {args : List Expr} {f : Expr -> E1} {ap pos : Pos} {T : String} {g : IV -> List IV -> IH -> Res IV} {n : Nat} (hg : bmOf T m n = some g) (ho : PEi ce X o mo) (hf : ∀ e, PEi ce X e (f e)) (ha : args.all Jh = true) (hb : Jdm o = true) (hl : (ap.endLine == pos.line) = true) (hn : args.length < 30) :
  PEi ce X (.Call (.Attribute o m ap) args [] pos) (eBm T g mo (aAll (args.map f))) := by
 obtain ⟨id, pa, sl, ty, mt⟩ := bm_ok (ce := ce) (X := X) hg
 cases args with
 | nil => exact i_bm0 pa sl ty mt ho (Jgj hb) hl
 | cons a es =>
  have ha' := ha
  simp only [List.all_cons, Bool.and_eq_true] at ha'
  exact i_bm pa sl ty mt ho (Jml ha hf) (Jgj hb) (J0y ha hn) hl (Jc ha'.1) (Jd4 ha'.2)
theorem J26 (G : Good ce k P S X) {o : Expr} {m : Str} {mo : E1} {args : List Expr} {f : Expr -> E1} {ap pos : Pos} (ho : PEi ce X o mo) (hf : ∀ e, PEi ce X e (f e)) (ha : args.all Jh = true) (hb : Jdm o = true) (hl : (ap.endLine == pos.line) = true) (hn : args.length < 30) :
  PEi ce X (.Call (.Attribute o m ap) args [] pos) (eDot P m args.length mo (aAll (args.map f))) := by
 refine px_pt λ σi h => ?_
 unfold eDot
 cases e : mo σi h with
 | exc n h1 => exact ⟨λ _ _ => .stuck, rfl, Jb⟩
 | stuck => exact ⟨λ _ _ => .stuck, rfl, Jb⟩
 | ok v h1 =>
  dsimp only
  split
  ·refine ⟨_, rfl, ?_⟩
   cases args with
   | nil => exact J1l ho (Jw8 G m 0) (Jmb hb ha hl hn)
   | cons a es =>
    have ha' := ha
    simp only [List.all_cons, Bool.and_eq_true] at ha'
    refine J32 ho (Jw8 G m (a :: es).length) (Jml ha hf) (λ σ h xs h' e => ?_) (Jc ha'.1) (Jd4 ha'.2) (Jmb hb ha hl hn)
    have := Jjx _ σ h xs h' e
    rwa [List.length_map] at this
  ·cases hg : bmOf (tyS v h1) m args.length with
   | none => exact ⟨λ _ _ => .stuck, rfl, Jb⟩
   | some g => exact ⟨_, rfl, J4l hg ho hf ha hb hl hn⟩
theorem Jy9 (G : Good ce k P S X) {o : Expr} {m : Str} {mo : E1} {args : List Expr} {f : Expr -> E1} {ap pos : Pos} (ho : PEi ce X o mo) (hf : ∀ e, PEi ce X e (f e)) (ha : args.all Jh = true) (hb : Jdm o = true) (hl : (ap.endLine == pos.line) = true) (hn : args.length < 30) :
  PEi ce X (.Call (.Attribute o m ap) args [] pos) (J2q P m args.length (Js8 P S m o) mo (aAll (args.map f))) := by
 cases eb : Js8 P S m o with
 | none => exact J26 G ho hf ha hb hl hn
 | some g =>
  cases o with
  | Name x q =>
   have eb2 : (if m == "__init__" && S.gl x && P.bas x then P.cls x else none) = some g := eb
   clear eb
   split at eb2
   ·rename_i hq
    simp only [Bool.and_eq_true, beq_iff_eq] at hq
    obtain ⟨⟨rfl, hg⟩, hx⟩ := hq
    obtain ⟨C, fa, fd, ps, hm, hC, M, D⟩ := G.pg.cls x g eb2
    obtain ⟨C', hm', B⟩ := G.pg.bas x hx
    rw [hm] at hm'
    cases hm'
    obtain ⟨gl, hdb, _⟩ := G.gl hg
    show PEi ce X _ (if args.length = 0 then stE else Jl5 g args.length (aAll (args.map f)))
    split
    ·exact Jb
    rename_i hz
    unfold Jl5
    cases hd : g.fill args.length with
    | none => exact Jb
    | some d =>
     obtain ⟨ds, hb', hl', q⟩ := Jpd D hd
     have hr : Room k X.A := G.room.mono (Nat.le_succ k)
     cases args with
     | nil => exact absurd rfl hz
     | cons a es =>
      have ha' := ha
      simp only [List.all_cons, Bool.and_eq_true] at ha'
      refine J39 D.ok hr gl hm B M hb' q (Jml ha hf) (λ σ h xs h' e => ?_) hdb (Jc ha'.1) (Jd4 ha'.2) (Jmb hb ha hl hn)
      have := Jjx _ σ h xs h' e
      rw [List.length_map] at this
      rw [this]
      exact hl'
   ·cases eb2
  | _ => cases eb
theorem J1b (G : Good ce k P S X) {a : Expr} {ma : E1} {y : Str} {p p2 pos : Pos} (ha : PEi ce X a ma) (hs : Jh a = true) (hg : S.gl "isinstance" = true) (hfr : P.free "isinstance" = true) (hy : S.gl y = true) :
  PEi ce X (.Call (.Name "isinstance" p) [a, .Name y p2] [] pos) (J2f (Jza P y) ma) := by
 unfold J2f
 cases e : Jza P y with
 | none => exact Jb
 | some ans =>
  obtain ⟨gy, ydb, yn⟩ := G.gl hy
  have fin : ∀ {c : Value}, ClsE X (.Name y p2) c -> IsOk ce X.K c ans -> PEi ce X (.Call (.Name "isinstance" p) [a, .Name y p2] [] pos) (eIsi ans ma) := λ hc O =>
   J34 hc O ha (G.gl hg).1 (G.pg.free _ hfr) rfl (Jc hs) rfl rfl
  unfold Jza at e
  cases hi : P.isa y with
  | some g =>
   rw [hi] at e
   cases e
   obtain ⟨c, hm, O⟩ := G.pg.isa y g hi
   exact fin (Jxg gy hm ydb) O
  | none =>
   rw [hi] at e
   dsimp only at e
   split at e
   ·rename_i hf
    have hm := G.pg.free y hf
    split at e
    ·rename_i q; cases (beq_iff_eq.mp q); cases e; exact fin (Jj7 gy hm rfl yn ydb) Jym
    ·split at e
     ·rename_i q; cases (beq_iff_eq.mp q); cases e; exact fin (Jj7 gy hm rfl yn ydb) Jw2
     ·split at e
      ·rename_i q; cases (beq_iff_eq.mp q); cases e; exact fin (Jj7 gy hm rfl yn ydb) Jzf
      ·split at e
       ·rename_i q; cases (beq_iff_eq.mp q); cases e; exact fin (Jj7 gy hm rfl yn ydb) Jwk
       ·split at e
        ·rename_i q; cases (beq_iff_eq.mp q); cases e; exact fin (Jj7 gy hm rfl yn ydb) Jzn
        ·cases e
   ·cases e
theorem Jyt (G : Good ce k P S X) {a : Expr} {ma : E1} {x : Str} {p pos : Pos} (ha : PEi ce X a ma) (hs : Jh a = true) (hg : S.gl x = true) (hfr : P.free x = true) (hx : Jxn x = true) :
  PEi ce X (.Call (.Name x p) [a] [] pos) (eCB (bltF x) (Ja ma aNil)) := by
 obtain ⟨gx, xdb, xn⟩ := G.gl hg
 have hm := G.pg.free x hfr
 have hh := G.room.hd
 have pa : PAi ce X [a] (Ja ma aNil) := Jhj ha Jpw (Jc hs)
 unfold Jxn at hx
 simp only [Bool.or_eq_true, beq_iff_eq] at hx
 rcases hx with ((((rfl | rfl) | rfl) | rfl) | rfl) | rfl
 ·exact Jdx c_len gx hm rfl pa xn xdb (Jc hs) rfl
 ·exact Jdx (c_all hh) gx hm rfl pa xn xdb (Jc hs) rfl
 ·exact Jdx (c_sum hh) gx hm rfl pa xn xdb (Jc hs) rfl
 ·exact Jdx Jy0 gx hm rfl pa xn xdb (Jc hs) rfl
 ·exact Jdx (J5n hh) gx hm rfl pa xn xdb (Jc hs) rfl
 ·exact Jdx (J4n hh) gx hm rfl pa xn xdb (Jc hs) rfl
theorem Jxz (G : Good ce k P S X) {a : Expr} {ma : E1} {x : Str} {p pos : Pos} (ha : PEi ce X a ma) (hs : Jh a = true) (hg : S.gl x = true) (hfr : P.free x = true) (hx : Jws x = true) :
  PEi ce X (.Call (.Name x p) [a] [] pos) (eCB (bltT x) (Ja ma aNil)) := by
 obtain ⟨gx, xdb, xn⟩ := G.gl hg
 have hm := G.pg.free x hfr
 have pa : PAi ce X [a] (Ja ma aNil) := Jhj ha Jpw (Jc hs)
 unfold Jws at hx
 simp only [Bool.or_eq_true, beq_iff_eq] at hx
 rcases hx with rfl | rfl
 ·exact Jwe J3u gx hm rfl pa xn xdb (Jc hs) rfl
 ·exact Jwe J03 gx hm rfl pa xn xdb (Jc hs) rfl
theorem Jwy (G : Good ce k P S X) {f : Expr -> E1} (hf : ∀ e, PEi ce X e (f e)) {x : Str} {args : List Expr} {p pos : Pos} (hg : S.gl x = true) (ha : args.all Jh = true) (hfr : P.free x = true) :
  PEi ce X (.Call (.Name x p) args [] pos) (Jpk P S x f args) := by
 unfold Jpk
 split
 ·rename_i a b
  simp only [List.all_cons, Bool.and_eq_true] at ha
  obtain ⟨gx, xdb, xn⟩ := G.gl hg
  have hm := G.pg.free x hfr
  have pa : PAi ce X [a, b] (Ja (f a) (Ja (f b) aNil)) := Jhj (hf a) (Jhj (hf b) Jpw (Jc ha.2.1)) (Jc ha.1)
  have h1 : ∀ pos, (backTo pos (starEach [b] X.env)).any (·.1) = false := λ pos => Jd4 (by simp [ha.2.1])
  split
  ·rename_i hs
   cases (beq_iff_eq.mp hs)
   exact Jdx (c_max G.calm) gx hm rfl pa xn xdb (Jc ha.1) (h1 _)
  ·split
   ·rename_i hs
    cases (beq_iff_eq.mp hs)
    exact Jdx (c_min G.calm) gx hm rfl pa xn xdb (Jc ha.1) (h1 _)
   ·split
    ·rename_i y p2 _
     split
     ·rename_i hs
      simp only [Bool.and_eq_true, beq_iff_eq] at hs
      obtain ⟨rfl, hy⟩ := hs
      exact J1b G (hf a) ha.1 hg hfr hy
     ·exact Jb
    ·exact Jb
 ·rename_i a
  simp only [List.all_cons, Bool.and_eq_true] at ha
  split
  ·rename_i e he
   split at he
   ·rename_i hc
    simp only [Bool.and_eq_true, beq_iff_eq] at hc
    obtain ⟨⟨rfl, g2⟩, f2⟩ := hc
    unfold Jz1 at he
    split at he
    ·split at he
     ·rename_i hq
      simp only [Bool.and_eq_true, beq_iff_eq] at hq
      obtain ⟨rfl, ns⟩ := hq
      cases he
      exact Jzu G.room.hd (G.gl hg).1 (G.pg.free _ hfr) (G.gl g2).1 (G.pg.free _ f2) (Jhj (hf e) Jpw (Jc ns)) (Jc ns)
     ·cases he
    ·cases he
   ·cases he
  ·split
   ·rename_i e he
    split at he
    ·rename_i hc
     simp only [Bool.and_eq_true, beq_iff_eq] at hc
     obtain ⟨⟨rfl, g2⟩, f2⟩ := hc
     unfold J0h at he
     split at he
     ·split at he
      ·rename_i hq
       simp only [Bool.and_eq_true, beq_iff_eq] at hq
       obtain ⟨rfl, ns⟩ := hq
       cases he
       exact Jv9 G.room.hd (G.gl hg).1 (G.pg.free _ hfr) (G.gl g2).1 (G.pg.free _ f2) (Jhj (hf e) Jpw (Jc ns)) (Jc ns)
      ·cases he
     ·cases he
    ·cases he
   ·split
    ·rename_i hq
     simp only [Bool.and_eq_true, beq_iff_eq] at hq
     obtain ⟨rfl, _⟩ := hq
     exact Jdx J3d (G.gl hg).1 (G.pg.free _ hfr) rfl (Jhj (hf a) Jpw (Jc ha.1)) (by decide) rfl (Jc ha.1) rfl
    split
    ·rename_i hb
     exact Jyt G (hf a) ha.1 hg hfr hb
    ·split
     ·rename_i hb
      exact Jxz G (hf a) ha.1 hg hfr hb
     ·exact Jb
 ·exact Jb
theorem J2n.of (G : Good ce k P S X) {y : Str} {sc : Scope} (h : J2n S y sc = true) : LamSc X.N X.env.scope.names y (Jnj sc) (jsOf S sc) sc := by
 rw [G.n, G.sc]
 simp only [J2n, Bool.and_eq_true, beq_iff_eq, Bool.not_eq_true', decide_eq_true_eq, List.all_eq_true, Bool.or_eq_true, beq_eq_false_iff_ne] at h
 obtain ⟨⟨⟨⟨⟨⟨⟨h1, h2⟩, h3⟩, h4⟩, h5⟩, h6⟩, h7⟩, h8⟩ := h
 refine ⟨h1, h2, h3, h4, h5, λ z hz e => (h6 z hz).resolve_left λ q => q e, λ z e => PySem.mem_of_lookup e, λ i j z ej ez => ?_, by simp [jsOf], h8⟩
 unfold jsOf at ej
 rw [List.getElem?_map, ez] at ej
 cases ej
 exact h7 z (List.mem_of_getElem? ez)
theorem J4a (G : Good ce k P S X) {f : Sc -> Expr -> E1} (hf : ∀ S X e, Good ce k P S X -> PEi ce X e (f S e)) {x : Str} {args : List Expr} {kws : List Keyword} {p pos : Pos} : PEi ce X (.Call (.Name x p) args kws pos) (Jw0 P S f x args kws) := by
 unfold Jw0
 split
 ·split
  ·rename_i hq
   simp only [Bool.and_eq_true, beq_iff_eq] at hq
   obtain ⟨⟨⟨⟨rfl, rfl⟩, g1⟩, f1⟩, ns⟩ := hq
   exact J5i G.room.hd (G.gl g1).1 (G.pg.free _ f1) (Jhj (hf _ _ _ G) Jpw (Jc ns)) (hf _ _ _ G) (Jc ns)
  ·exact Jb
 ·exact Jb
theorem Jzh (ih : Snd ce k P n) : Snd ce k P (n + 1) := by
 refine ⟨λ S X e G => ?_, λ S X e G => ?_, λ S X e G => ?_, λ S X x args p pos G hg ha => ?_, λ S X tg e G => ?_, λ S X e G => ?_⟩
 ·have ihe := λ e => ih.e S X e G
  have hu := G.room.units
  cases e with
  | Constant c j p =>
   cases c with
   | int i => exact J4y
   | bool b => exact i_bl
   | none => exact J3v
   | str x => exact J4k
   | _ => exact Jb
  | Name x p =>
   show PEi ce X (.Name x p) (match S.vis x with | some i => eVar i | none => if S.gl x then (match P.con x with | some v => eC v | none => stE) else stE)
   cases hv : S.vis x with
   | some i =>
    obtain ⟨h1, h2, h3, h4⟩ := G.vis hv
    exact J3p i h1 h2 h3 h4
   | none =>
    dsimp only
    split
    ·rename_i hg
     obtain ⟨gx, xdb, _⟩ := G.gl hg
     cases hc : P.con x with
     | none => exact Jb
     | some v =>
      obtain ⟨u, y, hm, r, q⟩ := G.pg.con x v hc
      exact J3s gx hm r q xdb
    ·exact Jb
  | BinOp a op b p => exact i_bin (o_bin op) (ihe a) (ihe b)
  | UnaryOp op a p => exact i_un (o_un op) (ihe a)
  | BoolOp op vs p =>
   cases op with
   | And => exact Jxx ihe vs
   | Or => exact J2v ihe vs
  | IfExp t a b p => exact J0u (ih.t S X t G) (ihe a) (ihe b)
  | Compare a ops cs p =>
   match ops, cs with
   | [o], [b] =>
    show PEi ce X _ (if behindInMarks o b then stE else eBin (cmpD o b) (ev P n S a) (ev P n S b))
    split
    ·exact Jb
    ·rename_i hb
     exact i_cmp (Jz0 hu o b) (ihe a) (ihe b) (Bool.eq_false_iff.mpr hb)
   | [o, o'], [b, c] =>
    show PEi ce X _ (if lastMarks [o, o'] [b, c] then stE else Je2 (cmpI o) (cmpI o') (ev P n S a) (ev P n S b) (ev P n S c))
    split
    ·exact Jb
    ·rename_i hb
     exact J05 (Jxk hu o) (Jxk hu o') (ihe a) (ihe b) (ihe c) (Bool.eq_false_iff.mpr hb)
   | [], _ => exact Jb
   | [_], [] => exact Jb
   | [_], _ :: _ :: _ => exact Jb
   | [_, _], [] => exact Jb
   | [_, _], [_] => exact Jb
   | [_, _], _ :: _ :: _ :: _ => exact Jb
   | _ :: _ :: _ :: _, _ => exact Jb
  | Tuple es j p =>
   show PEi ce X _ (if es.all Jh then eTup (aAll (es.map (ev P n S))) else stE)
   split
   ·rename_i hs
    exact J51 (Jml hs ihe)
   ·exact Jb
  | List es p =>
   show PEi ce X _ (if es.all Jh then eLst (aAll (es.map (ev P n S))) else stE)
   split
   ·rename_i hs
    exact J5m (Jml hs ihe)
   ·exact Jb
  | Dict ks vs p =>
   match ks, vs with
   | [some k], [v] => exact J5v (ihe k) (ihe v)
   | [], [] => exact J3o
   | [], _ :: _ => exact Jb
   | [none], _ => exact Jb
   | [some _], [] => exact Jb
   | [some _], _ :: _ :: _ => exact Jb
   | some _ :: _ :: _, _ => exact Jb
   | none :: _ :: _, _ => exact Jb
  | Subscript a i p =>
   cases i with
   | Slice lo hi st q =>
    cases st with
    | none => exact J2j (x_slD a) (ihe a) (ih.o S X lo G) (ih.o S X hi G)
    | some st => exact Jb
   | _ => exact i_ix (x_ixF a) (ihe a) (ihe _) (Jyh rfl)
  | Attribute o f p =>
   show PEi ce X _ (if Jdm o && P.fld f then eFld f (ev P n S o) else stE)
   split
   ·rename_i hs
    simp only [Bool.and_eq_true] at hs
    exact i_fld (ihe o) (G.pg.fld f hs.2) (Jgj hs.1)
   ·exact Jb
  | Call f args kws p =>
   cases kws with
   | cons kw kws =>
    cases f with
    | Name x q => exact J4a G λ S X e G => ih.e S X e G
    | _ => exact Jb
   | nil =>
    cases f with
    | Name x q =>
     show PEi ce X _ (if S.gl x && args.all Jh then Jxf P n S x args else stE)
     split
     ·rename_i hs
      simp only [Bool.and_eq_true] at hs
      exact ih.c S X x args q p G hs.1 hs.2
     ·exact Jb
    | Attribute o m ap =>
     show PEi ce X _ (if args.all Jh && Jdm o && (ap.endLine == p.line) && decide (args.length < 30) then J2q P m args.length (Js8 P S m o) (ev P n S o) (aAll (args.map (ev P n S))) else stE)
     split
     ·rename_i hs
      simp only [Bool.and_eq_true, decide_eq_true_eq] at hs
      exact Jy9 G (ihe o) ihe hs.1.1.1 hs.1.1.2 hs.1.2 hs.2
     ·exact Jb
    | _ => exact Jb
  | ListComp elt gens sc p =>
   match gens with
   | [⟨tg, iter, ifs, as⟩] =>
    show PEi ce X _ (if as = 0 /\ Ju1 iter = true /\ Je0 S.N (Jo7 sc) (Jnj sc) (jsOf S sc) S.fake sc = true then
     Jxo ifs (evT P n (S.comp sc)) (λ mt => Jy (evI P n S tg iter) (Jo7 sc).length (jsOf S sc) (tgt P n (S.comp sc) tg) mt (ev P n (S.comp sc) elt)) else stE)
    split
    ·rename_i hs
     obtain ⟨rfl, hi, ok⟩ := hs
     have Gc := G.comp ok
     have ok' := ok
     rw [<- Jqk G] at ok'
     match ifs with
     | [] => exact Jzy G.calm (ih.i S X tg iter G) (λ C s H fp => ih.g _ _ tg (Gc C s H fp)) (λ C s H fp => J0n) (λ C s H fp => ih.e _ _ elt (Gc C s H fp)) ok' G.n rfl (Jbh hi)
     | [c] => exact Jzy G.calm (ih.i S X tg iter G) (λ C s H fp => ih.g _ _ tg (Gc C s H fp)) (λ C s H fp => J0a (ih.t _ _ c (Gc C s H fp))) (λ C s H fp => ih.e _ _ elt (Gc C s H fp)) ok' G.n rfl (Jbh hi)
     | _ :: _ :: _ => exact Jb
    ·exact Jb
   | [] => exact Jb
   | ⟨_, _, _, _⟩ :: _ :: _ => exact Jb
  | _ => exact Jb
 ·have ihe := λ e => ih.e S X e G
  have hu := G.room.units
  cases e with
  | UnaryOp op a p =>
   cases op with
   | Not => exact J4u (ih.t S X a G)
   | _ => exact J24 Joj (ihe _)
  | BoolOp op vs p =>
   cases op with
   | And => exact (Jxq (λ e => ih.t S X e G) vs).t
   | Or => exact (J2z (λ e => ih.t S X e G) vs).t
  | IfExp t a b p => exact Jb
  | Compare a ops cs p =>
   match ops, cs with
   | [o], [b] =>
    show PTi ce X _ (if behindInMarks o b then stT else tOfB asB (eBin (cmpD o b) (ev P n S a) (ev P n S b)))
    split
    ·exact Jb
    ·rename_i hb
     exact t_cmp (Jz0 hu o b) (ihe a) (ihe b) (Bool.eq_false_iff.mpr hb)
   | [o, o'], [b, c] =>
    show PTi ce X _ (if lastMarks [o, o'] [b, c] then stT else tOfB asB (Je2 (cmpI o) (cmpI o') (ev P n S a) (ev P n S b) (ev P n S c)))
    split
    ·exact Jb
    ·rename_i hb
     exact J09 (Jxk hu o) (Jxk hu o') (ihe a) (ihe b) (ihe c) (Bool.eq_false_iff.mpr hb)
   | [], _ => exact Jb
   | [_], [] => exact Jb
   | [_], _ :: _ :: _ => exact Jb
   | [_, _], [] => exact Jb
   | [_, _], [_] => exact Jb
   | [_, _], _ :: _ :: _ :: _ => exact Jb
   | _ :: _ :: _ :: _, _ => exact Jb
  | _ => exact J24 Joj (ihe _)
 ·cases e with
  | none => exact J5u
  | some e => exact J44 (ih.e S X e G)
 ·have ihe := λ e => ih.e S X e G
  show PEi ce X _ (match P.fn x with
  | some f => Jl5 f args.length (aAll (args.map (ev P n S)))
  | none => match P.cls x with
   | some f => Js3 x f args.length (aAll (args.map (ev P n S)))
   | none => if P.free x then Jpk P S x (ev P n S) args else stE)
  cases hx : P.fn x with
  | some f => exact Jyl G hx hg ha ihe
  | none =>
   dsimp only
   cases hc : P.cls x with
   | some f => exact Jy5 G hc hg ha ihe
   | none =>
    dsimp only
    split
    ·rename_i hfr
     exact Jwy G ihe hg ha hfr
    ·exact Jb
 ·have ihe := λ e => ih.e S X e G
  cases e with
  | Call f args kws p =>
   cases kws with
   | cons _ _ => cases f <;> exact Jzp (ihe _)
   | nil =>
    cases f with
    | Name x q =>
     show PIi ce X tg _ (if S.gl x && P.free x && args.all Jh && (x == "range") then J4o args.length (aAll (args.map (ev P n S)))
      else if S.gl x && P.free x && args.all Jh && (x == "enumerate") then (match tg, args with
       | .Tuple .., [a] => iRg Je9 (Ja (ev P n S a) aNil)
       | _, _ => stI)
      else iAny (ev P n S (.Call (.Name x q) args [] p)))
     split
     ·rename_i hs
      simp only [Bool.and_eq_true, beq_iff_eq] at hs
      obtain ⟨⟨⟨hg, hf⟩, ha⟩, rfl⟩ := hs
      obtain ⟨gx, _, _⟩ := G.gl hg
      have hm := G.pg.free _ hf
      have pa := Jml ha ihe
      match args, ha, pa with
      | [], _, _ => exact Jlu
      | [a], ha, pa =>
       simp only [List.all_cons, Bool.and_eq_true] at ha
       exact Jzj gx hm pa (Jc ha.1)
      | [a, b], ha, pa =>
       simp only [List.all_cons, Bool.and_eq_true] at ha
       exact Jzd gx hm pa (by rw [Jc ha.1, Jc ha.2.1]; rfl) (Jc ha.2.1)
      | _ :: _ :: _ :: _, _, _ => exact Jlu
     ·split
      ·rename_i hs
       simp only [Bool.and_eq_true, beq_iff_eq] at hs
       obtain ⟨⟨⟨hg, hf⟩, ha⟩, rfl⟩ := hs
       obtain ⟨gx, _, _⟩ := G.gl hg
       have hm := G.pg.free _ hf
       split
       ·simp only [List.all_cons, Bool.and_eq_true] at ha
        exact J0w gx hm (Jhj (ihe _) Jpw (Jc ha.1)) (Jc ha.1)
       ·exact Jlu
      ·exact Jzp (ihe _)
    | _ => exact Jzp (ihe _)
  | _ => exact Jzp (ihe _)
 ·cases e with
  | Name x p =>
   show PGi ce X _ (match S.sto x with | some i => gNm i | none => stG)
   cases hv : S.sto x with
   | none => exact Jix
   | some i =>
    obtain ⟨h1, h2, h3⟩ := G.sto hv
    exact g_nm G.nodup h1 h2 h3
  | Tuple es j p =>
   show PGi ce X _ (if es.all Jh then gTp es.length (gAll (es.map (tgt P n S))) else stG)
   split
   ·rename_i hs
    exact g_tup G.calm (Jz3 hs λ e => ih.g S X e G) (Jz4 hs) (Jwp hs)
   ·exact Jix
  | Subscript o i p =>
   show PGi ce X _ (if Jpt i then gSbF o (ev P n S o) (ev P n S i) else stG)
   split
   ·rename_i hs
    unfold gSbF
    split
    ·refine J3g (ih.e S X o G) (ih.e S X i G) λ v => ?_
     cases i <;> first | rfl | cases hs
    ·refine g_sub (ih.e S X o G) (ih.e S X i G) λ v => ?_
     cases i <;> first | rfl | cases hs
   ·exact Jix
  | _ => exact Jix
theorem Jou (ce : Str -> Option Addr) (k : Nat) (P : Pg) : ∀ n, Snd ce k P n
 | 0 => Jzc
 | n + 1 => Jzh (Jou ce k P n)
end
end L4
namespace L4
open PySem PySem.Spec PyProof.Rows L2 L3
section
variable {ce : Str -> Option Addr} {X : Cx} {pos : Pos}
theorem J04 {c : Expr} {body : List Stmt} {mt : T1} {mb : S1} (hc : PTi ce X c mt) (hb : PS2 ce X body mb) : PS1 ce X (.While c body [] pos) (Jv3 mt mb) := by
 intro pins s σ H ι σi h Q E N K
 unfold Jv3 at K
 generalize J36 = m0 at K
 refine wpAny_While (codeAny_whileLoop (λ n s' => ∃ ιk σk hk σ' H', Now ce X pins ιk σk hk σ' H' s' /\ Nxt ι H ιk H' /\ Jdi ce X pins ιk H' (Jmi mt mb n σk hk) Q E) ?_ m0 ⟨ι, σi, h, σ, H, N, .refl, K⟩)
 rintro n s1 ⟨ι1, σ1i, h1, σ1, H1, N1, n1, K1⟩
 cases n with
 | zero => exact Zf K1
 | succ n =>
  unfold Jmi at K1
  refine nof (hc pins s1 σ1 H1 ι1 σ1i h1 _ (λ _ _ => False) N1 ?_)
  cases et : mt σ1i h1 with
  | exc m h2 => rw [et] at K1; exact Zf K1
  | stuck => rw [et] at K1; exact Zf K1
  | ok b h2 =>
   rw [et] at K1
   intro b' s2 H2 ι2 N2 n2 r2
   have r' : b' = b := r2
   subst r'
   dsimp only at K1
   cases b' with
   | false => exact wpAny_execs_nil (K1 s2 σ1 H2 ι2 N2 n2)
   | true =>
    rw [if_pos rfl]
    rw [if_pos rfl] at K1
    refine nof (hb pins s2 σ1 H2 ι2 σ1i h2 _ (λ _ _ => False) N2 ?_)
    cases eb : mb σ1i h2 with
    | next σ3 h3 =>
     rw [eb] at K1
     exact λ s3 σ3' H3 ι3 N3 n3 => ⟨n, Nat.lt_succ_self n, ι3, σ3, h3, σ3', H3, N3, (n1.trans n2).trans n3, Jdi.mono (r := Jmi mt mb n σ3 h3) K1 (n2.trans n3)⟩
    | cont σ3 h3 =>
     rw [eb] at K1
     exact λ s3 σ3' H3 ι3 N3 n3 => ⟨n, Nat.lt_succ_self n, ι3, σ3, h3, σ3', H3, N3, (n1.trans n2).trans n3, Jdi.mono (r := Jmi mt mb n σ3 h3) K1 (n2.trans n3)⟩
    | brk σ3 h3 =>
     rw [eb] at K1
     exact λ s3 σ3' H3 ι3 N3 n3 => K1 s3 σ3' H3 ι3 N3 (n2.trans n3)
    | ret v h3 =>
     rw [eb] at K1
     exact λ u s3 σ3i σ3' H3 ι3 N3 n3 r => K1 u s3 σ3i σ3' H3 ι3 N3 (n2.trans n3) r
    | exc m σ3 h3 => rw [eb] at K1; exact Zf K1
    | stuck => rw [eb] at K1; exact Zf K1
end
end L4
namespace L4
open PySem PySem.Spec PyProof.Rows L2 L3
section
variable {ce : Str -> Option Addr} {k : Nat} {P : Pg} {n : Nat} {S : Sc} {X : Cx}
theorem Jkx {f : Stmt -> S1} (hf : ∀ s, PS1 ce X s (f s)) : ∀ (l : List Stmt), PS2 ce X l (sAll (l.map f))
 | [] => J37
 | [a] => J5z (hf a)
 | a :: b :: r => J0s (hf a) (Jkx hf (b :: r))
end
section
variable {ce : Str -> Option Addr} {k : Nat} {P : Pg} {S : Sc} {X : Cx} {xi : Xi}
theorem Jzr (G : Good ce k P S X) (O : XiOk X.K X.mg xi) (hi : X.mg "isinstance" = none) (a : Addr) {f : Expr} {as : List Expr} {ks : List Keyword} {p : Pos} {m : Expr -> E1} (hm : ∀ e, PEi ce (Jee X a) e (m e)) : PEi ce (Jee X a) (.Call f as ks p) (J06 S xi f as ks m) := by
 unfold J06
 split
 ·rename_i x q b D q2
  split
  ·rename_i h
   simp only [Bool.and_eq_true, beq_iff_eq] at h
   obtain ⟨⟨⟨rfl, h1⟩, h2⟩, h3⟩ := h
   cases hx : xi D with
   | none => exact Jb
   | some g =>
    obtain ⟨v, hv, hg⟩ := O D g hx
    obtain ⟨gD, db, nn⟩ := G.gl h2
    have hc : ClsE (Jee X a) (.Name D q2) v := by
     rcases hv with z | ⟨z, w⟩
     ·exact Jxg (X := Jee X a) gD z db
     ·exact Jj7 (X := Jee X a) gD z w nn db
    refine J34 (X := Jee X a) (c := v) hc ⟨nofun, nofun, nofun, nofun, nofun, nofun, nofun, nofun, λ c C b e hC => ?_⟩ (hm b) (G.gl h1).1 hi rfl (Jc h3) rfl rfl
    obtain ⟨e1, e2, _⟩ := hg c C b e hC
    exact ⟨e1, e2⟩
  ·exact Jb
 ·exact Jb
theorem J14 (G : Good ce k P S X) (O : XiOk X.K X.mg xi) (hi : X.mg "isinstance" = none) (a : Addr) : ∀ n e, PEi ce (Jee X a) e (hv S xi n e)
 | 0, _ => Jb
 | n + 1, e => by
  have ihe := J14 G O hi a n
  cases e with
  | Constant c j p =>
   cases c with
   | int i => exact J4y
   | bool b => exact i_bl
   | none => exact J3v
   | str x => exact J4k
   | _ => exact Jb
  | Name x p =>
   show PEi ce (Jee X a) (.Name x p) (match S.vis x with | some i => eVar i | none => stE)
   cases hv : S.vis x with
   | some i =>
    obtain ⟨h1, h2, h3, h4⟩ := G.vis hv
    exact J3p (X := Jee X a) i h1 h2 h3 h4
   | none => exact Jb
  | UnaryOp op b p => exact i_un (o_un op) (ihe b)
  | BoolOp op vs p =>
   cases op with
   | And => exact Jxx ihe vs
   | Or => exact J2v ihe vs
  | Tuple es j p =>
   show PEi ce (Jee X a) _ (if es.all Jh then eTup (aAll (es.map (hv S xi n))) else stE)
   split
   ·rename_i hs
    exact J51 (Jml hs ihe)
   ·exact Jb
  | List es p =>
   show PEi ce (Jee X a) _ (if es.all Jh then eLst (aAll (es.map (hv S xi n))) else stE)
   split
   ·rename_i hs
    exact J5m (Jml hs ihe)
   ·exact Jb
  | Call f as ks p =>
   exact Jzr G O hi a ihe
  | _ => exact Jb
theorem J3m (G : Good ce k P S X) (O : XiOk X.K X.mg xi) (hi : X.mg "isinstance" = none) (a : Addr) : ∀ n e, PTi ce (Jee X a) e (hT S xi n e)
 | 0, _ => Jb
 | n + 1, e => by
  have ih := J3m G O hi a n
  cases e with
  | UnaryOp op b p =>
   cases op with
   | Not => exact J4u (ih b)
   | _ => exact Jb
  | BoolOp op vs p =>
   cases op with
   | And => exact (Jxq ih vs).t
   | Or => exact (J2z ih vs).t
  | Call f as ks p => exact J24 Joj (J14 G O hi a n _)
  | _ => exact Jb
theorem hx_ok (G : Good ce k P S X) (O : XiOk X.K X.mg xi) (hi : X.mg "isinstance" = none) (a : Addr) : ∀ n st, PS1 ce (Jee X a) st (hx S xi n st)
 | 0, _ => Jm
 | n + 1, st => by
  have ih := hx_ok G O hi a n
  have ihe := J14 G O hi a n
  cases st with
  | Pass p => exact Jz5
  | Return v p =>
   cases v with
   | none => exact Jm
   | some e => exact J5g (ihe e)
  | If c x y p => exact s_if (J3m G O hi a n c) (Jkx ih x) (Jkx ih y)
  | Assign tgs e p =>
   match tgs with
   | [] => exact Jm
   | b :: _ :: _ => cases b <;> exact Jm
   | [tg] =>
    cases tg with
    | Name x q =>
     show PS1 ce (Jee X a) _ (if Jf7 e then (match S.sto x with | some i => sSet i (hv S xi n e) | none => stS) else stS)
     split
     ·rename_i h
      cases hv : S.sto x with
      | none => exact Jm
      | some i =>
       obtain ⟨h1, h2, h3⟩ := G.sto hv
       exact J25 (X := Jee X a) G.nodup (ihe e) h1 h2 (Jdg h) h3
     ·exact Jm
    | _ => exact Jm
  | _ => exact Jm
end
section
variable {ce : Str -> Option Addr} {k : Nat} {P : Pg} {n : Nat} {S : Sc} {X : Cx}
theorem J2b {tg : Expr} {env : Env} (h : Jh tg = true) : (assignEach [tg] env).map (·.2) = [assign tg env] := by
 cases tg <;> first | rfl | cases h
theorem Jzk (G : Good ce k P S X) (i : Nat) {e : Expr} {x : Str} {p q : Pos} (h : isLC e = true) (h1 : X.N[i]? = some x) (h2 : L2.Loc X.env.scope x) (h3 : X.fn x = true ∨ X.env.scope.names.lookup x = some .local) :
  PS1 ce X (.Assign [.Name x q] e p) (sSet i (ev P n S e)) := by
 cases e with
 | ListComp elt gens sc cp =>
  cases hb : (X.env.blockKind == .function && X.env.kindOf x == some .local && q.line == cp.line && !(sc.names.any λ (n, k) => n == x && (k == .local || k == .cell))) with
  | false =>
   refine J25 G.nodup ((Jou ce k P n).e S X _ G) h1 h2 ?_ h3
   show (pure (X.env.blockKind == .function && X.env.kindOf x == some .local && q.line == cp.line && !(sc.names.any λ (n, k) => n == x && (k == .local || k == .cell))) : Sem Bool) = pure false
   rw [hb]
  | true =>
   have hsw : swapsWith (.ListComp elt gens sc cp) (some (.Name x q)) p.line X.env = pure true := by
    show (pure (X.env.blockKind == .function && X.env.kindOf x == some .local && q.line == cp.line && !(sc.names.any λ (n, k) => n == x && (k == .local || k == .cell))) : Sem Bool) = pure true
    rw [hb]
   have dead : ∀ m : E1, (∀ σ h, m σ h = .stuck) -> PS1 ce X (.Assign [.Name x q] (.ListComp elt gens sc cp) p) (sSet i m) := λ m hm => by
    intro pins s σ H ι σi h Q E N K
    unfold sSet at K
    rw [hm] at K
    exact Zf K
   cases n with
   | zero => exact dead _ λ _ _ => rfl
   | succ n =>
    have ih := Jou ce k P n
    match gens, hsw with
    | [⟨tg, iter, ifs, as⟩], hsw =>
     show PS1 ce X _ (sSet i (if as = 0 /\ Ju1 iter = true /\ Je0 S.N (Jo7 sc) (Jnj sc) (jsOf S sc) S.fake sc = true then
      Jxo ifs (evT P n (S.comp sc)) (λ mt => Jy (evI P n S tg iter) (Jo7 sc).length (jsOf S sc) (tgt P n (S.comp sc) tg) mt (ev P n (S.comp sc) elt)) else stE))
     split
     ·rename_i hs
      obtain ⟨rfl, hi, ok⟩ := hs
      have Gc := G.comp ok
      have ok' := ok
      rw [<- Jqk G] at ok'
      match ifs, hsw with
      | [], hsw => exact J0m G.calm (ih.i S X tg iter G) (λ C s H fp => ih.g _ _ tg (Gc C s H fp)) (λ C s H fp => J0n) (λ C s H fp => ih.e _ _ elt (Gc C s H fp)) ok' G.n rfl (Jbh hi) G.nodup h1 h2 h3 hsw
      | [c], hsw => exact J0m G.calm (ih.i S X tg iter G) (λ C s H fp => ih.g _ _ tg (Gc C s H fp)) (λ C s H fp => J0a (ih.t _ _ c (Gc C s H fp))) (λ C s H fp => ih.e _ _ elt (Gc C s H fp)) ok' G.n rfl (Jbh hi) G.nodup h1 h2 h3 hsw
      | _ :: _ :: _, _ => exact dead _ λ _ _ => rfl
     ·exact dead _ λ _ _ => rfl
    | [], _ => exact dead _ λ _ _ => rfl
    | ⟨_, _, _, _⟩ :: _ :: _, _ => exact dead _ λ _ _ => rfl
 | _ => cases h
theorem Jtk (ce : Str -> Option Addr) (k : Nat) (P : Pg) : ∀ (n : Nat) (S : Sc) (X : Cx) (st : Stmt), Good ce k P S X -> PS1 ce X st (ex P n S st)
 | 0, _, _, _, _ => Jm
 | n + 1, S, X, st, G => by
  have ih := λ st => Jtk ce k P n S X st G
  have E := Jou ce k P n
  have ihe := λ e => E.e S X e G
  cases st with
  | Pass p => exact Jz5
  | Break p => exact J2k
  | Continue p => exact J4q
  | Expr e p =>
   show PS1 ce X _ (if Jf7 e then Jgq (ev P n S e) else stS)
   split
   ·rename_i h
    exact J46 (ihe e) (Jdg h)
   ·exact Jm
  | Return v p =>
   cases v with
   | none => exact J5j
   | some e => exact J5g (ihe e)
  | If c a b p => exact s_if (E.t S X c G) (Jkx ih a) (Jkx ih b)
  | Raise exc cause p => exact Jm
  | Try body hs o f p => exact Jm
  | While c a o p =>
   cases o with
   | nil => exact J04 (E.t S X c G) (Jkx ih a)
   | cons _ _ => exact Jm
  | For tg it a o p =>
   cases o with
   | nil =>
    show PS1 ce X _ (if Ju1 it then sFor (evI P n S tg it) (tgt P n S tg) (sAll (a.map (ex P n S))) else stS)
    split
    ·rename_i h
     exact s_for G.calm (E.i S X tg it G) (E.g S X tg G) (Jkx ih a) (Jbh h)
    ·exact Jm
   | cons _ _ => exact Jm
  | Assign tgs e p =>
   match tgs with
   | [] => exact Jm
   | a :: _ :: _ => cases a <;> exact Jm
   | [tg] =>
    have gen : PS1 ce X (.Assign [tg] e p) (if Jf7 e && ((Jyx tg && J2l e) || Jyr tg) then sAsg (ev P n S e) (tgt P n S tg) else stS) := by
     split
     ·rename_i h
      simp only [Bool.and_eq_true, Bool.or_eq_true] at h
      have hst : Jh tg = true := by
       rcases h.2 with q | q
       ·cases tg <;> first | rfl | (simp [Jyx] at q)
       ·cases tg <;> first | rfl | (simp [Jyr] at q)
      refine s_asg (ihe e) (E.g S X tg G) (Jdg h.1) ?_ (J2b hst)
      rcases h.2 with q | q
      ·cases tg with
       | Tuple es j pp =>
        have q2 := q.2
        cases e <;> first | rfl | (simp [J2l] at q2)
       | _ => simp [Jyx] at q
      ·cases tg with
       | Subscript => cases e <;> rfl
       | _ => simp [Jyr] at q
     ·exact Jm
    cases tg with
    | Name x q =>
     show PS1 ce X _ (if Jf7 e || isLC e then (match S.sto x with | some i => sSet i (ev P n S e) | none => stS) else stS)
     split
     ·rename_i h
      cases hv : S.sto x with
      | none => exact Jm
      | some i =>
       obtain ⟨h1, h2, h3⟩ := G.sto hv
       rcases Bool.or_eq_true _ _ ▸ h with h | h
       ·exact J25 G.nodup (ihe e) h1 h2 (Jdg h) h3
       ·exact Jzk G i h h1 h2 h3
     ·exact Jm
    | Attribute o f q =>
     show PS1 ce X _ (if Jf7 e && P.fld f then Jiq f (ev P n S o) (ev P n S e) else stS)
     split
     ·rename_i h
      simp only [Bool.and_eq_true] at h
      exact s_fld (ihe o) (ihe e) (G.pg.fld f h.2) (Jdg h.1)
     ·exact Jm
    | _ => exact gen
  | _ => exact Jm
end
structure D4 where
 st : Stmt
 qual : Str
 ps : List Str
 N : List Str
 dvs : List IV
noncomputable def D4.sc (d : D4) : Sc := ⟨d.N, (Ji d.st).names, true, d.qual⟩
structure Tab where
 fns : List (Str × D4)
 clss : List (Str × D4)
 meths : List (Str × List (Str × D4))
 cons : List (Str × IV)
 isas : List (Str × List Str)
 flds : List Str
 frees : List Str
 tabs : List Str := []
 razs : List Str := []
 xis : List (Str × List (Str × Bool)) := []
 bass : List Str := []
noncomputable def memS (x : Str) : List Str -> Bool
 | [] => false
 | y :: r => y == x || memS x r
noncomputable def Jlo {α : Type} (x : Str) : List (Str × α) -> Option α
 | [] => none
 | (y, a) :: r => if y == x then some a else Jlo x r
noncomputable def mkPg (T : Tab) (r : D4 -> List IV -> IH -> Res IV) : Pg where
 fn := λ x => (Jlo x T.fns).map λ d => ⟨d.ps.length, d.dvs, r d⟩
 cls := λ x => (Jlo x T.clss).map λ d => ⟨d.ps.length, d.dvs, r d⟩
 meth := λ c m => ((Jlo c T.meths).bind (Jlo m)).map λ d => ⟨d.ps.length, d.dvs, r d⟩
 con := λ x => Jlo x T.cons
 isa := λ x => (Jlo x T.isas).map λ l c => memS c l
 fld := λ x => memS x T.flds
 free := λ x => memS x T.frees
 tabs := λ q => ixOf q T.tabs
 rz := λ x => memS x T.razs
 xi := λ D => (Jlo D T.xis).map λ l c => Jlo c l
 bas := λ x => memS x T.bass
noncomputable def run (T : Tab) : Nat -> D4 -> List IV -> IH -> Res IV
 | 0, _ => λ _ _ => .stuck
 | k + 1, d => fnI d.N.length (sAll ((J4 d.st).map (ex (mkPg T (run T k)) 40 d.sc)))
theorem Jw {α : Type} {x : Str} {a : α} : ∀ {l : List (Str × α)}, Jlo x l = some a -> (x, a) ∈ l
 | [], h => by cases h
 | (y, b) :: r, h => by
  unfold Jlo at h
  split at h
  ·rename_i e
   cases h
   rw [beq_iff_eq.mp e]
   exact List.mem_cons_self
  ·exact List.mem_cons_of_mem _ (Jw h)
theorem Ji5 {x : Str} : ∀ {l : List Str}, memS x l = true -> x ∈ l
 | [], h => by cases h
 | y :: r, h => by
  unfold memS at h
  rcases Bool.or_eq_true _ _ ▸ h with e | e
  ·rw [beq_iff_eq.mp e]
   exact List.mem_cons_self
  ·exact List.mem_cons_of_mem _ (Ji5 e)
structure DefOk (K : W.Frag) (x : Str) (d : D4) (fa : Addr) (fd : FuncData) : Prop where
 fun_ : ∃ dV, FunD K x d.qual d.st fa fd dV
 sc : FnScope d.N d.ps (Ji d.st)
 dv : ∀ j, j <= d.dvs.length -> ∃ ds, Jgr K fd d.ps ds /\ ds.length = d.dvs.length - j /\ ∃ vs, Vals vs ds /\ ∀ ι H, RVs K ι H (d.dvs.drop j) vs
structure TabOk (ce : Str -> Option Addr) (T : Tab) (K : W.Frag) (mg : Str -> Option Value) : Prop where
 fn : ∀ x d, (x, d) ∈ T.fns -> ∃ fa fd, mg x = some (.ref fa) /\ DefOk K x d fa fd
 cls : ∀ x d, (x, d) ∈ T.clss -> ∃ C fa fd, mg x = some (.ref C) /\ ce x = some C /\ Mk K C fa /\ DefOk K "__init__" d fa fd
 meth : ∀ c l m d, (c, l) ∈ T.meths -> (m, d) ∈ l -> ∃ C fa fd, ce c = some C /\ Cls K C /\ Meth K C m fa /\ DefOk K m d fa fd
 con : ∀ x v, (x, v) ∈ T.cons -> ∃ u y, mg x = some u /\ RelV y u /\ ∀ ι H, RV K ι H v y
 isa : ∀ D l, (D, l) ∈ T.isas -> ∃ c, mg D = some c /\ IsOk ce K c λ t => match t with | .ins c => some (memS c l) | .exc _ => none | _ => some false
 fld : ∀ f, f ∈ T.flds -> Jyj ce K f
 free : ∀ x, x ∈ T.frees -> mg x = none
 rz : ∀ x, x ∈ T.razs -> ∃ C, mg x = some (.ref C) /\ W.nsIn K mainGlobals x = some (some (.ref C)) /\ XCls K C
 xi : ∀ D l, (D, l) ∈ T.xis -> ∃ v, (mg D = some v ∨ (mg D = none /\ bootBuiltins D = some v)) /\ ∀ c b, (c, b) ∈ l -> ∃ C, W.nsIn K mainGlobals c = some (some (.ref C)) /\ ExI K C /\ W.kitOne K (.ref C) v = some b /\ W.exmOne K (.ref C) v = some b
 bas : ∀ x, x ∈ T.bass -> ∃ C, mg x = some (.ref C) /\ BasK K C
section
variable {ce : Str -> Option Addr} {T : Tab} {prog : Program} {w : World} {K : W.Frag} {mg : Str -> Option Value} {base : Heap}
theorem Jud {k : Nat} {fa : Addr} {fd : FuncData} {ps : List Str} : FnOk prog w K mg base (CXI prog w) k fa fd ps (spI ce K ps λ _ _ => .stuck) :=
 ⟨λ _ _ _ _ h => h.1, λ _ _ _ _ _ _ _ _ _ _ _ _ _ h => by obtain ⟨_, _, _, _, _, _, z⟩ := h; exact z.elim⟩
theorem pg_of (O : TabOk ce T K mg) (B : T.tabs ≠ [] -> Jyc mg base) (k : Nat) (hD : ∀ x d fa fd, DefOk K x d fa fd -> FnD ce prog w K mg base (4 * k) ⟨d.ps.length, d.dvs, run T k d⟩ fa fd d.ps) : PgOk ce (4 * k) (mkPg T (run T k)) prog w K mg base := by
 refine ⟨λ x f h => ?_, λ x f h => ?_, λ c m f h => ?_, λ x v h => ?_, λ D g h => ?_, λ f h => ?_, λ x h => ?_, λ q j h => B λ e => ?_, λ x h => O.rz x (Ji5 h), λ D g h => ?_, λ x h => O.bas x (Ji5 h)⟩
 ·obtain ⟨d, hd, rfl⟩ := Option.map_eq_some_iff.mp h
  obtain ⟨fa, fd, hm, ok⟩ := O.fn x d (Jw hd)
  obtain ⟨dV, F⟩ := ok.fun_
  exact ⟨fa, fd, d.ps, hm, F.kp, hD x d fa fd ok⟩
 ·obtain ⟨d, hd, rfl⟩ := Option.map_eq_some_iff.mp h
  obtain ⟨C, fa, fd, hm, hC, M, ok⟩ := O.cls x d (Jw hd)
  exact ⟨C, fa, fd, d.ps, hm, hC, M, hD _ d fa fd ok⟩
 ·obtain ⟨d, hd, rfl⟩ := Option.map_eq_some_iff.mp h
  obtain ⟨l, hl, hd⟩ := Option.bind_eq_some_iff.mp hd
  obtain ⟨C, fa, fd, hC, cl, me, ok⟩ := O.meth c l m d (Jw hl) (Jw hd)
  exact ⟨C, fa, fd, d.ps, hC, cl, me, hD m d fa fd ok⟩
 ·exact O.con x v (Jw h)
 ·obtain ⟨l, hl, rfl⟩ := Option.map_eq_some_iff.mp h
  exact O.isa D l (Jw hl)
 ·exact O.fld f (Ji5 h)
 ·exact O.free x (Ji5 h)
 ·have h' : ixOf q T.tabs = some j := h
  rw [e] at h'
  cases h'
 ·obtain ⟨l, hl, rfl⟩ := Option.map_eq_some_iff.mp h
  obtain ⟨v, hv, hc⟩ := O.xi D l (Jw hl)
  refine ⟨v, hv, λ c C b e hC => ?_⟩
  obtain ⟨C', h1, h2⟩ := hc c b (Jw e)
  rw [hC] at h1
  cases h1
  exact h2
theorem J0d (O : TabOk ce T K mg) (B : T.tabs ≠ [] -> Jyc mg base) : ∀ k x d fa fd, DefOk K x d fa fd -> FnD ce prog w K mg base (4 * k) ⟨d.ps.length, d.dvs, run T k d⟩ fa fd d.ps
 | 0, x, d, fa, fd, ok => ⟨rfl, Jud, ok.dv⟩
 | k + 1, x, d, fa, fd, ok => by
  refine ⟨rfl, ?_, ok.dv⟩
  obtain ⟨dV, F⟩ := ok.fun_
  show FnOk prog w K mg base (CXI prog w) (4 * k + 3 + 1) fa fd d.ps (spI ce K d.ps (run T (k + 1) d))
  refine F.fn (m := sAll ((J4 d.st).map (ex (mkPg T (run T k)) 40 d.sc))) ok.sc λ cdv A outer s H E hcd hr => ?_
  refine Jkx (λ st => Jtk ce (4 * k) (mkPg T (run T k)) 40 d.sc _ st ?_) _
  exact ⟨rfl, rfl, ok.sc.nd, ok.sc.kind, rfl, hr.mono (by omega), λ _ _ => rfl, pg_of O B k (J0d O B k), λ _ => ⟨hcd, rfl⟩, λ _ => hr, λ _ => ⟨rfl, rfl⟩⟩
end
end L4
namespace L4
open PySem PySem.Spec PyProof.Rows L2 L3
inductive All {α : Type} (p : α -> Prop) : List α -> Prop
 | nil : All p []
 | cons {a : α} {l : List α} : p a -> All p l -> All p (a :: l)
theorem All.mem {α : Type} {p : α -> Prop} : ∀ {l : List α} {a : α}, All p l -> a ∈ l -> p a
 | _, _, .nil, h => by cases h
 | _, _, .cons h r, m => by
  rcases List.mem_cons.mp m with rfl | m
  ·exact h
  ·exact r.mem m
noncomputable def Jz8 (l : List Str) : Ty -> Option Bool := λ t => match t with | .ins c => some (memS c l) | .exc _ => none | _ => some false
section
variable {T : Tab} {K : W.Frag} {mg : Str -> Option Value}
noncomputable def ceOf (ces : List (Str × Addr)) : Str -> Option Addr := λ c => Jlo c ces
theorem J5k (ces : List (Str × Addr)) (fn : All (λ p : Str × D4 => ∃ fa fd, mg p.1 = some (.ref fa) /\ DefOk K p.1 p.2 fa fd) T.fns)
  (cls : All (λ p : Str × D4 => ∃ C fa fd, mg p.1 = some (.ref C) /\ ceOf ces p.1 = some C /\ Mk K C fa /\ DefOk K "__init__" p.2 fa fd) T.clss)
  (meth : All (λ q : Str × List (Str × D4) => ∃ C, ceOf ces q.1 = some C /\ All (λ p : Str × D4 => ∃ fa fd, Meth K C p.1 fa /\ DefOk K p.1 p.2 fa fd) q.2) T.meths)
  (con : All (λ p : Str × IV => ∃ u y, mg p.1 = some u /\ RelV y u /\ ∀ ι H, RV K ι H p.2 y) T.cons)
  (cl : All (λ p : Str × Addr => ClsI K p.2 /\ All (λ f => Jc8 K p.2 f) T.flds) ces)
  (isa : All (λ q : Str × List Str => ∃ D, mg q.1 = some (.ref D) /\ W.kitOne K (.type "NoneType") (.ref D) = some false /\ W.kitOne K (.type "bool") (.ref D) = some false /\ W.kitOne K (.type "int") (.ref D) = some false /\ W.kitOne K (.type "str") (.ref D) = some false /\
   W.kitOne K (.type "list") (.ref D) = some false /\ W.kitOne K (.type "tuple") (.ref D) = some false /\ W.kitOne K (.type "dict") (.ref D) = some false /\ All (λ p : Str × Addr => W.kitOne K (.ref p.2) (.ref D) = some (memS p.1 q.2)) ces) T.isas)
  (free : All (λ x => mg x = none) T.frees)
  (raz : All (λ x => ∃ C, mg x = some (.ref C) /\ W.nsIn K mainGlobals x = some (some (.ref C)) /\ XCls K C) T.razs := by exact .nil)
  (xis : All (λ q : Str × List (Str × Bool) => ∃ v, (mg q.1 = some v ∨ (mg q.1 = none /\ bootBuiltins q.1 = some v)) /\ All (λ p : Str × Bool => ∃ C, W.nsIn K mainGlobals p.1 = some (some (.ref C)) /\ ExI K C /\ W.kitOne K (.ref C) v = some p.2 /\ W.exmOne K (.ref C) v = some p.2) q.2) T.xis := by exact .nil)
  (bas : All (λ x => ∃ C, mg x = some (.ref C) /\ BasK K C) T.bass := by exact .nil) : TabOk (ceOf ces) T K mg := by
 refine ⟨λ x d h => fn.mem h, λ x d h => cls.mem h, λ c l m d hc hm => ?_, λ x v h => con.mem h, λ D l h => ?_, λ f hf => ?_, λ x h => free.mem h, λ x h => raz.mem h, λ D l h => ?_, λ x h => bas.mem h⟩
 ·obtain ⟨C, hC, hl⟩ := meth.mem hc
  obtain ⟨fa, fd, me, ok⟩ := hl.mem hm
  exact ⟨C, fa, fd, hC, (cl.mem (Jw hC)).1.cl, me, ok⟩
 ·obtain ⟨C, hC, h1, h2, h3, h4, h5, h6, h7, h8⟩ := isa.mem h
  refine ⟨_, hC, ⟨λ b e => ?_, λ b e => ?_, λ b e => ?_, λ b e => ?_, λ b e => ?_, λ b e => ?_, λ b e => ?_, λ k C' b e hk => ?_, (λ k C' b e => by cases e)⟩⟩
  ·cases e; exact h1
  ·cases e; exact h2
  ·cases e; exact h3
  ·cases e; exact h4
  ·cases e; exact h5
  ·cases e; exact h6
  ·cases e; exact h7
  ·cases e
   exact ⟨(cl.mem (Jw hk)).1, h8.mem (Jw hk)⟩
 ·intro c C e
  obtain ⟨h1, h2⟩ := cl.mem (Jw e)
  exact ⟨h1.cl, h2.mem hf⟩
 ·obtain ⟨v, hv, hl⟩ := xis.mem h
  exact ⟨v, hv, λ c b hc => hl.mem hc⟩
theorem len1 {α : Type} {P : List α -> Prop} (F0 : ∀ a, P [a]) : ∀ us : List α, us.length = 1 -> P us
 | [a], _ => F0 a
theorem len2 {α : Type} {P : List α -> Prop} (F0 : ∀ a b, P [a, b]) : ∀ us : List α, us.length = 2 -> P us
 | [a, b], _ => F0 a b
theorem len3 {α : Type} {P : List α -> Prop} (F0 : ∀ a b c, P [a, b, c]) : ∀ us : List α, us.length = 3 -> P us
 | [a, b, c], _ => F0 a b c
theorem len4 {α : Type} {P : List α -> Prop} (F0 : ∀ a b c d, P [a, b, c, d]) : ∀ us : List α, us.length = 4 -> P us
 | [a, b, c, d], _ => F0 a b c d
theorem len5 {α : Type} {P : List α -> Prop} (F0 : ∀ a b c d e, P [a, b, c, d, e]) : ∀ us : List α, us.length = 5 -> P us
 | [a, b, c, d, e], _ => F0 a b c d e
theorem len6 {α : Type} {P : List α -> Prop} (F0 : ∀ a b c d e f, P [a, b, c, d, e, f]) : ∀ us : List α, us.length = 6 -> P us
 | [a, b, c, d, e, f], _ => F0 a b c d e f
theorem len7 {α : Type} {P : List α -> Prop} (F0 : ∀ a b c d e f g, P [a, b, c, d, e, f, g]) : ∀ us : List α, us.length = 7 -> P us
 | [a, b, c, d, e, f, g], _ => F0 a b c d e f g
theorem upto3 : ∀ j : Nat, j <= 3 -> j = 0 ∨ j = 1 ∨ j = 2 ∨ j = 3 := by omega
theorem Jz2 {x : Str} {d : D4} {fa : Addr} {oc kV doc pm cdv ct : Value} {od an : Option Addr} {osl : Array (Option Value)} (lk : K.lookup fa = some ⟨oc, od, .func (W.fnOf x d.qual (Ja1 d.st) (J4 d.st) (Ji d.st) .none kV doc pm an cdv ct), osl⟩)
  (hc : W.codeIn K cdv d.qual = true) (hk : W.keepIn K (.ref fa) = true) (sc : FnScope d.N d.ps (Ji d.st)) (hd : d.dvs = [])
  (hb : ∀ us : List Value, us.length = d.ps.length -> bindArgs (W.fnOf x d.qual (Ja1 d.st) (J4 d.st) (Ji d.st) .none kV doc pm an cdv ct) ⟨us, []⟩ = pure (d.ps.zip us)) :
  DefOk K x d fa (W.fnOf x d.qual (Ja1 d.st) (J4 d.st) (Ji d.st) .none kV doc pm an cdv ct) :=
 ⟨⟨_, ⟨oc, od, kV, doc, pm, an, cdv, ct, osl, rfl, lk, hc⟩, hk⟩, sc, λ j hj => ⟨[], .all hb, by rw [hd]; simp, [], .nil, by rw [hd]; intro _ _; cases j <;> exact rfl⟩⟩
noncomputable def scOk (N P : List Str) (sc : Scope) : Bool :=
 sc.kind == .function && !sc.isCoroutine && !sc.isGenerator && decide N.Nodup && decide (N.take P.length = P) && P.all (λ x => sc.names.lookup x == some .local || sc.names.lookup x == some .cell) && sc.names.all (λ y => !(y.2 == .free))
theorem scOk.of {N P : List Str} {sc : Scope} (h : scOk N P sc = true) : FnScope N P sc := by
 simp only [scOk, Bool.and_eq_true, beq_iff_eq, Bool.not_eq_true', decide_eq_true_eq, List.all_eq_true, Bool.or_eq_true, beq_eq_false_iff_ne] at h
 obtain ⟨⟨⟨⟨⟨⟨h1, h2⟩, h3⟩, h4⟩, h5⟩, h6⟩, h7⟩ := h
 exact ⟨h1, h2, h3, h4, h5, h6, h7⟩
noncomputable def FnB (x q : Str) (d : D4) : Prop := FnScope d.N d.ps (Ji d.st) /\ d.dvs = [] /\ d.qual = q /\ ∀ (kV doc pm : Value) (an : Option Addr) (cdv ct : Value) (us : List Value), us.length = d.ps.length -> bindArgs (W.fnOf x d.qual (Ja1 d.st) (J4 d.st) (Ji d.st) .none kV doc pm an cdv ct) ⟨us, []⟩ = pure (d.ps.zip us)
section
variable {x q : Str} {d : D4} {h : Heap} {a C : Addr} {oc kV dc pm cd ct : Value} {od an : Option Addr} {sl : Array (Option Value)}
theorem Jvh (B : FnB x q d) (hl : K.lookup a = some ⟨oc, od, .func (W.fnOf x q (Ja1 d.st) (J4 d.st) (Ji d.st) .none kV dc pm an cd ct), sl⟩) (hc : W.codeIn K cd q = true) (hk : W.keepIn K (.ref a) = true) : ∃ fd, DefOk K x d a fd := by
 obtain ⟨s, v, rfl, b⟩ := B
 exact ⟨_, Jz2 hl hc hk s v (b _ _ _ _ _ _)⟩
theorem Jaw (X : K.In h) (G : h.Ns mainGlobals mg) (B : FnB x q d) (ha : W.nsIn K mainGlobals x = some (some (.ref a))) (hl : K.lookup a = some ⟨oc, od, .func (W.fnOf x q (Ja1 d.st) (J4 d.st) (Ji d.st) .none kV dc pm an cd ct), sl⟩) (hc : W.codeIn K cd q = true) (hk : W.keepIn K (.ref a) = true) : ∃ fa fd, mg x = some (.ref fa) /\ DefOk K x d fa fd :=
 let ⟨fd, D⟩ := Jvh B hl hc hk
 ⟨a, fd, W.mg_of X G ha, D⟩
theorem Jli (B : FnB x q d) (ha : W.findIn K (.ref C) x = some (some (.ref a))) (hi : W.isFn K (.ref a) = true) (hl : K.lookup a = some ⟨oc, od, .func (W.fnOf x q (Ja1 d.st) (J4 d.st) (Ji d.st) .none kV dc pm an cd ct), sl⟩) (hc : W.codeIn K cd q = true) (hk : W.keepIn K (.ref a) = true) : ∃ fa fd, Meth K C x fa /\ DefOk K x d fa fd :=
 let ⟨fd, D⟩ := Jvh B hl hc hk
 ⟨a, fd, ⟨ha, hi, hk⟩, D⟩
theorem Jvy (B : FnB "__init__" q d) (ha : W.findIn K (.ref C) "__init__" = some (some (.ref a))) (hi : W.isFn K (.ref a) = true) (hl : K.lookup a = some ⟨oc, od, .func (W.fnOf "__init__" q (Ja1 d.st) (J4 d.st) (Ji d.st) .none kV dc pm an cd ct), sl⟩) (hc : W.codeIn K cd q = true) (hk : W.keepIn K (.ref a) = true) (hm : W.makesIn K C = true) (hq : W.keepIn K (.ref C) = true) : ∃ fa fd, Mk K C fa /\ DefOk K "__init__" d fa fd :=
 let ⟨fd, D⟩ := Jvh B hl hc hk
 ⟨a, fd, ⟨hm, ha, hi, hq⟩, D⟩
end
theorem J17 {ce : Str -> Option Addr} {prog : Program} {w : World} {base : Heap} (O : TabOk ce T K mg) (B : T.tabs ≠ [] -> Jyc mg base) (k : Nat) {d : D4} {fa : Addr} {fd : FuncData} {x : Str} (hp : d.ps = [x]) (ok : DefOk K "law" d fa fd) :
  FnOk prog w K mg base (CXI prog w) (4 * k) fa fd [x] (Juy K x (run T k d)) := by
 have := (J0d (prog := prog) (w := w) (base := base) O B k "law" d fa fd ok).ok
 rw [hp] at this
 exact Jys this
end
end L4
namespace L4
open PySem PySem.Spec PyProof.Rows L2 L3
noncomputable def WR {α : Type} (r : Res α) (Q : α -> IH -> Prop) : Prop := match r with
 | .ok a h => Q a h
 | _ => False
noncomputable def WS (r : SRes) (N : ISt -> IH -> Prop) (R : IV -> IH -> Prop) : Prop := match r with
 | .next σ h => N σ h
 | .ret v h => R v h
 | _ => False
section
variable {α β : Type} {σ : ISt} {h : IH} {Q : α -> IH -> Prop} {N : ISt -> IH -> Prop} {R : IV -> IH -> Prop}
theorem WR.mono {r : Res α} {P Q : α -> IH -> Prop} (x : WR r P) (f : ∀ a h, P a h -> Q a h) : WR r Q := by
 cases r with
 | ok a h => exact f a h x
 | exc n h => exact x
 | stuck => exact x
theorem WR.of_eq {r : Res α} {a : α} {h : IH} (e : r = .ok a h) (q : Q a h) : WR r Q := by rw [e]; exact q
theorem WR.eq {r : Res α} (x : WR r Q) : ∃ a h, r = .ok a h /\ Q a h := by
 cases r with
 | ok a h => exact ⟨a, h, rfl, x⟩
 | exc n h => exact x.elim
 | stuck => exact x.elim
theorem WS.mono {r : SRes} {N N' : ISt -> IH -> Prop} {R R' : IV -> IH -> Prop} (x : WS r N R) (f : ∀ σ h, N σ h -> N' σ h) (g : ∀ v h, R v h -> R' v h) : WS r N' R' := by
 cases r with
 | next σ h => exact f σ h x
 | ret v h => exact g v h x
 | _ => exact x
theorem Je8 (a : α) : WR (.ok a h) Q = Q a h := rfl
theorem Jzb : WR (.stuck : Res α) Q = False := rfl
theorem Je (r : Res α) (f : α -> IH -> Res β) (Q : β -> IH -> Prop) : WR (r.bind f) Q = WR r λ a h => WR (f a h) Q := by cases r <;> rfl
theorem Jn2 (r : Res α) : WR r.nx Q = WR r Q := by cases r <;> rfl
theorem Jfa (c : Prop) [Decidable c] (x y : Res α) : WR (if c then x else y) Q = ((c -> WR x Q) /\ (¬ c -> WR y Q)) := by
 by_cases hc : c <;> simp [hc]
theorem Jdj (r : Res α) (k : α -> IH -> SRes) : WS (rS σ r k) N R = WR r λ a h => WS (k a h) N R := by cases r <;> rfl
theorem Jhx (r : SRes) (Q : IV -> IH -> Prop) : WR r.fin Q = WS r (λ _ h => Q .non h) Q := by
 cases r with
 | exc n σ h => show WR (match h[n]? with | some (.exc _ _) => Res.exc n h | _ => Res.stuck) Q = False; split <;> rfl
 | _ => rfl
theorem Jb3 (σ : ISt) : WS (.next σ h) N R = N σ h := rfl
theorem Jgy (v : IV) : WS (.ret v h) N R = R v h := rfl
theorem Jg8 (a b : S1) : WS (sSeq a b σ h) N R = WS (a σ h) (λ σ1 h1 => WS (b σ1 h1) N R) R := by
 unfold sSeq; cases a σ h <;> rfl
theorem Jez : WS (sNil σ h) N R = N σ h := rfl
theorem Jc0 : WS (Jzt σ h) N R = N σ h := rfl
theorem Jhd (i : Nat) (e : E1) : WS (sSet i e σ h) N R = WR (e σ h) λ v h1 => N (σ.set i (some v)) h1 := by unfold sSet; rw [Jdj]; rfl
theorem Jnx (t : T1) (a b : S1) : WS (sIf t a b σ h) N R = WR (t σ h) λ c h1 => (c = true -> WS (a σ h1) N R) /\ (c = false -> WS (b σ h1) N R) := by
 unfold sIf; rw [Jdj]; congr 1; funext c h1; cases c <;> simp
theorem Jc3 (e : E1) : WS (sRet e σ h) N R = WR (e σ h) R := by unfold sRet; rw [Jdj]; rfl
theorem Jcu : WS (J2d σ h) N R = R .non h := rfl
theorem Jcq (e : E1) : WS (Jgq e σ h) N R = WR (e σ h) λ _ h1 => N σ h1 := by unfold Jgq; rw [Jdj]; rfl
theorem Jgt (e : E1) (g : G1) : WS (sAsg e g σ h) N R = WR (e σ h) λ v h1 => WS (g v σ h1) N R := by unfold sAsg; rw [Jdj]
theorem Jho (i : Nat) (v : IV) : WS (gNm i v σ h) N R = N (σ.set i (some v)) h := rfl
theorem Jxu (n : Nat) (g : List IV -> ISt -> IH -> SRes) (xs : List IV) : WS (gTp n g (.tup xs) σ h) N R = (xs.length = n /\ WS (g xs σ h) N R) := by
 unfold gTp
 by_cases hn : xs.length = n
 ·simp [hn]
 ·simp [hn, WS]
theorem J16 : WS (gN [] σ h) N R = N σ h := rfl
theorem J2c (i : Nat) (r : List IV -> ISt -> IH -> SRes) (v : IV) (vs : List IV) : WS (gC (gNm i) r (v :: vs) σ h) N R = WS (r vs (σ.set i (some v)) h) N R := rfl
theorem Jm8 (f : Str) (o e : E1) : WS (Jiq f o e σ h) N R = WR (e σ h) λ v h1 => WR (o σ h1) λ ov h2 => ∃ i c fs, ov = .ref i /\ h2[i]? = some (.ins c fs) /\ fs.length < 1000 /\ N σ (h2.set i (.ins c (putI f v fs))) := by
 unfold Jiq; rw [Jdj]; congr 1; funext v h1; rw [Jdj]; congr 1; funext ov h2
 cases ov with
 | ref i =>
  cases e : h2[i]? with
  | none => simp [WS, e]
  | some o =>
   cases o with
   | ins c fs =>
    by_cases hl : fs.length < 1000
    ·simp only [e, hl, if_true, WS]
     refine propext ⟨λ q => ⟨i, c, fs, rfl, e, hl, q⟩, λ ⟨i', c', fs', e1, e2, _, q⟩ => ?_⟩
     cases e1
     rw [e] at e2
     cases e2
     exact q
    ·simp only [e, hl, if_false, WS]
     refine propext ⟨λ q => q.elim, λ ⟨i', c', fs', e1, e2, hl', _⟩ => ?_⟩
     cases e1
     rw [e] at e2
     cases e2
     exact hl hl'
   | _ => simp [WS, e]
 | _ => simp [WS]
theorem Jhf (it : I1) (g : G1) (b : S1) : WS (sFor it g b σ h) N R = WR (it σ h) λ J h1 => WS (Jgp J.chk g b J.xs σ h1) N R := by unfold sFor; rw [Jdj]
theorem Jvl (v : IV) (Q : IV -> IH -> Prop) : WR (eC v σ h) Q = Q v h := rfl
theorem Jgz (f : IV -> IV -> IH -> Res IV) (a b : E1) (Q : IV -> IH -> Prop) : WR (eBin f a b σ h) Q = WR (a σ h) λ x h1 => WR (b σ h1) λ y h2 => WR (f x y h2) Q := by
 unfold eBin; rw [Je]; congr 1; funext x h1; rw [Je]
theorem Jn8 (f : IV -> IH -> Res IV) (a : E1) (Q : IV -> IH -> Prop) : WR (eUn f a σ h) Q = WR (a σ h) λ x h1 => WR (f x h1) Q := by unfold eUn; rw [Je]
theorem Jhn (a b : E1) (tr : IV -> IH -> Res Bool) (Q : IV -> IH -> Prop) : WR (eAnd a b tr σ h) Q = WR (a σ h) λ x h1 => WR (tr x h1) λ c h2 => (c = true -> WR (b σ h2) Q) /\ (c = false -> Q x h2) := by
 unfold eAnd; rw [Je]; congr 1; funext x h1; rw [Je]; congr 1; funext c h2; cases c <;> simp [WR]
theorem Jn5 (a b : E1) (tr : IV -> IH -> Res Bool) (Q : IV -> IH -> Prop) : WR (eOr a b tr σ h) Q = WR (a σ h) λ x h1 => WR (tr x h1) λ c h2 => (c = true -> Q x h2) /\ (c = false -> WR (b σ h2) Q) := by
 unfold eOr; rw [Je]; congr 1; funext x h1; rw [Je]; congr 1; funext c h2; cases c <;> simp [WR]
theorem Jn4 (t : T1) (a b : E1) (Q : IV -> IH -> Prop) : WR (eIf t a b σ h) Q = WR (t σ h) λ c h1 => (c = true -> WR (a σ h1) Q) /\ (c = false -> WR (b σ h1) Q) := by
 unfold eIf; rw [Je]; congr 1; funext c h1; cases c <;> simp
theorem Jc1 (a b : T1) (Q : Bool -> IH -> Prop) : WR (Jtw a b σ h) Q = WR (a σ h) λ c h1 => (c = true -> WR (b σ h1) Q) /\ (c = false -> Q false h1) := by
 unfold Jtw; rw [Je]; congr 1; funext c h1; cases c <;> simp [WR]
theorem Jhh (a b : T1) (Q : Bool -> IH -> Prop) : WR (tOrI a b σ h) Q = WR (a σ h) λ c h1 => (c = true -> Q true h1) /\ (c = false -> WR (b σ h1) Q) := by
 unfold tOrI; rw [Je]; congr 1; funext c h1; cases c <;> simp [WR]
theorem Jcw (a : T1) (Q : Bool -> IH -> Prop) : WR (Jb6 a σ h) Q = WR (a σ h) λ c h1 => Q (!c) h1 := by unfold Jb6; rw [Je]; rfl
theorem Jcr (tr : IV -> IH -> Res Bool) (a : E1) (Q : Bool -> IH -> Prop) : WR (tOfB tr a σ h) Q = WR (a σ h) λ x h1 => WR (tr x h1) Q := by unfold tOfB; rw [Je]
theorem Jau (f g : IV -> IV -> IH -> Res IV) (a b c : E1) (Q : IV -> IH -> Prop) : WR (Je2 f g a b c σ h) Q = WR (a σ h) λ x h1 => WR (b σ h1) λ y h2 => WR (f x y h2) λ k h3 => ∃ t, k = .bl t /\ (t = true -> WR (c σ h3) λ z h4 => WR (g y z h4) Q) /\ (t = false -> Q (.bl false) h3) := by
 unfold Je2; rw [Je]; congr 1; funext x h1; rw [Je]; congr 1; funext y h2; rw [Je]; congr 1; funext k h3
 cases k with
 | bl t =>
  cases t with
  | true =>
   show WR ((c σ h3).bind λ z h4 => g y z h4) Q = _
   rw [Je]
   simp
  | false => simp [WR]
 | _ => simp [WR]
theorem Jc2 (Q : List IV -> IH -> Prop) : WR (aNil σ h) Q = Q [] h := rfl
theorem Ja7 (a : E1) (r : A1) (Q : List IV -> IH -> Prop) : WR (Ja a r σ h) Q = WR (a σ h) λ x h1 => WR (r σ h1) λ xs h2 => Q (x :: xs) h2 := by
 unfold Ja; rw [Je]; congr 1; funext x h1; rw [Je]; rfl
theorem Jgu (a : A1) (Q : IV -> IH -> Prop) : WR (eTup a σ h) Q = WR (a σ h) λ xs h1 => xs.length <= sizeLine /\ Q (.tup xs) h1 := by
 unfold eTup; rw [Je]; congr 1; funext xs h1; rw [Jfa]
 by_cases hz : xs.length <= sizeLine <;> simp [hz, WR]
theorem Jg6 (a : A1) (Q : IV -> IH -> Prop) : WR (eLst a σ h) Q = WR (a σ h) λ xs h1 => xs.length <= sizeLine /\ Q (.ref h1.length) (h1 ++ [.lst xs]) := by
 unfold eLst; rw [Je]; congr 1; funext xs h1; rw [Jfa]
 by_cases hz : xs.length <= sizeLine <;> simp [hz, WR]
theorem Jc4 (f : List IV -> IH -> Res IV) (d : List IV) (a : A1) (Q : IV -> IH -> Prop) : WR (Jn f d a σ h) Q = WR (a σ h) λ vs h1 => WR (f (vs ++ d) h1) Q := by
 unfold Jn; rw [Je]
theorem Jc5 (c : Str) (f : List IV -> IH -> Res IV) (d : List IV) (a : A1) (Q : IV -> IH -> Prop) : WR (Jmc c f d a σ h) Q = WR (a σ h) λ vs h1 => WR (f (.ref h1.length :: (vs ++ d)) (h1 ++ [.ins c []])) λ r h2 => r = .non /\ Q (.ref h1.length) h2 := by
 unfold Jmc; rw [Je]; congr 1; funext vs h1; rw [Je]; congr 1; funext r h2; cases r <;> simp [WR]
theorem Jnn (f : List IV -> IH -> Res IV) (a : A1) (Q : IV -> IH -> Prop) : WR (eCB f a σ h) Q = WR (a σ h) λ vs h1 => WR (f vs h1) Q := by unfold eCB; rw [Je]
theorem Jhs (f : IV -> IH -> Res IV) (x : IV) (Q : IV -> IH -> Prop) : WR (on1 f [x] h) Q = WR (f x h) Q := rfl
theorem J4w (f : IV -> IV -> IH -> Res IV) (x y : IV) (Q : IV -> IH -> Prop) : WR (on2 f [x, y] h) Q = WR (f x y h) Q := rfl
theorem Jg7 (ans : Ty -> Option Bool) (e : E1) (Q : IV -> IH -> Prop) : WR (eIsi ans e σ h) Q = WR (e σ h) λ v h1 => ∃ b, (tyI v h1).bind ans = some b /\ Q (.bl b) h1 := by
 unfold eIsi; rw [Je]; congr 1; funext v h1
 cases (tyI v h1).bind ans <;> simp [WR]
theorem Ja9 (Q : Option Int -> IH -> Prop) : WR (Jpg σ h) Q = Q none h := rfl
theorem Jbd (e : E1) (Q : Option Int -> IH -> Prop) : WR (Jld e σ h) Q = WR (e σ h) λ v h1 => ∃ i, v = .int i /\ Q (some i) h1 := by
 unfold Jld; rw [Je]; congr 1; funext v h1; cases v <;> simp [WR]
theorem Jn3 (f : IV -> Option Int -> Option Int -> IH -> Res IV) (e : E1) (lo hi : O1) (Q : IV -> IH -> Prop) : WR (eSl f e lo hi σ h) Q = WR (e σ h) λ x h1 => WR (lo σ h1) λ l h2 => WR (hi σ h2) λ u h3 => WR (f x l u h3) Q := by
 unfold eSl; rw [Je]; congr 1; funext x h1; rw [Je]; congr 1; funext l h2; rw [Je]
noncomputable def Jp2 (f : Str) (v : IV) (h : IH) : Option IV := match v with
 | .ref i => (match h[i]? with
  | some (.ins _ fs) => fs.lookup f
  | _ => none)
 | _ => none
theorem Jg9 (f : Str) (o : E1) (Q : IV -> IH -> Prop) : WR (eFld f o σ h) Q = WR (o σ h) λ v h1 => ∃ x, Jp2 f v h1 = some x /\ Q x h1 := by
 unfold eFld; rw [Je]; congr 1; funext v h1
 cases v with
 | ref i =>
  unfold Jp2
  cases e : h1[i]? with
  | none => simp [WR, e]
  | some ob =>
   cases ob with
   | ins c fs => cases e2 : fs.lookup f <;> simp [WR, e, e2]
   | _ => simp [WR, e]
 | _ => simp [WR, Jp2]
variable {i j : Int} {x y : Str} {P : IV -> IH -> Prop}
theorem Jg1 (i j : Int) : WR (Jo (.int i) (.int j) h) P = P (.int (i + j)) h := rfl
theorem Jg4 (i j : Int) : WR (Jnk (.int i) (.int j) h) P = P (.int (i - j)) h := rfl
theorem Jhq (i : Int) : WR (J1s (.int i) h) P = P (.int (-i)) h := rfl
theorem Jhl (i j : Int) : WR (Jfx (.int i) (.int j) h) P = (Jb1 i j /\ P (.int (i * j)) h) := by
 show WR (Jtr (.int i) (.int j) h) P = _
 unfold Jtr; rw [Jfa]; by_cases hm : Jb1 i j <;> simp [hm, WR]
theorem Jcx (i j : Int) : WR (Jaj (.int i) (.int j) h) P = ((0 < j /\ j.natAbs.log2 < 9000) /\ P (.int (i / j)) h) := by
 unfold Jaj; rw [Jfa]; by_cases hm : 0 < j /\ j.natAbs.log2 < 9000 <;> simp [hm, WR]
theorem Jg5 (i j : Int) : WR (Ju (.int i) (.int j) h) P = (0 < j /\ P (.int (i % j)) h) := by
 unfold Ju; rw [Jfa]; by_cases hm : 0 < j <;> simp [hm, WR]
theorem Jhm (i j : Int) : WR (Jiy (.int i) (.int j) h) P = ((0 <= j /\ j <= 1000000 /\ i.natAbs < 2 ^ 64) /\ P (.int (i ^ j.toNat)) h) := by
 unfold Jiy; rw [Jfa]; by_cases hm : 0 <= j /\ j <= 1000000 /\ i.natAbs < 2 ^ 64 <;> simp [hm, WR]
theorem Jcs (x y : Str) : WR (Jo (.str x) (.str y) h) P = (x.length + y.length <= sizeLine /\ P (.str (x ++ y)) h) := by
 unfold Jo; rw [Jfa]; by_cases hm : x.length + y.length <= sizeLine <;> simp [hm, WR]
theorem Jnz (i j : Int) : WR (cLt (.int i) (.int j) h) P = P (.bl (decide (i < j))) h := rfl
theorem Jnh (i j : Int) : WR (cLe (.int i) (.int j) h) P = P (.bl (decide (i <= j))) h := rfl
theorem J4x (x y : Str) : WR (cLe (.str x) (.str y) h) P = P (.bl (!decide (y.cps.toList < x.cps.toList))) h := rfl
theorem Jnv (i j : Int) : WR (cGt (.int i) (.int j) h) P = P (.bl (decide (j < i))) h := rfl
theorem Jnt (i j : Int) : WR (cGe (.int i) (.int j) h) P = P (.bl (decide (j <= i))) h := rfl
theorem Jnu (i j : Int) : WR (cEq (.int i) (.int j) h) P = P (.bl (decide (i = j))) h := rfl
theorem Jno (i j : Int) : WR (cNe (.int i) (.int j) h) P = P (.bl (!decide (i = j))) h := rfl
theorem Jhu (x y : Str) : WR (cEq (.str x) (.str y) h) P = P (.bl (decide (x = y))) h := rfl
theorem Jhc (x y : Str) : WR (cNe (.str x) (.str y) h) P = P (.bl (!decide (x = y))) h := rfl
theorem Jhg (b : Bool) (P : Bool -> IH -> Prop) : WR (asB (.bl b) h) P = P b h := rfl
theorem Jcz (b : Bool) (P : Bool -> IH -> Prop) : WR (tru (.bl b) h) P = P b h := rfl
theorem Jhk (tr : IV -> IH -> Res Bool) (v : IV) : WR (Jub tr v h) P = WR (tr v h) λ c h1 => P (.bl (!c)) h1 := by unfold Jub; rw [Je]; rfl
theorem J5f (v w : IV) : WR (cIs v w h) P = ∃ b, isI v w = some b /\ P (.bl b) h := by unfold cIs; cases isI v w <;> simp [WR]
theorem Ja5 {chk : IH -> Prop} {g : G1} {b : S1} (I : Nat -> ISt -> IH -> Prop) {xs : List IV} (hc : ∀ i σ h, I i σ h -> chk h)
  (turn : ∀ i (hi : i < xs.length) σ h, I i σ h -> WS (g xs[i] σ h) (λ σ1 h1 => WS (b σ1 h1) (I (i + 1)) R) λ _ _ => False) (done : ∀ σ h, I xs.length σ h -> N σ h) (start : I 0 σ h) : WS (Jgp chk g b xs σ h) N R := by
 have key : ∀ (n i : Nat) (σ : ISt) (h : IH), xs.length - i = n -> i <= xs.length -> I i σ h -> WS (Jgp chk g b (xs.drop i) σ h) N R := by
  intro n
  induction n with
  | zero =>
   intro i σ h hn hi hI
   have : i = xs.length := by omega
   subst this
   rw [List.drop_length]
   unfold Jgp
   rw [if_pos (hc _ _ _ hI)]
   exact done _ _ hI
  | succ n ih =>
   intro i σ h hn hi hI
   have hlt : i < xs.length := by omega
   rw [List.drop_eq_getElem_cons hlt]
   unfold Jgp
   rw [if_pos (hc _ _ _ hI)]
   have t := turn i hlt σ h hI
   cases eg : g xs[i] σ h with
   | next σ1 h1 =>
    rw [eg] at t
    have t' : WS (b σ1 h1) (I (i + 1)) R := t
    dsimp only
    cases eb : b σ1 h1 with
    | next σ2 h2 => rw [eb] at t'; exact ih (i + 1) σ2 h2 (by omega) hlt t'
    | ret v h2 => rw [eb] at t'; exact t'
    | brk σ2 h2 => rw [eb] at t'; exact t'.elim
    | cont σ2 h2 => rw [eb] at t'; exact t'.elim
    | exc m σ2 h2 => rw [eb] at t'; exact t'.elim
    | stuck => rw [eb] at t'; exact t'.elim
   | ret v h1 => rw [eg] at t; exact t.elim
   | brk σ2 h2 => rw [eg] at t; exact t.elim
   | cont σ2 h2 => rw [eg] at t; exact t.elim
   | exc m σ2 h2 => rw [eg] at t; exact t.elim
   | stuck => rw [eg] at t; exact t.elim
 have := key xs.length 0 σ h (by omega) (Nat.zero_le _) start
 simpa using this
end
end L4
namespace L4
open PySem PySem.Spec PyProof.Rows L2 L3
section
variable {α : Type} {h h1 : IH} {a : α} {r : Res α} {P : IV -> IH -> Prop}
theorem Jdn (x : WR r λ v h' => v = a /\ h' = h1) : r = .ok a h1 := by
 obtain ⟨_, _, e, rfl, rfl⟩ := x.eq
 exact e
theorem Jju (xs : List IV) (n : Int) : WR (opIx (.tup xs) (.int n) h) P = ∃ x, atI xs n = some x /\ P x h := by
 unfold opIx; cases e : atI xs n <;> simp [WR, e]
theorem Jkz (xs : List IV) (n : Int) : WR (opIx (.rol xs) (.int n) h) P = ∃ x, atI xs n = some x /\ P x h := by
 unfold opIx; cases e : atI xs n <;> simp [WR, e]
theorem Jbo (i : Nat) (n : Int) : WR (opIx (.ref i) (.int n) h) P = ∃ xs, h[i]? = some (.lst xs) /\ ∃ x, atI xs n = some x /\ P x h := by
 unfold opIx
 cases e : h[i]? with
 | none => simp [WR, e]
 | some o =>
  cases o with
  | lst xs => cases e2 : atI xs n <;> simp [WR, e, e2]
  | _ => simp [WR, e]
theorem Jfi (xs : List IV) : WR (lenI (.tup xs) h) P = P (.int xs.length) h := rfl
theorem Jgb (xs : List IV) : WR (lenI (.rol xs) h) P = P (.int xs.length) h := rfl
theorem Jov (i : Nat) : WR (lenI (.ref i) h) P = ∃ xs, h[i]? = some (.lst xs) /\ P (.int xs.length) h := by
 unfold lenI
 cases e : h[i]? with
 | none => simp [WR, e]
 | some o => cases o <;> simp [WR, e]
theorem Jfr (x : Str) : WR (lenI (.str x) h) P = (x.length <= sizeLine /\ P (.int x.length) h) := by
 unfold lenI; rw [Jfa]; by_cases hm : x.length <= sizeLine <;> simp [hm, WR]
theorem Jax {xs : List α} {n : Nat} {x : α} (e : xs[n]? = some x) : atI xs (n : Int) = some x := by
 have hn : n < xs.length := (List.getElem?_eq_some_iff.mp e).1
 have : (n : Int) < xs.length := by omega
 simp [atI, ixN, this, e]
theorem Jfj {x : α} {xs : List α} : atI (x :: xs) 0 = some x := by simp [atI, ixN]
theorem Jfk {x y : α} {xs : List α} : atI (x :: y :: xs) 1 = some y := Jax (n := 1) rfl
theorem Jh7 {x y z : α} {xs : List α} : atI (x :: y :: z :: xs) 2 = some z := Jax (n := 2) rfl
theorem Jle {x y z u : α} {xs : List α} : atI (x :: y :: z :: u :: xs) 3 = some u := Jax (n := 3) rfl
theorem Joo {x y z u v : α} {xs : List α} : atI (x :: y :: z :: u :: v :: xs) 4 = some v := Jax (n := 4) rfl
theorem Jw1 {xs : List α} {n : Int} {x : α} (h0 : 0 <= n) (e : xs[n.toNat]? = some x) : atI xs n = some x := by
 have := Jax e
 rwa [Int.toNat_of_nonneg h0] at this
theorem Jfu (i : Int) : tyI (.int i) h = some .int := rfl
theorem Jkt (x : Str) : tyI (.str x) h = some .str := rfl
theorem Jk0 (xs : List IV) : tyI (.tup xs) h = some .tup := rfl
theorem Jqc (b : Bool) : tyI (.bl b) h = some .bl := rfl
theorem Jk6 : tyI .non h = some .non := rfl
theorem Jks (xs : List IV) : tyI (.rol xs) h = some .lst := rfl
theorem J0o {i : Nat} {xs : List IV} (e : h[i]? = some (.lst xs)) : tyI (.ref i) h = some .lst := by simp [tyI, e]
theorem grow {i : Nat} {o : IO} {g : IH} (e : h[i]? = some o) : (h ++ g)[i]? = some o := by
 rw [List.getElem?_append_left (List.getElem?_eq_some_iff.mp e).1]; exact e
theorem Jj {o : IO} : (h ++ [o])[h.length]? = some o := by simp
theorem Jbs {i : Nat} {o : IO} (e : h[i]? = some o) : i < h.length := (List.getElem?_eq_some_iff.mp e).1
theorem Jry (f : IV -> Bool) : ∀ xs : List IV, Jqw (xs.map λ x => .bl (f x)) = some (xs.map f)
 | [] => rfl
 | x :: xs => by simp [Jqw, Jry f xs]
theorem all_map {f : IV -> Bool} {i : Nat} {xs : List IV} (e : h[i]? = some (.lst (xs.map λ x => .bl (f x)))) : allI (.ref i) h = .ok (.bl (xs.all f)) h := by
 simp [allI, e, Jry, List.all_map, Function.comp_def]
end
end L4
namespace L4
open PySem PySem.Spec PyProof.Rows L2 L3
noncomputable def Ex (h h' : IH) : Prop := ∃ g, h' = h ++ g
theorem Ex.refl (h : IH) : Ex h h := ⟨[], by simp⟩
theorem Ex.trans {h h1 h2 : IH} (a : Ex h h1) (b : Ex h1 h2) : Ex h h2 := by
 obtain ⟨g, rfl⟩ := a
 obtain ⟨g', rfl⟩ := b
 exact ⟨g ++ g', by simp⟩
theorem Ex.get {h h' : IH} (a : Ex h h') {i : Nat} {o : IO} (e : h[i]? = some o) : h'[i]? = some o := by
 obtain ⟨g, rfl⟩ := a
 exact grow e
theorem Ex.one (h : IH) (o : IO) : Ex h (h ++ [o]) := ⟨[o], rfl⟩
theorem Ex.len {h h' : IH} (a : Ex h h') : h.length <= h'.length := by
 obtain ⟨g, rfl⟩ := a
 simp
section
variable {α : Type} {h : IH}
theorem J1p {chk : IH -> Prop} {t : T1} {e : E1} {caps : ISt} {p : IV -> Bool} {f : IV -> IV} (i0 : Nat) : ∀ {xs acc : List IV} {o : Option IV} {h1 : IH}, h1[i0]? = some (.lst acc) -> (∀ h2, (∀ j ob, j ≠ i0 -> h1[j]? = some ob -> h2[j]? = some ob) -> chk h2) -> acc.length + xs.length < sizeLine ->
  (∀ x ∈ xs, ∀ h2, (∀ j ob, j ≠ i0 -> h1[j]? = some ob -> h2[j]? = some ob) -> WR (t (some x :: caps) h2) λ b h3 => b = p x /\ Ex h2 h3) ->
  (∀ x ∈ xs, p x = true -> ∀ h2, (∀ j ob, j ≠ i0 -> h1[j]? = some ob -> h2[j]? = some ob) -> WR (e (some x :: caps) h2) λ v h3 => v = f x /\ Ex h2 h3) ->
  WR (Jcg chk (gNm 0) t e i0 xs (o :: caps) h1) λ v h3 => v = .ref i0 /\ ∃ g, h3 = h1.set i0 (.lst (acc ++ (xs.filter p).map f)) ++ g
 | [], acc, o, h1, hi, hc, _, _, _ => by
  unfold Jcg
  rw [if_pos (hc h1 λ _ _ _ q => q)]
  refine ⟨rfl, [], ?_⟩
  simp only [List.filter_nil, List.map_nil, List.append_nil]
  refine (List.ext_getElem? λ j => ?_)
  by_cases hj : j = i0
  ·subst hj
   rw [hi, List.getElem?_set_self (Jbs hi)]
  ·rw [List.getElem?_set_ne (Ne.symm hj)]
 | x :: xs, acc, o, h1, hi, hc, hl, ht, he => by
  unfold Jcg
  rw [if_pos (hc h1 λ _ _ _ q => q)]
  dsimp only [gNm, List.set_cons_zero]
  have hl' : acc.length + xs.length + 1 < sizeLine := by simpa [Nat.add_assoc] using hl
  obtain ⟨b, h2, e1, rfl, x2⟩ := (ht x List.mem_cons_self h1 λ _ _ _ q => q).eq
  rw [e1]
  have k12 : ∀ j ob, j ≠ i0 -> h1[j]? = some ob -> h2[j]? = some ob := λ j ob _ q => x2.get q
  cases hp : p x with
  | false =>
   dsimp only
   refine WR.mono (J1p i0 (x2.get hi) (λ h3 q => hc h3 λ j ob n r => q j ob n (k12 j ob n r)) (by omega) (λ y hy h3 q => ht y (List.mem_cons_of_mem _ hy) h3 λ j ob n r => q j ob n (k12 j ob n r))
    λ y hy hpy h3 q => he y (List.mem_cons_of_mem _ hy) hpy h3 λ j ob n r => q j ob n (k12 j ob n r)) λ v h3 ⟨ev, g, eg⟩ => ⟨ev, ?_⟩
   obtain ⟨g2, rfl⟩ := x2
   refine ⟨g2 ++ g, ?_⟩
   rw [eg, List.set_append_left (h := Jbs hi)]
   simp [hp]
  | true =>
   dsimp only
   obtain ⟨v, h3, e3, rfl, x3⟩ := (he x List.mem_cons_self hp h2 k12).eq
   rw [e3]
   dsimp only
   rw [x3.get (x2.get hi)]
   dsimp only
   rw [if_pos (by omega)]
   have k13 : ∀ j ob, j ≠ i0 -> h1[j]? = some ob -> (h3.set i0 (.lst (acc ++ [f x])))[j]? = some ob := λ j ob n q => by
    rw [List.getElem?_set_ne (Ne.symm n)]
    exact x3.get (x2.get q)
   refine WR.mono (J1p i0 (acc := acc ++ [f x]) (by rw [List.getElem?_set_self (Jbs (x3.get (x2.get hi)))]) (λ h4 q => hc h4 λ j ob n r => q j ob n (k13 j ob n r)) (by simp; omega) (λ y hy h4 q => ht y (List.mem_cons_of_mem _ hy) h4 λ j ob n r => q j ob n (k13 j ob n r))
    λ y hy hpy h4 q => he y (List.mem_cons_of_mem _ hy) hpy h4 λ j ob n r => q j ob n (k13 j ob n r)) λ v h4 ⟨ev, g, eg⟩ => ⟨ev, ?_⟩
   obtain ⟨g3, q3⟩ := x2.trans x3
   refine ⟨g3 ++ g, ?_⟩
   rw [eg, q3, List.set_append_left (h := Jbs hi), List.set_append_left (h := by rw [List.length_set]; exact Jbs hi), List.set_set]
   simp [hp]
theorem Jl7 {it : I1} {t : T1} {e : E1} {js : List Nat} {σ : ISt} {xs : List IV} {chk : IH -> Prop} {p : IV -> Bool} {f : IV -> IV} {h0 : IH} (hit : WR (it σ h0) λ J h1 => J.xs = xs /\ J.chk = chk /\ h1 = h) (hl : xs.length < sizeLine)
  (hc : ∀ h2 : IH, (∀ (j : Nat) (ob : IO), h[j]? = some ob -> h2[j]? = some ob) -> chk h2)
  (ht : ∀ x ∈ xs, ∀ h2 : IH, (∀ (j : Nat) (ob : IO), h[j]? = some ob -> h2[j]? = some ob) -> WR (t (some x :: js.map λ j => (σ[j]?).join) h2) λ b h3 => b = p x /\ Ex h2 h3)
  (he : ∀ x ∈ xs, p x = true -> ∀ h2 : IH, (∀ (j : Nat) (ob : IO), h[j]? = some ob -> h2[j]? = some ob) -> WR (e (some x :: js.map λ j => (σ[j]?).join) h2) λ v h3 => v = f x /\ Ex h2 h3) :
  WR (Jy it 1 js (gNm 0) t e σ h0) λ v h3 => v = .ref h.length /\ ∃ g, h3 = h ++ .lst ((xs.filter p).map f) :: g := by
 obtain ⟨J, h1, e1, q1, q2, rfl⟩ := hit.eq
 unfold Jy
 rw [e1]
 show WR (Jcg J.chk (gNm 0) t e h1.length J.xs (none :: js.map λ j => (σ[j]?).join) (h1 ++ [.lst []])) _
 rw [q1, q2]
 have lift : ∀ {h2 : IH}, (∀ j ob, j ≠ h1.length -> (h1 ++ [IO.lst []])[j]? = some ob -> h2[j]? = some ob) -> ∀ j ob, h1[j]? = some ob -> h2[j]? = some ob := λ q j ob r => q j ob (Nat.ne_of_lt (Jbs r)) (grow r)
 refine WR.mono (J1p (p := p) (f := f) h1.length (acc := []) Jj (λ h2 q => hc h2 (lift q)) (by simpa using hl) (λ x hx h2 q => ht x hx h2 (lift q)) λ x hx hp h2 q => he x hx hp h2 (lift q)) λ v h3 ⟨ev, g, eg⟩ => ⟨ev, g, ?_⟩
 rw [eg]
 simp
theorem filt {α : Type} (xs : List α) : xs.filter (λ _ => true) = xs := List.filter_eq_self.mpr (by simp)
theorem J9 {it : I1} {e : E1} {js : List Nat} {σ : ISt} {xs : List IV} {chk : IH -> Prop} {f : IV -> IV} {h0 : IH} (hit : WR (it σ h0) λ J h1 => J.xs = xs /\ J.chk = chk /\ h1 = h) (hl : xs.length < sizeLine)
  (hc : ∀ h2 : IH, (∀ (j : Nat) (ob : IO), h[j]? = some ob -> h2[j]? = some ob) -> chk h2)
  (he : ∀ x ∈ xs, ∀ h2 : IH, (∀ (j : Nat) (ob : IO), h[j]? = some ob -> h2[j]? = some ob) -> WR (e (some x :: js.map λ j => (σ[j]?).join) h2) λ v h3 => v = f x /\ Ex h2 h3) :
  WR (Jy it 1 js (gNm 0) Ja2 e σ h0) λ v h3 => v = .ref h.length /\ ∃ g, h3 = h ++ .lst (xs.map f) :: g := by
 have := Jl7 (p := λ _ => true) (f := f) (t := Ja2) (e := e) (js := js) (σ := σ) (h := h) hit hl hc (λ _ _ h2 _ => ⟨rfl, .refl _⟩) λ x hx _ h2 q => he x hx h2 q
 rwa [filt] at this
theorem Jp {o : IO} {g : IH} : (h ++ o :: g)[h.length]? = some o := by simp
theorem Ex.cons (h : IH) (o : IO) (g : IH) : Ex h (h ++ o :: g) := ⟨_, rfl⟩
end
end L4
namespace L4
open PySem PySem.Spec PyProof.Rows L2 L3
section
variable {σ : ISt} {h h1 : IH} {Q : IV -> IH -> Prop} {J : ItI -> IH -> Prop}
theorem Jcc (e : E1) : WR (iAny e σ h) J = WR (e σ h) λ v h1 => WR (Jt2 v h1) J := by unfold iAny; rw [Je]
theorem Jg3 (f : List IV -> IH -> Res ItI) (a : A1) : WR (iRg f a σ h) J = WR (a σ h) λ vs h1 => WR (f vs h1) J := by unfold iRg; rw [Je]
theorem Jak (i : Nat) : WR (Jt2 (.ref i) h) J = ∃ xs, h[i]? = some (.lst xs) /\ J ⟨xs, λ h' => h'[i]? = some (.lst xs)⟩ h := by
 show WR (itOf (.ref i) h) J = _
 unfold itOf
 cases e : h[i]? with
 | none => simp [WR, e]
 | some o => cases o <;> simp [WR, e]
theorem Jhr (xs : List IV) : WR (Jt2 (.rol xs) h) J = J ⟨xs, λ _ => True⟩ h := rfl
theorem Jht (xs : List IV) : WR (Jt2 (.tup xs) h) J = J ⟨xs, λ _ => True⟩ h := rfl
theorem Jhv (x : Str) : WR (Jt2 (.str x) h) J = J ⟨Jnf x, λ _ => True⟩ h := rfl
theorem J0z (i : Nat) : WR (Je9 [.ref i] h) J = ∃ xs, h[i]? = some (.lst xs) /\ J ⟨Jgs 0 xs, λ h' => h'[i]? = some (.lst xs)⟩ h := by
 show WR (Jjv [.ref i] h) J = _
 unfold Jjv
 cases e : h[i]? with
 | none => simp [WR, e]
 | some o => cases o <;> simp [WR, e]
theorem Jct (j : Int) : WR (Jb4 [.int j] h) J = ((-(2 ^ 62) <= j /\ j < 2 ^ 62) /\ J ⟨rngI 0 j, λ _ => True⟩ h) := by
 unfold Jb4; rw [Jfa]; exact propext ⟨λ ⟨a, b⟩ => (Classical.em _).elim (λ q => ⟨q, a q⟩) λ q => (b q).elim, λ ⟨a, b⟩ => ⟨λ _ => b, λ q => absurd a q⟩⟩
theorem Jcv (i j : Int) : WR (Jl8 [.int i, .int j] h) J = ((-(2 ^ 62) <= i /\ i < 2 ^ 62 /\ -(2 ^ 62) <= j /\ j < 2 ^ 62) /\ J ⟨rngI i j, λ _ => True⟩ h) := by
 unfold Jl8; rw [Jfa]; exact propext ⟨λ ⟨a, b⟩ => (Classical.em _).elim (λ q => ⟨q, a q⟩) λ q => (b q).elim, λ ⟨a, b⟩ => ⟨λ _ => b, λ q => absurd a q⟩⟩
theorem Jac (i j : Int) : (rngI i j).length = (j - i).toNat := by simp [rngI]
theorem Jgx (i j : Int) (n : Nat) (hn : n < (rngI i j).length) : (rngI i j)[n] = .int (i + n) := by simp [rngI]
theorem J10 (xs : List IV) (n : Nat) (hn : n < (Jgs 0 xs).length) : (Jgs 0 xs)[n] = .tup [.int n, xs[n]'(by rwa [Jdb] at hn)] := by
 have := Ji4 xs 0 n
 rw [List.getElem?_eq_getElem hn, List.getElem?_eq_getElem (by rwa [Jdb] at hn)] at this
 simpa using this
theorem Jta (i : Nat) (lo hi : Option Int) : WR (slI (.ref i) lo hi h) Q = ∃ xs, h[i]? = some (.lst xs) /\ Q (.ref h.length) (h ++ [.lst (cutI xs lo hi)]) := by
 unfold slI
 cases e : h[i]? with
 | none => simp [WR, e]
 | some o => cases o <;> simp [WR, e]
theorem Jha (xs : List IV) (lo hi : Option Int) : WR (slI (.rol xs) lo hi h) Q = Q (.ref h.length) (h ++ [.lst (cutI xs lo hi)]) := rfl
theorem Jtm (n d : Nat) : HT.sIx n d none = d := HT.sIx_none n d
theorem Jtj {α : Type} (xs : List α) (n : Nat) : cutI xs none (some (n : Int)) = xs.take n := by
 unfold cutI
 rw [Jtm, HT.sIx_nat]
 simp
theorem Js4 {α : Type} (xs : List α) (n : Nat) : cutI xs (some (n : Int)) none = xs.drop n := by
 unfold cutI
 rw [Jtm, HT.sIx_nat]
 by_cases hn : n <= xs.length
 ·rw [Nat.min_eq_left hn]
  exact List.take_of_length_le (by simp)
 ·rw [Nat.min_eq_right (by omega), List.drop_length, List.drop_eq_nil_of_le (by omega)]
  simp
theorem J1q {α : Type} (xs : List α) (n m : Nat) : cutI xs (some (n : Int)) (some (m : Int)) = (xs.take m).drop n := by
 unfold cutI
 rw [HT.sIx_nat, HT.sIx_nat]
 refine List.ext_getElem? λ i => ?_
 simp only [List.getElem?_take, List.getElem?_drop]
 by_cases h1 : n + i < xs.length
 ·rw [Nat.min_eq_left (show n <= xs.length by omega)]
  by_cases h3 : n + i < m
  ·rw [if_pos h3, if_pos (by omega)]
  ·rw [if_neg h3, if_neg (by omega)]
 ·rw [show xs[n + i]? = none from List.getElem?_eq_none (by omega), show xs[min n xs.length + i]? = none from List.getElem?_eq_none (by omega)]
  simp
variable {P : Pg} {m : Str} {n i : Nat} {o : E1} {a : A1} {xs : List IV} {c : Str} {fs : List (Str × IV)}
theorem Jo8 {g : IV -> List IV -> IH -> Res IV} (e : o σ h = .ok (.ref i) h1) (hl : h1[i]? = some (.lst xs)) (hg : bmOf "list" m n = some g) : WR (eDot P m n o a σ h) Q = WR (a σ h1) λ vs h2 => WR (g (.ref i) vs h2) Q := by
 unfold eDot
 rw [e]
 have hi : Jqo (.ref i) h1 = false := by simp [Jqo, hl]
 have ht : tyS (.ref i) h1 = "list" := by simp [tyS, hl]
 dsimp only
 rw [hi, ht, hg]
 dsimp only
 rw [if_neg Bool.false_ne_true]
 unfold eBm
 rw [e, Je, Je8]
 have : tyOk "list" (.ref i) h1 = true := by simp [tyOk, hl]
 rw [if_pos this, Je]
theorem Jaa {f : List IV -> IH -> Res IV} {d : List IV} (e : o σ h = .ok (.ref i) h1) (hi : h1[i]? = some (.ins c fs)) (hf : fs.lookup m = none) (hd : Jke P m n c = some (f, d)) : WR (eDot P m n o a σ h) Q = WR (a σ h1) λ vs h2 => WR (f (.ref i :: (vs ++ d)) h2) Q := by
 unfold eDot
 rw [e]
 have hi' : Jqo (.ref i) h1 = true := by simp [Jqo, hi]
 dsimp only
 rw [hi', if_pos rfl]
 unfold Jx9
 rw [e, Je, Je8]
 dsimp only
 rw [hi]
 dsimp only
 rw [hd, hf]
 dsimp only
 rw [Je]
theorem Jjd (y : IV) : WR (Jj8 (.ref i) [y] h) Q = ∃ xs, h[i]? = some (.lst xs) /\ xs.length < sizeLine /\ Q .non (h.set i (.lst (xs ++ [y]))) := by
 unfold Jj8
 cases e : h[i]? with
 | none => simp [WR, e]
 | some ob =>
  cases ob with
  | lst xs => by_cases hz : xs.length < sizeLine <;> simp [WR, e, hz]
  | _ => simp [WR, e]
theorem Jjr : bmOf "list" "append" 1 = some Jj8 := by kernel_rfl
theorem Jv {f : Str} (e : h[i]? = some (.ins c fs)) : Jp2 f (.ref i) h = fs.lookup f := by simp [Jp2, e]
theorem Jx3 : WR (Jqv (.ref i) h) Q = ∃ xs, h[i]? = some (.lst xs) /\ Q (.ref h.length) (h ++ [.lst xs]) := by
 unfold Jqv
 cases e : h[i]? with
 | none => simp [WR, e]
 | some ob => cases ob <;> simp [WR, e]
theorem Jba (xs : List IV) : WR (Jqv (.tup xs) h) Q = Q (.ref h.length) (h ++ [.lst xs]) := rfl
theorem Jwc : WR (Jm1 (.ref i) h) Q = ∃ xs, h[i]? = some (.lst xs) /\ Q (.tup xs) h := by
 unfold Jm1
 cases e : h[i]? with
 | none => simp [WR, e]
 | some ob => cases ob <;> simp [WR, e]
end
end L4
namespace L4
open PySem PySem.Spec PyProof.Rows L2 L3
section
variable {σ : ISt} {h : IH} {Q : IV -> IH -> Prop}
theorem Jsh (i j : Nat) : WR (Jo (.ref i) (.ref j) h) Q = ∃ xs, h[i]? = some (.lst xs) /\ ∃ ys, h[j]? = some (.lst ys) /\ xs.length + ys.length <= sizeLine /\ Q (.ref h.length) (h ++ [.lst (xs ++ ys)]) := by
 unfold Jo
 cases e : h[i]? with
 | none => simp [WR, e]
 | some o =>
  cases e' : h[j]? with
  | none => cases o <;> simp [WR, e, e']
  | some o' =>
   cases o <;> cases o' <;> simp only [e, e', Jfa, Je8, Jzb, Option.some.injEq, IO.lst.injEq, reduceCtorEq, exists_eq_left', false_and, and_false, exists_false, imp_false, Decidable.not_not]
   simp only [eq_iff_iff]
   exact ⟨λ ⟨a, b⟩ => ⟨b, a b⟩, λ ⟨a, b⟩ => ⟨λ _ => b, a⟩⟩
end
end L4
namespace L4
open PySem PySem.Spec PyProof.Rows L2 L3
section
variable {σ : ISt} {h h1 : IH} {Q : IV -> IH -> Prop} {P : Pg} {m : Str} {n i : Nat} {o : E1} {a : A1} {x : Str}
theorem J12 {g : IV -> List IV -> IH -> Res IV} (e : o σ h = .ok (.str x) h1) (hg : bmOf "str" m n = some g) : WR (eDot P m n o a σ h) Q = WR (a σ h1) λ vs h2 => WR (g (.str x) vs h2) Q := by
 unfold eDot
 rw [e]
 have hi : Jqo (.str x) h1 = false := rfl
 have ht : tyS (.str x) h1 = "str" := rfl
 dsimp only
 rw [hi, ht, hg]
 dsimp only
 rw [if_neg Bool.false_ne_true]
 unfold eBm
 rw [e, Je, Je8]
 have : tyOk "str" (.str x) h1 = true := rfl
 rw [if_pos this, Je]
theorem J15 : bmOf "str" "join" 1 = some Juq := by kernel_rfl
theorem J1w : WR (Juq (.str x) [.ref i] h) Q = ∃ xs, h[i]? = some (.lst xs) /\ ∃ zs, Je3 xs = some zs /\ JoinOk x zs = true /\ Q (.str (Txt.join x zs)) h := by
 unfold Juq
 cases e : h[i]? with
 | none => simp [WR, e]
 | some ob =>
  cases ob with
  | lst xs =>
   cases q : Je3 xs with
   | none => simp [WR, e, q]
   | some zs => by_cases hz : JoinOk x zs = true <;> simp [WR, e, q, hz]
  | _ => simp [WR, e]
theorem Jo6 : ∀ zs : List Str, Je3 (zs.map IV.str) = some zs
 | [] => rfl
 | z :: zs => by
  rw [List.map_cons, Je3, Jo6 zs]; rfl
end
end L4
namespace L4
open PySem PySem.Spec PyProof.Rows L2 L3
section
variable {σ : ISt} {h : IH} {Q : IV -> IH -> Prop} {i : Nat}
theorem J2g : WR (sumI (.ref i) h) Q = ∃ xs, h[i]? = some (.lst xs) /\ ∃ ns, Jdq xs = some ns /\ Q (.int ns.sum) h := by
 unfold sumI
 cases e : h[i]? with
 | none => simp [WR, e]
 | some ob =>
  cases ob with
  | lst xs => cases q : Jdq xs <;> simp [WR, e, q]
  | _ => simp [WR, e]
theorem Jgf : ∀ ns : List Int, Jdq (ns.map IV.int) = some ns
 | [] => rfl
 | n :: ns => by
  rw [List.map_cons, Jdq, Jgf ns]; rfl
theorem J0t (aa : A1) (md : E1) : WR (Jv6 aa md σ h) Q = WR (aa σ h) λ xs h1 => WR (md σ h1) λ d h2 => ∃ i, xs = [.ref i] /\ ∃ ys, h2[i]? = some (.lst ys) /\ ∃ ns, Jdq ys = some ns /\ Q (maxD ns d) h2 := by
 unfold Jv6
 rw [Je]
 congr 1; funext xs h1
 rw [Je]
 congr 1; funext d h2
 match xs with
 | [.ref i] =>
  simp only [List.cons.injEq, IV.ref.injEq, and_true, exists_eq_left']
  cases e : h2[i]? with
  | none => simp [WR]
  | some ob =>
   cases ob with
   | lst ys => cases q : Jdq ys <;> simp [WR, q]
   | _ => simp [WR]
 | [] => simp [WR]
 | [.non] => simp [WR]
 | [.bl _] => simp [WR]
 | [.int _] => simp [WR]
 | [.str _] => simp [WR]
 | [.tup _] => simp [WR]
 | [.rol _] => simp [WR]
 | x :: _ :: _ => cases x <;> simp [WR]
theorem Jvu (aa : A1) : WR (Jmq aa σ h) Q = WR (aa σ h) λ xs h1 => ∃ i, xs = [.ref i] /\ ∃ ys, h1[i]? = some (.lst ys) /\ ∃ zs, Je3 ys = some zs /\ zs.length + 1 < scanBound /\ Q (.int (cntD (Jey zs) zs.length)) h1 := by
 unfold Jmq
 rw [Je]
 congr 1; funext xs h1
 match xs with
 | [.ref i] =>
  simp only [List.cons.injEq, IV.ref.injEq, and_true, exists_eq_left']
  cases e : h1[i]? with
  | none => simp [WR]
  | some ob =>
   cases ob with
   | lst ys =>
    cases q : Je3 ys with
    | none => simp [WR, q]
    | some zs => by_cases hz : zs.length + 1 < scanBound <;> simp [WR, q, hz]
   | _ => simp [WR]
 | [] => simp [WR]
 | [.non] => simp [WR]
 | [.bl _] => simp [WR]
 | [.int _] => simp [WR]
 | [.str _] => simp [WR]
 | [.tup _] => simp [WR]
 | [.rol _] => simp [WR]
 | x :: _ :: _ => cases x <;> simp [WR]
theorem Jrj {zs : List Str} (nd : zs.Nodup) : ∀ i, i <= zs.length -> cntD (Jey zs) i = i
 | 0, _ => rfl
 | i + 1, hi => by
  have ih := Jrj nd i (by omega)
  have hm : metB (Jey zs) i (Jey zs i) = false := by
   unfold metB
   rw [List.any_eq_false]
   intro j hj
   have hj := List.mem_range.mp hj
   simp only [decide_eq_true_eq]
   intro e
   simp only [Jey, List.getD_eq_getElem?_getD, List.getElem?_eq_getElem (show j < zs.length by omega), List.getElem?_eq_getElem (show i < zs.length by omega), Option.getD_some] at e
   have := (List.getElem_inj nd).mp e
   omega
  unfold cntD
  rw [hm, ih]
  rfl
theorem Jz7 (f : Nat -> Int) : ∀ (n j : Nat), j < n -> f j <= Jcf f n
 | 0, _, h => by omega
 | 1, j, h => by
  obtain rfl : j = 0 := by omega
  exact Int.le_refl _
 | n + 2, j, h => by
  rw [Jj9 f (by omega)]
  by_cases hj : j = n + 1
  ·subst hj; split <;> omega
  ·have := Jz7 f (n + 1) j (by omega)
   split <;> omega
theorem J0b (f : Nat -> Int) (b : Int) : ∀ (n : Nat), 0 < n -> (∀ j, j < n -> f j <= b) -> Jcf f n <= b
 | 0, h, _ => by omega
 | 1, _, q => q 0 (by omega)
 | n + 2, _, q => by
  rw [Jj9 f (by omega)]
  have := J0b f b (n + 1) (by omega) λ j hj => q j (by omega)
  have := q (n + 1) (by omega)
  split <;> omega
end
section
variable {h : IH} {Q : IV -> IH -> Prop} {i : Nat}
end
end L4
namespace L4
open PySem PySem.Spec PyProof.Rows L2 L3
noncomputable def KpB (i0 : Nat) (h h' : IH) : Prop := ∀ (j : Nat) (ob : IO), j ≠ i0 -> h[j]? = some ob -> h'[j]? = some ob
noncomputable def Kp (h h' : IH) : Prop := ∀ (j : Nat) (ob : IO), h[j]? = some ob -> h'[j]? = some ob
theorem KpB.trans {i0 : Nat} {a b c : IH} (p : KpB i0 a b) (q : KpB i0 b c) : KpB i0 a c := λ j ob n e => q j ob n (p j ob n e)
theorem Kp.trans {a b c : IH} (p : Kp a b) (q : Kp b c) : Kp a c := λ j ob e => q j ob (p j ob e)
theorem Kp.refl (a : IH) : Kp a a := λ _ _ e => e
theorem Kp.but {i0 : Nat} {a b : IH} (p : Kp a b) : KpB i0 a b := λ j ob _ e => p j ob e
theorem Ex.kp {a b : IH} (x : Ex a b) : Kp a b := λ _ _ e => x.get e
theorem J5p {chk : IH -> Prop} {e : E1} {caps : ISt} {D : IV -> IV -> IH -> Prop} (i0 : Nat) (mono : ∀ x y h2 h3, KpB i0 h2 h3 -> D x y h2 -> D x y h3) : ∀ {xs acc : List IV} {o : Option IV} {h1 : IH}, h1[i0]? = some (.lst acc) -> (∀ h2, KpB i0 h1 h2 -> chk h2) -> acc.length + xs.length < sizeLine ->
  (∀ x ∈ xs, ∀ h2 : IH, KpB i0 h1 h2 -> i0 < h2.length -> WR (e (some x :: caps) h2) λ v h3 => Ex h2 h3 /\ D x v h3) ->
  WR (Jcg chk (gNm 0) Ja2 e i0 xs (o :: caps) h1) λ v h3 => v = .ref i0 /\ ∃ ys, h3[i0]? = some (.lst (acc ++ ys)) /\ ys.length = xs.length /\ KpB i0 h1 h3 /\ ∀ (i : Nat) x y, xs[i]? = some x -> ys[i]? = some y -> D x y h3
 | [], acc, o, h1, hi, hc, _, _ => by
  unfold Jcg
  rw [if_pos (hc h1 λ _ _ _ q => q)]
  exact ⟨rfl, [], by simpa using hi, rfl, λ _ _ _ q => q, λ i x y q => by simp at q⟩
 | x :: xs, acc, o, h1, hi, hc, hl, he => by
  unfold Jcg
  rw [if_pos (hc h1 λ _ _ _ q => q)]
  dsimp only [gNm, List.set_cons_zero, Ja2]
  have hl' : acc.length + xs.length + 1 < sizeLine := by simpa [Nat.add_assoc] using hl
  obtain ⟨v, h3, e3, x3, dv⟩ := (he x List.mem_cons_self h1 (λ _ _ _ q => q) (Jbs hi)).eq
  rw [e3]
  dsimp only
  rw [x3.get hi]
  dsimp only
  rw [if_pos (by omega)]
  have k34 : KpB i0 h3 (h3.set i0 (.lst (acc ++ [v]))) := λ j ob n q => by
   rw [List.getElem?_set_ne (Ne.symm n)]; exact q
  have k14 : KpB i0 h1 (h3.set i0 (.lst (acc ++ [v]))) := x3.kp.but.trans k34
  refine WR.mono (J5p i0 mono (acc := acc ++ [v]) (by rw [List.getElem?_set_self (Jbs (x3.get hi))]) (λ h4 q => hc h4 (k14.trans q)) (by simp; omega) λ y hy h4 q => he y (List.mem_cons_of_mem _ hy) h4 (k14.trans q)) ?_
  rintro w h5 ⟨rfl, ys, g5, ln, k5, d5⟩
  refine ⟨rfl, v :: ys, by simpa using g5, by simp [ln], k14.trans k5, ?_⟩
  intro i x' y' q1 q2
  cases i with
  | zero =>
   simp only [List.getElem?_cons_zero, Option.some.injEq] at q1 q2
   subst q1; subst q2
   exact mono _ _ _ _ (k34.trans k5) dv
  | succ i => exact d5 i x' y' (by simpa using q1) (by simpa using q2)
theorem Jyf {h h0 : IH} {it : I1} {e : E1} {js : List Nat} {σ : ISt} {xs : List IV} {chk : IH -> Prop} (D : IV -> IV -> IH -> Prop) (hit : WR (it σ h0) λ J h1 => J.xs = xs /\ J.chk = chk /\ h1 = h) (hl : xs.length < sizeLine)
  (mono : ∀ x y h2 h3, KpB h.length h2 h3 -> D x y h2 -> D x y h3) (hc : ∀ h2 : IH, Kp h h2 -> chk h2)
  (he : ∀ x ∈ xs, ∀ h2 : IH, Kp h h2 -> h.length < h2.length -> WR (e (some x :: js.map λ j => (σ[j]?).join) h2) λ v h3 => Ex h2 h3 /\ D x v h3) :
  WR (Jy it 1 js (gNm 0) Ja2 e σ h0) λ v h3 => v = .ref h.length /\ ∃ ys, h3[h.length]? = some (.lst ys) /\ ys.length = xs.length /\ Kp h h3 /\ ∀ (i : Nat) x y, xs[i]? = some x -> ys[i]? = some y -> D x y h3 := by
 obtain ⟨J, h1, e1, q1, q2, rfl⟩ := hit.eq
 unfold Jy
 rw [e1]
 show WR (Jcg J.chk (gNm 0) Ja2 e h1.length J.xs (none :: js.map λ j => (σ[j]?).join) (h1 ++ [.lst []])) _
 rw [q1, q2]
 have lift : ∀ {h2 : IH}, KpB h1.length (h1 ++ [IO.lst []]) h2 -> Kp h1 h2 := λ q j ob r => q j ob (Nat.ne_of_lt (Jbs r)) (grow r)
 refine WR.mono (J5p h1.length mono (acc := []) Jj (λ h2 q => hc h2 (lift q)) (by simpa using hl) λ x hx h2 q ln => he x hx h2 (lift q) ln) ?_
 rintro v h3 ⟨rfl, ys, g3, ln, k3, d3⟩
 exact ⟨rfl, ys, by simpa using g3, ln, lift k3, d3⟩
end L4
namespace L4
open PySem PySem.Spec PyProof.Rows L2 L3
section
variable {h : IH}
theorem J21 {chk : IH -> Prop} {g : G1} {t : T1} {e : E1} {caps : ISt} {p : IV -> Bool} {f : IV -> IV} {st : IV -> ISt} {n : Nat} (i0 : Nat) : ∀ {xs acc : List IV} {ls : ISt} {h1 : IH}, ls.length = n -> h1[i0]? = some (.lst acc) -> (∀ h2, (∀ j ob, j ≠ i0 -> h1[j]? = some ob -> h2[j]? = some ob) -> chk h2) -> acc.length + xs.length < sizeLine ->
  (∀ x ∈ xs, ∀ (ls : ISt) (h2 : IH), ls.length = n -> (st x).length = n /\ g x (ls ++ caps) h2 = .next (st x ++ caps) h2) ->
  (∀ x ∈ xs, ∀ h2, (∀ j ob, j ≠ i0 -> h1[j]? = some ob -> h2[j]? = some ob) -> WR (t (st x ++ caps) h2) λ b h3 => b = p x /\ Ex h2 h3) ->
  (∀ x ∈ xs, p x = true -> ∀ h2, (∀ j ob, j ≠ i0 -> h1[j]? = some ob -> h2[j]? = some ob) -> WR (e (st x ++ caps) h2) λ v h3 => v = f x /\ Ex h2 h3) ->
  WR (Jcg chk g t e i0 xs (ls ++ caps) h1) λ v h3 => v = .ref i0 /\ ∃ g, h3 = h1.set i0 (.lst (acc ++ (xs.filter p).map f)) ++ g
 | [], acc, ls, h1, _, hi, hc, _, _, _, _ => by
  unfold Jcg
  rw [if_pos (hc h1 λ _ _ _ q => q)]
  refine ⟨rfl, [], ?_⟩
  simp only [List.filter_nil, List.map_nil, List.append_nil]
  refine (List.ext_getElem? λ j => ?_)
  by_cases hj : j = i0
  ·subst hj
   rw [hi, List.getElem?_set_self (Jbs hi)]
  ·rw [List.getElem?_set_ne (Ne.symm hj)]
 | x :: xs, acc, ls, h1, hls, hi, hc, hl, hg, ht, he => by
  unfold Jcg
  rw [if_pos (hc h1 λ _ _ _ q => q)]
  obtain ⟨sl, eg1⟩ := hg x List.mem_cons_self ls h1 hls
  rw [eg1]
  dsimp only
  have hl' : acc.length + xs.length + 1 < sizeLine := by simpa [Nat.add_assoc] using hl
  obtain ⟨b, h2, e1, rfl, x2⟩ := (ht x List.mem_cons_self h1 λ _ _ _ q => q).eq
  rw [e1]
  have k12 : ∀ j ob, j ≠ i0 -> h1[j]? = some ob -> h2[j]? = some ob := λ j ob _ q => x2.get q
  cases hp : p x with
  | false =>
   dsimp only
   refine WR.mono (J21 i0 sl (x2.get hi) (λ h3 q => hc h3 λ j ob n r => q j ob n (k12 j ob n r)) (by omega) (λ y hy => hg y (List.mem_cons_of_mem _ hy)) (λ y hy h3 q => ht y (List.mem_cons_of_mem _ hy) h3 λ j ob n r => q j ob n (k12 j ob n r))
    λ y hy hpy h3 q => he y (List.mem_cons_of_mem _ hy) hpy h3 λ j ob n r => q j ob n (k12 j ob n r)) λ v h3 ⟨ev, g, eg⟩ => ⟨ev, ?_⟩
   obtain ⟨g2, rfl⟩ := x2
   refine ⟨g2 ++ g, ?_⟩
   rw [eg, List.set_append_left (h := Jbs hi)]
   simp [hp]
  | true =>
   dsimp only
   obtain ⟨v, h3, e3, rfl, x3⟩ := (he x List.mem_cons_self hp h2 k12).eq
   rw [e3]
   dsimp only
   rw [x3.get (x2.get hi)]
   dsimp only
   rw [if_pos (by omega)]
   have k13 : ∀ j ob, j ≠ i0 -> h1[j]? = some ob -> (h3.set i0 (.lst (acc ++ [f x])))[j]? = some ob := λ j ob n q => by
    rw [List.getElem?_set_ne (Ne.symm n)]
    exact x3.get (x2.get q)
   refine WR.mono (J21 i0 (acc := acc ++ [f x]) sl (by rw [List.getElem?_set_self (Jbs (x3.get (x2.get hi)))]) (λ h4 q => hc h4 λ j ob n r => q j ob n (k13 j ob n r)) (by simp; omega) (λ y hy => hg y (List.mem_cons_of_mem _ hy)) (λ y hy h4 q => ht y (List.mem_cons_of_mem _ hy) h4 λ j ob n r => q j ob n (k13 j ob n r))
    λ y hy hpy h4 q => he y (List.mem_cons_of_mem _ hy) hpy h4 λ j ob n r => q j ob n (k13 j ob n r)) λ v h4 ⟨ev, g, eg⟩ => ⟨ev, ?_⟩
   obtain ⟨g3, q3⟩ := x2.trans x3
   refine ⟨g3 ++ g, ?_⟩
   rw [eg, q3, List.set_append_left (h := Jbs hi), List.set_append_left (h := by rw [List.length_set]; exact Jbs hi), List.set_set]
   simp [hp]
theorem Jzm {it : I1} {g : G1} {t : T1} {e : E1} {js : List Nat} {σ : ISt} {xs : List IV} {chk : IH -> Prop} {p : IV -> Bool} {f : IV -> IV} {st : IV -> ISt} {n : Nat} {h0 : IH} (hit : WR (it σ h0) λ J h1 => J.xs = xs /\ J.chk = chk /\ h1 = h) (hl : xs.length < sizeLine)
  (hc : ∀ h2 : IH, (∀ (j : Nat) (ob : IO), h[j]? = some ob -> h2[j]? = some ob) -> chk h2)
  (hg : ∀ x ∈ xs, ∀ (ls : ISt) (h2 : IH), ls.length = n -> (st x).length = n /\ g x (ls ++ js.map λ j => (σ[j]?).join) h2 = .next (st x ++ js.map λ j => (σ[j]?).join) h2)
  (ht : ∀ x ∈ xs, ∀ h2 : IH, (∀ (j : Nat) (ob : IO), h[j]? = some ob -> h2[j]? = some ob) -> WR (t (st x ++ js.map λ j => (σ[j]?).join) h2) λ b h3 => b = p x /\ Ex h2 h3)
  (he : ∀ x ∈ xs, p x = true -> ∀ h2 : IH, (∀ (j : Nat) (ob : IO), h[j]? = some ob -> h2[j]? = some ob) -> WR (e (st x ++ js.map λ j => (σ[j]?).join) h2) λ v h3 => v = f x /\ Ex h2 h3) :
  WR (Jy it n js g t e σ h0) λ v h3 => v = .ref h.length /\ ∃ g, h3 = h ++ .lst ((xs.filter p).map f) :: g := by
 obtain ⟨J, h1, e1, q1, q2, rfl⟩ := hit.eq
 unfold Jy
 rw [e1]
 show WR (Jcg J.chk g t e h1.length J.xs (List.replicate n none ++ js.map λ j => (σ[j]?).join) (h1 ++ [.lst []])) _
 rw [q1, q2]
 have lift : ∀ {h2 : IH}, (∀ j ob, j ≠ h1.length -> (h1 ++ [IO.lst []])[j]? = some ob -> h2[j]? = some ob) -> ∀ j ob, h1[j]? = some ob -> h2[j]? = some ob := λ q j ob r => q j ob (Nat.ne_of_lt (Jbs r)) (grow r)
 refine WR.mono (J21 (p := p) (f := f) (st := st) h1.length (acc := []) (List.length_replicate ..) Jj (λ h2 q => hc h2 (lift q)) (by simpa using hl) hg (λ x hx h2 q => ht x hx h2 (lift q)) λ x hx hp h2 q => he x hx hp h2 (lift q)) λ v h3 ⟨ev, g, eg⟩ => ⟨ev, g, ?_⟩
 rw [eg]
 simp
end
end L4
namespace L4
open PySem PySem.Spec PyProof.Rows L2 L3
noncomputable def Jyi (o : Obj) (q : Str) : Bool := match o with
 | ⟨_, _, .fields vs, _⟩ => (match vs.toList with | _ :: .str n _ :: _ => n == q | _ => false)
 | _ => false
noncomputable def Jpq (K : W.Frag) (q : Str) (p : Addr) : Bool := (K.lookup p).isNone && K.all (λ e => !(Jyi e.2 q) || W.codeHdIn K e.1 p) && K.any (λ e => Jyi e.2 q && W.codeHdIn K e.1 p)
noncomputable def Jnb (K : W.Frag) : List Str -> List Addr -> Bool
 | [], [] => true
 | q :: qs, p :: ps => Jpq K q p && !ps.contains p && Jnb K qs ps
 | _, _ => false
theorem Jtp {K : W.Frag} {c : Addr} {o : Obj} (h : K.lookup c = some o) : (c, o) ∈ K := by
 induction K with
 | nil => cases h
 | cons p K ih =>
  obtain ⟨b, o'⟩ := p
  rw [List.lookup_cons] at h
  split at h
  ·rename_i e
   cases h
   rw [beq_iff_eq.mp e]
   exact List.mem_cons_self
  ·exact List.mem_cons_of_mem _ (ih h)
theorem Jpq.code {K : W.Frag} {q : Str} {p : Addr} (h : Jpq K q p = true) : ∀ cdv, W.codeIn K cdv q = true -> ∃ c, cdv = .ref c /\ W.codeHdIn K c p = true := by
 simp only [Jpq, Bool.and_eq_true, List.all_eq_true, Bool.or_eq_true, Bool.not_eq_true'] at h
 intro cdv e
 unfold W.codeIn at e
 split at e
 ·rename_i c
  refine ⟨c, rfl, ?_⟩
  cases hk : K.lookup c with
  | none => rw [hk] at e; cases e
  | some o =>
   rw [hk] at e
   rcases h.1.2 _ (Jtp hk) with z | z
   ·exfalso
    have e' : Jyi o q = true := by
     obtain ⟨oc, od, dt, sl⟩ := o
     cases dt <;> first | exact e | cases e
    have z' : Jyi o q = false := z
    rw [e'] at z'
    cases z'
   ·exact z
 ·cases e
theorem Jpq.some {K : W.Frag} {q : Str} {p : Addr} (h : Jpq K q p = true) : K.lookup p = none /\ ∃ c, W.codeHdIn K c p = true := by
 simp only [Jpq, Bool.and_eq_true, List.any_eq_true, Option.isNone_iff_eq_none] at h
 obtain ⟨⟨h1, _⟩, e, _, h2⟩ := h
 exact ⟨h1, e.1, h2.2⟩
theorem Jnb.mem {K : W.Frag} : ∀ {qs : List Str} {ts : List Addr}, Jnb K qs ts = true -> ts.Nodup /\ qs.length = ts.length /\ (∀ (i : Nat) (q : Str), qs[i]? = some q -> ∃ p, ts[i]? = some p /\ Jpq K q p = true) /\ ∀ p ∈ ts, ∃ q, Jpq K q p = true
 | [], [], _ => ⟨.nil, rfl, λ i q e => by simp at e, λ p hp => by cases hp⟩
 | q :: qs, p :: ps, h => by
  simp only [Jnb, Bool.and_eq_true, Bool.not_eq_true', List.contains_eq_mem, decide_eq_false_iff_not] at h
  obtain ⟨⟨h1, h2⟩, h3⟩ := h
  obtain ⟨a, b, c, d⟩ := Jnb.mem h3
  refine ⟨List.nodup_cons.mpr ⟨h2, a⟩, by simp [b], λ i r e => ?_, λ r hr => ?_⟩
  ·cases i with
   | zero =>
    have e' : some q = some r := e
    cases e'
    exact ⟨p, rfl, h1⟩
   | succ i => exact c i r e
  ·rcases List.mem_cons.mp hr with rfl | hr
   ·exact ⟨q, h1⟩
   ·exact d r hr
 | [], _ :: _, h => by cases h
 | _ :: _, [], h => by cases h
end L4
namespace L4
open PySem PySem.Spec PyProof.Rows L2 L3
end L4
namespace L4
open PySem PySem.Spec PyProof.Rows L2 L3
section
variable {α β : Type} {σ : ISt} {h : IH}
noncomputable def WE (r : Res α) (Q : α -> IH -> Prop) (Z : Nat -> IH -> Prop) : Prop := match r with
 | .ok a h => Q a h
 | .exc n h => Z n h
 | .stuck => False
noncomputable def WSE (r : SRes) (N : ISt -> IH -> Prop) (R : IV -> IH -> Prop) (Z : Nat -> ISt -> IH -> Prop) : Prop := match r with
 | .next σ h => N σ h
 | .ret v h => R v h
 | .exc n σ h => Z n σ h
 | _ => False
variable {Q : α -> IH -> Prop} {Z : Nat -> IH -> Prop} {N : ISt -> IH -> Prop} {R : IV -> IH -> Prop} {Y : Nat -> ISt -> IH -> Prop}
theorem WE.of {r : Res α} (w : WR r Q) : WE r Q Z := by
 cases r with
 | ok a h => exact w
 | exc n h => exact Zf w
 | stuck => exact Zf w
theorem WE.mono {r : Res α} {Q' : α -> IH -> Prop} {Z' : Nat -> IH -> Prop} (w : WE r Q Z) (hq : ∀ a h, Q a h -> Q' a h) (hz : ∀ n h, Z n h -> Z' n h) : WE r Q' Z' := by
 cases r with
 | ok a h => exact hq _ _ w
 | exc n h => exact hz _ _ w
 | stuck => exact w
theorem WSE.of {r : SRes} (w : WS r N R) : WSE r N R Y := by
 cases r with
 | next σ h => exact w
 | ret v h => exact w
 | _ => exact Zf w
theorem Jv4 {Q : IV -> IH -> Prop} (x : Str) (lo hi : Option Int) : WR (slT (.str x) lo hi h) Q = (x.length <= sizeLine /\ Q (.str (Txt.slice x lo hi)) h) := by
 unfold slT; by_cases z : x.length <= sizeLine <;> simp [WR, z]
end
end L4
namespace LW
theorem Kaz {α : Sort _} {p : α -> Prop} {a' : α} : (∃ a, a' = a /\ p a) ↔ p a' := exists_eq_left'
theorem Kbz {α : Sort _} {p : α -> Prop} {a' : α} : (∃ a, a = a' /\ p a) ↔ p a' := exists_eq_left
theorem Kcz (a b : Bool) : (L3.IV.bl a = L3.IV.bl b) = (a = b) := L3.IV.bl.injEq a b
theorem Kdz (a b : Int) : (L3.IV.int a = L3.IV.int b) = (a = b) := L3.IV.int.injEq a b
theorem Kez (a b : Nat) : (L3.IV.ref a = L3.IV.ref b) = (a = b) := L3.IV.ref.injEq a b
theorem Kfz (a b : PySem.Str) : (L3.IV.str a = L3.IV.str b) = (a = b) := L3.IV.str.injEq a b
theorem Kgz (a b : List L3.IV) : (L3.IV.tup a = L3.IV.tup b) = (a = b) := L3.IV.tup.injEq a b
theorem Khz (a b : List L3.IV) : (L3.IO.lst a = L3.IO.lst b) = (a = b) := L3.IO.lst.injEq a b
theorem Kiz {α : Type _} (a b : α) : (some a = some b) = (a = b) := Option.some.injEq a b
theorem Kjz : (!true) = false := Bool.not_true
theorem Kkz : (!false) = true := Bool.not_false
theorem Klz : (true = false) = False := Bool.true_eq_false
theorem Kmz : (false = true) = False := Bool.false_eq_true
theorem Knz {α β : Type _} (a : α) (f : α -> Option β) : (some a).bind f = f a := Option.bind_some a f
theorem Koz (p : Prop) : (True -> p) = p := true_implies p
theorem Kpz (p : Prop) : (False -> p) = True := false_implies p
theorem Kqz (α : Sort _) : (α -> True) = True := implies_true α
theorem Krz {α : Type _} {a b : α} {l : List α} {n : Nat} : (a :: l).set (n + 1) b = a :: l.set n b := List.set_cons_succ
theorem Ksz {α : Type _} {a b : α} {l : List α} : (a :: l).set 0 b = b :: l := List.set_cons_zero
theorem Ktz {α : Type _} {a : α} {l m : List α} : (a :: l) ++ m = a :: (l ++ m) := List.cons_append
theorem Kuz {α : Type _} (l : List α) : [] ++ l = l := List.nil_append l
theorem Kvz {α : Type _} (l : List α) : l ++ [] = l := List.append_nil l
end LW
namespace LW
open PySem L2 L3 L4
noncomputable def top (i : Nat) : Stmt := PySem.Challenge.pw_dutyproof_k31_ranks_by_orders.main.body.getD i (.Pass ⟨0, 0, 0, 0⟩)
noncomputable def Jgh : D4 := ⟨top 8, "is_whole", ["thing"], ["thing"], []⟩
noncomputable def Jat : D4 := ⟨top 9, "is_whole_from", ["thing", "least"], ["thing", "least"], []⟩
noncomputable def Jdo : D4 := ⟨top 10, "rounds_up", ["top", "bottom"], ["top", "bottom"], []⟩
noncomputable def Jlt : D4 := ⟨top 14, "due_at", ["duty", "coming"], ["duty", "coming"], []⟩
noncomputable def Jih : D4 := ⟨top 21, "is_name", ["thing"], ["thing"], []⟩
noncomputable def Jjy : D4 := ⟨top 22, "is_hold", ["hold", "length"], ["hold", "length"], []⟩
noncomputable def Jem : D4 := ⟨top 23, "lie_apart", ["one", "other"], ["one", "other"], []⟩
noncomputable def Jip : D4 := ⟨top 24, "lies_in", ["one", "other"], ["one", "other"], []⟩
noncomputable def Jbq : D4 := ⟨top 25, "go_together", ["one", "other"], ["one", "other"], []⟩
noncomputable def J7 : D4 := ⟨top 26, "all_go_together", ["holds"], ["holds", "place", "hold"], []⟩
noncomputable def Jd9 : D4 := ⟨top 27, "own_holds", ["holds", "length"], ["holds", "length"], []⟩
noncomputable def Ji6 : D4 := ⟨top 28, "own_due", ["due", "gap"], ["due", "gap"], []⟩
noncomputable def Jk : D4 := ⟨Jad (top 29) 0, "Work.__init__", ["self", "name", "gap", "length", "due", "late", "holds"], ["self", "name", "gap", "length", "due", "late", "holds"], [.non, .int 0, .non]⟩
noncomputable def Jei : D4 := ⟨Jad (top 29) 1, "Work.held", ["self"], ["self"], []⟩
noncomputable def Jgm : D4 := ⟨top 31, "ceilings", ["duty"], ["duty", "found", "at", "hold"], []⟩
noncomputable def Jbb : D4 := ⟨top 32, "refuse_holds", ["duty"], ["duty"], []⟩
noncomputable def Jbr : D4 := ⟨top 33, "things_held", ["work", "done"], ["work", "done"], []⟩
noncomputable def Jlw : D4 := ⟨top 34, "lifted", ["at", "things", "tops"], ["at", "things", "tops"], []⟩
noncomputable def Jch : D4 := ⟨Jad (top 36) 0, "Order.__init__", ["self", "duty"], ["self", "duty"], []⟩
noncomputable def Jb0 : D4 := ⟨Jad (top 36) 1, "Order.rank_of", ["self", "coming", "done"], ["self", "coming", "done"], []⟩
noncomputable def Jr : D4 := ⟨Jad (top 36) 2, "Order.holds", ["self", "coming", "done"], ["self", "coming", "done"], []⟩
noncomputable def Jbv : D4 := ⟨Jad (top 37) 0, "ByRank.__init__", ["self", "duty"], ["self", "duty"], []⟩
noncomputable def Jah : D4 := ⟨Jad (top 37) 1, "ByRank.rank_of", ["self", "coming", "done"], ["self", "coming", "done"], []⟩
noncomputable def Ja8 : D4 := ⟨Jad (top 37) 2, "ByRank.holds", ["self", "coming", "done"], ["self", "coming", "done"], []⟩
noncomputable def Jcl : D4 := ⟨Jad (top 38) 0, "ByDue.__init__", ["self", "duty"], ["self", "duty"], []⟩
noncomputable def Jao : D4 := ⟨Jad (top 38) 1, "ByDue.rank_of", ["self", "coming", "done"], ["self", "coming", "done"], []⟩
noncomputable def Jap : D4 := ⟨Jad (top 39) 0, "ByComing.__init__", ["self", "duty"], ["self", "duty"], []⟩
noncomputable def J1 : D4 := ⟨Jad (top 39) 1, "ByComing.rank_of", ["self", "coming", "done"], ["self", "coming", "done"], []⟩
noncomputable def Jdy : D4 := ⟨top 43, "own_works", ["works"], ["works"], []⟩
noncomputable def Jgo : D4 := ⟨top 44, "crowd_of", ["works"], ["works", "greatest"], []⟩
noncomputable def Jew : D4 := ⟨Jad (top 45) 0, "Duty.__init__", ["self", "works"], ["self", "works"], []⟩
noncomputable def Jea : D4 := ⟨Jad (top 45) 1, "Duty.size", ["self"], ["self"], []⟩
noncomputable def Jev : D4 := ⟨Jad (top 45) 2, "Duty.work", ["self", "at"], ["self", "at"], []⟩
noncomputable def Jfw : D4 := ⟨Jad (top 45) 4, "Duty.crowd", ["self"], ["self"], []⟩
noncomputable def Jbx : D4 := ⟨top 47, "_law_cell_at", ["_law_script", "_law_k"], ["_law_script", "_law_k"], []⟩
noncomputable def Jcj : D4 := ⟨top 48, "_law_stream", ["_law_cell", "_law_many"], ["_law_cell", "_law_many", "_law_found", "_law_rest", "_law_k", "_law_number"], []⟩
noncomputable def Jgg : D4 := ⟨top 49, "_law_word", ["_law_cell", "_law_k"], ["_law_cell", "_law_k", "_law_letters", "_law_size", "_law_word_here", "_law_at"], []⟩
noncomputable def Jd5 : D4 := ⟨top 50, "_law_holds", ["_law_xs", "_law_length", "_law_words"], ["_law_xs", "_law_length", "_law_words", "_law_p", "_law_one", "_law_other", "_law_some_here"], []⟩
noncomputable def Jef : D4 := ⟨top 51, "_law_plain", ["_law_cell", "_law_unit", "_law_words"], ["_law_cell", "_law_unit", "_law_words", "_law_xs", "_law_gap", "_law_due_here", "_law_late", "_law_length", "_law_holds_here"], []⟩
noncomputable def Jge : D4 := ⟨top 52, "_law_some", ["_law_script", "_law_held"], ["_law_script", "_law_held", "_law_first", "_law_unit", "_law_second", "_law_words", "_law_some_here", "_law_k", "_law_plain_here"], []⟩
noncomputable def Jjn : D4 := ⟨top 53, "_law_row", ["_law_cells", "_law_some_here"], ["_law_cells", "_law_some_here", "_law_row_here", "_law_last", "_law_base", "_law_cell", "_law_xs", "_law_at", "_law_name", "_law_gap", "_law_length", "_law_due_here", "_law_late", "_law_holds_here", "_law_wait", "_law_come"], []⟩
noncomputable def Jec : D4 := ⟨top 54, "_law_order", ["_law_kind", "_law_some_here"], ["_law_kind", "_law_some_here", "_law_duty"], []⟩
noncomputable def Jed : D4 := ⟨top 55, "_law_dones", ["_law_coming", "_law_holds_here", "_law_cell"], ["_law_coming", "_law_holds_here", "_law_cell", "_law_dones_here", "_law_thing", "_law_start", "_law_end"], []⟩
noncomputable def Jiu : D4 := ⟨top 56, "_law_due", ["_law_kind", "_law_some_here", "_law_coming", "_law_done"], ["_law_kind", "_law_some_here", "_law_coming", "_law_done", "_law_least", "_law_held", "_law_at"], []⟩
noncomputable def Jm4 : D4 := ⟨top 57, "law", ["_law_script"], ["_law_script", "_law_kind", "_law_some_here", "_law_row_here", "_law_order_here", "_law_turn", "_law_coming", "_law_done", "_law_found", "_law_held"], []⟩
noncomputable def T : Tab where
 fns := [(("is_whole" : Str), Jgh), (("is_whole_from" : Str), Jat), (("rounds_up" : Str), Jdo), (("due_at" : Str), Jlt), (("is_name" : Str), Jih), (("is_hold" : Str), Jjy), (("lie_apart" : Str), Jem), (("lies_in" : Str), Jip), (("go_together" : Str), Jbq), (("all_go_together" : Str), J7), (("own_holds" : Str), Jd9), (("own_due" : Str), Ji6), (("ceilings" : Str), Jgm), (("refuse_holds" : Str), Jbb), (("things_held" : Str), Jbr), (("lifted" : Str), Jlw), (("own_works" : Str), Jdy), (("crowd_of" : Str), Jgo), (("_law_cell_at" : Str), Jbx), (("_law_stream" : Str), Jcj), (("_law_word" : Str), Jgg), (("_law_holds" : Str), Jd5), (("_law_plain" : Str), Jef), (("_law_some" : Str), Jge), (("_law_row" : Str), Jjn), (("_law_order" : Str), Jec), (("_law_dones" : Str), Jed), (("_law_due" : Str), Jiu), (("law" : Str), Jm4)]
 clss := [("Work", Jk), ("Order", Jch), ("ByRank", Jbv), ("ByDue", Jcl), ("ByComing", Jap), ("Duty", Jew)]
 meths := [("Work", ([("held", Jei)] : List (Str × D4))), ("Order", ([("rank_of", Jb0), ("holds", Jr)] : List (Str × D4))), ("ByRank", ([("rank_of", Jah), ("holds", Ja8)] : List (Str × D4))), ("ByDue", ([("rank_of", Jao), ("holds", Jr)] : List (Str × D4))), ("ByComing", ([("rank_of", J1), ("holds", Jr)] : List (Str × D4))), ("Duty", ([("size", Jea), ("work", Jev), ("crowd", Jfw)] : List (Str × D4)))]
 cons := [("AT", .int 0), ("COME", .int 1), ("MOST_LETTERS", .int 8), ("MOST_HOLDS", .int 6), ("THING", .int 0), ("START", .int 1), ("END", .int 2), ("MOST_WORKS", .int 12), ("MOST_CROWD", .int 80)]
 isas := [("Work", ["Work"])]
 flds := ["append", "due", "duty", "gap", "hold_tuples", "join", "late", "length", "name", "setdefault", "tops", "works"]
 frees := ["all", "bool", "enumerate", "int", "isinstance", "len", "list", "max", "min", "range", "set", "sorted", "str", "sum", "tuple"]
 bass := ["Order"]
noncomputable abbrev pg (k : Nat) : Pg := mkPg T (run T k)
noncomputable abbrev Jgl (k : Nat) : List IV -> IH -> Res IV := run T k Jgh
noncomputable abbrev Jl (k : Nat) : List IV -> IH -> Res IV := run T k Jat
noncomputable abbrev Jer (k : Nat) : List IV -> IH -> Res IV := run T k Jdo
noncomputable abbrev Jo3 (k : Nat) : List IV -> IH -> Res IV := run T k Jlt
noncomputable abbrev Jff (k : Nat) : List IV -> IH -> Res IV := run T k Jih
noncomputable abbrev Jiv (k : Nat) : List IV -> IH -> Res IV := run T k Jjy
noncomputable abbrev Jd7 (k : Nat) : List IV -> IH -> Res IV := run T k Jem
noncomputable abbrev Jf5 (k : Nat) : List IV -> IH -> Res IV := run T k Jip
noncomputable abbrev Jbt (k : Nat) : List IV -> IH -> Res IV := run T k Jbq
noncomputable abbrev J6 (k : Nat) : List IV -> IH -> Res IV := run T k J7
noncomputable abbrev Ja3 (k : Nat) : List IV -> IH -> Res IV := run T k Jd9
noncomputable abbrev Jc6 (k : Nat) : List IV -> IH -> Res IV := run T k Ji6
noncomputable abbrev Jce (k : Nat) : List IV -> IH -> Res IV := run T k Jk
noncomputable abbrev Jd3 (k : Nat) : List IV -> IH -> Res IV := run T k Jei
noncomputable abbrev Jby (k : Nat) : List IV -> IH -> Res IV := run T k Jgm
noncomputable abbrev Jae (k : Nat) : List IV -> IH -> Res IV := run T k Jbb
noncomputable abbrev Jas (k : Nat) : List IV -> IH -> Res IV := run T k Jbr
noncomputable abbrev Jlq (k : Nat) : List IV -> IH -> Res IV := run T k Jlw
noncomputable abbrev Jal (k : Nat) : List IV -> IH -> Res IV := run T k Jch
noncomputable abbrev Jaq (k : Nat) : List IV -> IH -> Res IV := run T k Jr
noncomputable abbrev Jbu (k : Nat) : List IV -> IH -> Res IV := run T k Jbv
noncomputable abbrev Jag (k : Nat) : List IV -> IH -> Res IV := run T k Jah
noncomputable abbrev Jbc (k : Nat) : List IV -> IH -> Res IV := run T k Ja8
noncomputable abbrev Jci (k : Nat) : List IV -> IH -> Res IV := run T k Jcl
noncomputable abbrev Jan (k : Nat) : List IV -> IH -> Res IV := run T k Jao
noncomputable abbrev Jam (k : Nat) : List IV -> IH -> Res IV := run T k Jap
noncomputable abbrev J0 (k : Nat) : List IV -> IH -> Res IV := run T k J1
noncomputable abbrev Jex (k : Nat) : List IV -> IH -> Res IV := run T k Jdy
noncomputable abbrev Jgn (k : Nat) : List IV -> IH -> Res IV := run T k Jgo
noncomputable abbrev Jbz (k : Nat) : List IV -> IH -> Res IV := run T k Jew
noncomputable abbrev Jek (k : Nat) : List IV -> IH -> Res IV := run T k Jea
noncomputable abbrev Jd2 (k : Nat) : List IV -> IH -> Res IV := run T k Jev
noncomputable abbrev Js (k : Nat) : List IV -> IH -> Res IV := run T k Jbx
noncomputable abbrev Jbg (k : Nat) : List IV -> IH -> Res IV := run T k Jcj
noncomputable abbrev Jdd (k : Nat) : List IV -> IH -> Res IV := run T k Jgg
noncomputable abbrev Jej (k : Nat) : List IV -> IH -> Res IV := run T k Jd5
noncomputable abbrev Jds (k : Nat) : List IV -> IH -> Res IV := run T k Jef
noncomputable abbrev Jgk (k : Nat) : List IV -> IH -> Res IV := run T k Jge
noncomputable abbrev Jii (k : Nat) : List IV -> IH -> Res IV := run T k Jjn
noncomputable abbrev Jdw (k : Nat) : List IV -> IH -> Res IV := run T k Jec
noncomputable abbrev Jdz (k : Nat) : List IV -> IH -> Res IV := run T k Jed
noncomputable abbrev Ji9 (k : Nat) : List IV -> IH -> Res IV := run T k Jiu
noncomputable abbrev Jsj (k : Nat) : List IV -> IH -> Res IV := run T k Jm4
noncomputable def Jk7 (k : Nat) : S1 := (sRet (eAnd (eIsi Je1 (eVar 0)) (eUn (Jub tru) (eIsi Jaz (eVar 0))) tru))
theorem Jr2 (k : Nat) : Jgl (k + 1) = fnI 1 (Jk7 k) := by kernel_rfl
theorem Jsb (k : Nat) (x0 : IV) (h : IH) : Jgl (k + 1) [x0] h = (Jk7 k [some x0] h).fin := by rw [Jr2]; rfl
noncomputable def Ja4 (k : Nat) : S1 := (sRet (eAnd (Jn (Jgl k) [] (Ja (eVar 0) aNil)) (eBin cGe (eVar 0) (eVar 1)) tru))
theorem Jlp (k : Nat) : Jl (k + 1) = fnI 2 (Ja4 k) := by kernel_rfl
theorem Jla (k : Nat) (x0 x1 : IV) (h : IH) : Jl (k + 1) [x0, x1] h = (Ja4 k [some x0, some x1] h).fin := by rw [Jlp]; rfl
noncomputable def Jdp (k : Nat) : S1 := (sRet (eBin Jaj (eBin Jnk (eBin Jo (eVar 0) (eVar 1)) (eC (.int 1))) (eVar 1)))
theorem Jpy (k : Nat) : Jer (k + 1) = fnI 2 (Jdp k) := by kernel_rfl
theorem Jru (k : Nat) (x0 x1 : IV) (h : IH) : Jer (k + 1) [x0, x1] h = (Jdp k [some x0, some x1] h).fin := by rw [Jpy]; rfl
noncomputable def Jkf (k : Nat) : S1 := (sRet (eBin Jo (eBin opIx (eVar 1) (eC (.int 1))) (eFld "due" (eDot (pg k) "work" 1 (eVar 0) (Ja (eBin opIx (eVar 1) (eC (.int 0))) aNil)))))
theorem Jwu (k : Nat) : Jo3 (k + 1) = fnI 2 (Jkf k) := by kernel_rfl
theorem Jxa (k : Nat) (x0 x1 : IV) (h : IH) : Jo3 (k + 1) [x0, x1] h = (Jkf k [some x0, some x1] h).fin := by rw [Jwu]; rfl
noncomputable def Jeo (k : Nat) : E1 := (Je2 cLe cLe (eC (.str "a")) (eVar 0) (eC (.str "z")))
noncomputable def Jme (k : Nat) : S1 := (sRet (eCB (on1 allI) (Ja (Jy (iAny (eVar 0)) 1 [] (gNm 0) Ja2 (Jeo k)) aNil)))
noncomputable def Jh5 (k : Nat) : S1 := sSeq (sIf (tOrI (Jb6 (tOfB tru (eIsi Jgc (eVar 0)))) (Jb6 (tOfB asB (Je2 cLe cLe (eC (.int 1)) (eCB (on1 lenI) (Ja (eVar 0) aNil)) (eC (.int 8)))))) (sRet (eC (.bl false))) sNil) (Jme k)
theorem Jt1 (k : Nat) : Jff (k + 1) = fnI 1 (Jh5 k) := by kernel_rfl
theorem Juu (k : Nat) (x0 : IV) (h : IH) : Jff (k + 1) [x0] h = (Jh5 k [some x0] h).fin := by rw [Jt1]; rfl
noncomputable def Jmm (k : Nat) : S1 := (sRet (eAnd (Jn (Jl k) [] (Ja (eBin opIx (eVar 0) (eC (.int 2))) (Ja (eBin Jo (eBin opIx (eVar 0) (eC (.int 1))) (eC (.int 1))) aNil))) (eBin cLt (eBin opIx (eVar 0) (eC (.int 2))) (eVar 1)) tru))
noncomputable def Jmf (k : Nat) : S1 := sSeq (sIf (Jb6 (tOfB tru (Jn (Jl k) [] (Ja (eBin opIx (eVar 0) (eC (.int 1))) (Ja (eC (.int 0)) aNil))))) (sRet (eC (.bl false))) sNil) (Jmm k)
noncomputable def Jh2 (k : Nat) : S1 := sSeq (sIf (tOrI (Jb6 (tOfB tru (eIsi Jfp (eVar 0)))) (tOrI (tOfB asB (eBin cNe (eCB (on1 lenI) (Ja (eVar 0) aNil)) (eC (.int 3)))) (Jb6 (tOfB tru (Jn (Jff k) [] (Ja (eBin opIx (eVar 0) (eC (.int 0))) aNil)))))) (sRet (eC (.bl false))) sNil) (Jmf k)
theorem Jtx (k : Nat) : Jiv (k + 1) = fnI 2 (Jh2 k) := by kernel_rfl
theorem Jt5 (k : Nat) (x0 x1 : IV) (h : IH) : Jiv (k + 1) [x0, x1] h = (Jh2 k [some x0, some x1] h).fin := by rw [Jtx]; rfl
noncomputable def Jdt (k : Nat) : S1 := (sRet (eOr (eBin cLe (eBin opIx (eVar 0) (eC (.int 2))) (eBin opIx (eVar 1) (eC (.int 1)))) (eBin cLe (eBin opIx (eVar 1) (eC (.int 2))) (eBin opIx (eVar 0) (eC (.int 1)))) tru))
theorem Jq8 (k : Nat) : Jd7 (k + 1) = fnI 2 (Jdt k) := by kernel_rfl
theorem Jqf (k : Nat) (x0 x1 : IV) (h : IH) : Jd7 (k + 1) [x0, x1] h = (Jdt k [some x0, some x1] h).fin := by rw [Jq8]; rfl
noncomputable def Jia (k : Nat) : S1 := (sRet (eAnd (eBin cLe (eBin opIx (eVar 1) (eC (.int 1))) (eBin opIx (eVar 0) (eC (.int 1)))) (eBin cLe (eBin opIx (eVar 0) (eC (.int 2))) (eBin opIx (eVar 1) (eC (.int 2)))) tru))
theorem Jue (k : Nat) : Jf5 (k + 1) = fnI 2 (Jia k) := by kernel_rfl
theorem Jty (k : Nat) (x0 x1 : IV) (h : IH) : Jf5 (k + 1) [x0, x1] h = (Jia k [some x0, some x1] h).fin := by rw [Jue]; rfl
noncomputable def Jf4 (k : Nat) : S1 := (sRet (eOr (Jn (Jf5 k) [] (Ja (eVar 0) (Ja (eVar 1) aNil))) (Jn (Jf5 k) [] (Ja (eVar 1) (Ja (eVar 0) aNil))) tru))
noncomputable def Jf2 (k : Nat) : S1 := sSeq (sIf (tOfB asB (eBin cEq (eBin opIx (eVar 0) (eC (.int 0))) (eBin opIx (eVar 1) (eC (.int 0))))) (sRet (eC (.bl false))) sNil) (Jf4 k)
noncomputable def Jcd (k : Nat) : S1 := sSeq (sIf (tOfB tru (Jn (Jd7 k) [] (Ja (eVar 0) (Ja (eVar 1) aNil)))) (sRet (eC (.bl true))) sNil) (Jf2 k)
theorem Jnp (k : Nat) : Jbt (k + 1) = fnI 2 (Jcd k) := by kernel_rfl
theorem Jnq (k : Nat) (x0 x1 : IV) (h : IH) : Jbt (k + 1) [x0, x1] h = (Jcd k [some x0, some x1] h).fin := by rw [Jnp]; rfl
noncomputable def Jbj (k : Nat) : E1 := (Jn (Jbt k) [] (Ja (eVar 1) (Ja (eVar 0) aNil)))
noncomputable def Jbp (k : Nat) : S1 := (sIf (Jb6 (tOfB tru (eCB (on1 allI) (Ja (Jy (iAny (eSl slI (eVar 0) Jpg (Jld (eVar 1)))) 1 [2] (gNm 0) Ja2 (Jbj k)) aNil)))) (sRet (eC (.bl false))) sNil)
noncomputable def Jb7 (k : Nat) : S1 := (sRet (eC (.bl true)))
noncomputable def Jai (k : Nat) : S1 := sSeq (sFor (iRg Je9 (Ja (eVar 0) aNil)) (gTp 2 (gC (gNm 1) (gC (gNm 2) gN))) (Jbp k)) (Jb7 k)
theorem Jib (k : Nat) : J6 (k + 1) = fnI 3 (Jai k) := by kernel_rfl
theorem Jj4 (k : Nat) (x0 : IV) (h : IH) : J6 (k + 1) [x0] h = (Jai k [some x0, none, none] h).fin := by rw [Jib]; rfl
noncomputable def Jfs (k : Nat) : E1 := (Jn (Jiv k) [] (Ja (eVar 0) (Ja (eVar 1) aNil)))
noncomputable def Jfo (k : Nat) : E1 := (eTup (Ja (eBin opIx (eVar 0) (eC (.int 0))) (Ja (eBin opIx (eVar 0) (eC (.int 1))) (Ja (eBin opIx (eVar 0) (eC (.int 2))) aNil))))
noncomputable def Jja (k : Nat) : S1 := (sRet (eCB (on1 Jm1) (Ja (Jy (iAny (eVar 0)) 1 [] (gNm 0) Ja2 (Jfo k)) aNil)))
noncomputable def Jjg (k : Nat) : S1 := sSeq (sIf (Jb6 (tOfB tru (Jn (J6 k) [] (Ja (eVar 0) aNil)))) stS sNil) (Jja k)
noncomputable def Jjt (k : Nat) : S1 := sSeq (sIf (Jb6 (tOfB tru (eCB (on1 allI) (Ja (Jy (iAny (eVar 0)) 1 [1] (gNm 0) Ja2 (Jfs k)) aNil)))) stS sNil) (Jjg k)
noncomputable def Jjq (k : Nat) : S1 := sSeq (sIf (tOfB asB (eBin cGt (eCB (on1 lenI) (Ja (eVar 0) aNil)) (eC (.int 6)))) stS sNil) (Jjt k)
noncomputable def Jic (k : Nat) : S1 := sSeq (sIf (Jb6 (tOfB tru (eIsi Jbl (eVar 0)))) stS sNil) (Jjq k)
noncomputable def Jep (k : Nat) : S1 := sSeq (sIf (tOfB asB (eBin cIs (eVar 0) (eC .non))) (sRet (eTup aNil)) sNil) (Jic k)
theorem Jqd (k : Nat) : Ja3 (k + 1) = fnI 2 (Jep k) := by kernel_rfl
theorem Jrp (k : Nat) (x0 x1 : IV) (h : IH) : Ja3 (k + 1) [x0, x1] h = (Jep k [some x0, some x1] h).fin := by rw [Jqd]; rfl
noncomputable def Jl4 (k : Nat) : S1 := (sRet (eVar 0))
noncomputable def Jmr (k : Nat) : S1 := sSeq (sIf (tOrI (Jb6 (tOfB tru (Jn (Jl k) [] (Ja (eVar 0) (Ja (eC (.int 1)) aNil))))) (tOfB asB (eBin cGt (eVar 0) (eVar 1)))) stS sNil) (Jl4 k)
noncomputable def Jhy (k : Nat) : S1 := sSeq (sIf (tOfB asB (eBin cIs (eVar 0) (eC .non))) (sRet (eVar 1)) sNil) (Jmr k)
theorem Juo (k : Nat) : Jc6 (k + 1) = fnI 2 (Jhy k) := by kernel_rfl
theorem Jtq (k : Nat) (x0 x1 : IV) (h : IH) : Jc6 (k + 1) [x0, x1] h = (Jhy k [some x0, some x1] h).fin := by rw [Juo]; rfl
noncomputable def Jid (k : Nat) : S1 := (Jiq "hold_tuples" (eVar 0) (Jn (Ja3 k) [] (Ja (eVar 6) (Ja (eVar 3) aNil))))
noncomputable def Jjj (k : Nat) : S1 := sSeq (Jiq "late" (eVar 0) (eVar 5)) (Jid k)
noncomputable def Jjl (k : Nat) : S1 := sSeq (Jiq "due" (eVar 0) (Jn (Jc6 k) [] (Ja (eVar 4) (Ja (eVar 2) aNil)))) (Jjj k)
noncomputable def Jij (k : Nat) : S1 := sSeq (Jiq "length" (eVar 0) (eVar 3)) (Jjl k)
noncomputable def Jis (k : Nat) : S1 := sSeq (Jiq "gap" (eVar 0) (eVar 2)) (Jij k)
noncomputable def Jik (k : Nat) : S1 := sSeq (Jiq "name" (eVar 0) (eVar 1)) (Jis k)
noncomputable def Jj2 (k : Nat) : S1 := sSeq (sIf (Jb6 (tOfB tru (Jn (Jl k) [] (Ja (eVar 5) (Ja (eC (.int 0)) aNil))))) stS sNil) (Jik k)
noncomputable def Jjo (k : Nat) : S1 := sSeq (sIf (Jb6 (tOfB tru (Jn (Jl k) [] (Ja (eVar 3) (Ja (eC (.int 1)) aNil))))) stS sNil) (Jj2 k)
noncomputable def Jj1 (k : Nat) : S1 := sSeq (sIf (Jb6 (tOfB tru (Jn (Jl k) [] (Ja (eVar 2) (Ja (eC (.int 1)) aNil))))) stS sNil) (Jjo k)
noncomputable def Jeq (k : Nat) : S1 := sSeq (sIf (Jb6 (tOfB tru (Jn (Jff k) [] (Ja (eVar 1) aNil)))) stS sNil) (Jj1 k)
theorem Jrw (k : Nat) : Jce (k + 1) = fnI 7 (Jeq k) := by kernel_rfl
theorem Jqx (k : Nat) (x0 x1 x2 x3 x4 x5 x6 : IV) (h : IH) : Jce (k + 1) [x0, x1, x2, x3, x4, x5, x6] h = (Jeq k [some x0, some x1, some x2, some x3, some x4, some x5, some x6] h).fin := by rw [Jrw]; rfl
noncomputable def Jdr (k : Nat) : S1 := (sRet (eCB (on1 Jqv) (Ja (eFld "hold_tuples" (eVar 0)) aNil)))
theorem Jqm (k : Nat) : Jd3 (k + 1) = fnI 1 (Jdr k) := by kernel_rfl
theorem Jqz (k : Nat) (x0 : IV) (h : IH) : Jd3 (k + 1) [x0] h = (Jdr k [some x0] h).fin := by rw [Jqm]; rfl
noncomputable def Jim (k : Nat) : S1 := (Jgq (eDot (pg k) "setdefault" 2 (eVar 1) (Ja (eBin opIx (eVar 3) (eC (.int 0))) (Ja (eVar 2) aNil))))
noncomputable def Jel (k : Nat) : S1 := (sFor (iAny (eDot (pg k) "held" 0 (eDot (pg k) "work" 1 (eVar 0) (Ja (eVar 2) aNil)) aNil)) (gNm 3) (Jim k))
noncomputable def Jfy (k : Nat) : S1 := (sRet (eVar 1))
noncomputable def Jgd (k : Nat) : S1 := sSeq (sFor (iRg Jb4 (Ja (eDot (pg k) "size" 0 (eVar 0) aNil) aNil)) (gNm 2) (Jel k)) (Jfy k)
noncomputable def Jck (k : Nat) : S1 := sSeq (sSet 1 Ju7) (Jgd k)
theorem Jse (k : Nat) : Jby (k + 1) = fnI 4 (Jck k) := by kernel_rfl
theorem Jmn (k : Nat) (x0 : IV) (h : IH) : Jby (k + 1) [x0] h = (Jck k [some x0, none, none, none] h).fin := by rw [Jse]; rfl
noncomputable def Jbk (k : Nat) : S1 := (sIf (tOfB asB (eBin cGt (eCB (on1 Jul) (Ja (Jn (Jby k) [] (Ja (eVar 0) aNil)) aNil)) (eC (.int 0)))) stS sNil)
theorem Jl1 (k : Nat) : Jae (k + 1) = fnI 1 (Jbk k) := by kernel_rfl
theorem Jna (k : Nat) (x0 : IV) (h : IH) : Jae (k + 1) [x0] h = (Jbk k [some x0] h).fin := by rw [Jl1]; rfl
noncomputable def Jda (k : Nat) : E1 := (eBin opIx (eVar 0) (eC (.int 0)))
noncomputable def Jdf (k : Nat) : T1 := (tOfB asB (Je2 cLt cLt (eBin opIx (eVar 0) (eC (.int 1))) (eVar 1) (eBin opIx (eVar 0) (eC (.int 2)))))
noncomputable def Jb9 (k : Nat) : S1 := (sRet (Jy (iAny (eDot (pg k) "held" 0 (eVar 0) aNil)) 1 [1] (gNm 0) (Jdf k) (Jda k)))
theorem Jn7 (k : Nat) : Jas (k + 1) = fnI 2 (Jb9 k) := by kernel_rfl
theorem Jnl (k : Nat) (x0 x1 : IV) (h : IH) : Jas (k + 1) [x0, x1] h = (Jb9 k [some x0, some x1] h).fin := by rw [Jn7]; rfl
noncomputable def Jkv (k : Nat) : E1 := (eBin Jox (eVar 1) (eVar 0))
noncomputable def Jkl (k : Nat) : S1 := (sRet (eCB (on1 Jun) (Ja (eBin Jo (eLst (Ja (eVar 0) aNil)) (Jy (iAny (eVar 1)) 1 [2] (gNm 0) Ja2 (Jkv k))) aNil)))
theorem Jwl (k : Nat) : Jlq (k + 1) = fnI 3 (Jkl k) := by kernel_rfl
theorem Jwh (k : Nat) (x0 x1 x2 : IV) (h : IH) : Jlq (k + 1) [x0, x1, x2] h = (Jkl k [some x0, some x1, some x2] h).fin := by rw [Jwl]; rfl
noncomputable def Jcp (k : Nat) : S1 := (Jiq "duty" (eVar 0) (eVar 1))
theorem Jpi (k : Nat) : Jal (k + 1) = fnI 2 (Jcp k) := by kernel_rfl
theorem Jo5 (k : Nat) (x0 x1 : IV) (h : IH) : Jal (k + 1) [x0, x1] h = (Jcp k [some x0, some x1] h).fin := by rw [Jpi]; rfl
noncomputable def Jcb (k : Nat) : S1 := (sRet (eC (.bl false)))
theorem Job (k : Nat) : Jaq (k + 1) = fnI 3 (Jcb k) := by kernel_rfl
theorem Jn0 (k : Nat) (x0 x1 x2 : IV) (h : IH) : Jaq (k + 1) [x0, x1, x2] h = (Jcb k [some x0, some x1, some x2] h).fin := by rw [Job]; rfl
noncomputable def Jfm (k : Nat) : S1 := (Jiq "tops" (eVar 0) (Jn (Jby k) [] (Ja (eVar 1) aNil)))
noncomputable def Jb8 (k : Nat) : S1 := sSeq (Jgq (Jn (Jal k) [] (Ja (eVar 0) (Ja (eVar 1) aNil)))) (Jfm k)
theorem Jny (k : Nat) : Jbu (k + 1) = fnI 2 (Jb8 k) := by kernel_rfl
theorem Jnd (k : Nat) (x0 x1 : IV) (h : IH) : Jbu (k + 1) [x0, x1] h = (Jb8 k [some x0, some x1] h).fin := by rw [Jny]; rfl
noncomputable def Jar (k : Nat) : S1 := (sRet (Jn (Jlq k) [] (Ja (eBin opIx (eVar 1) (eC (.int 0))) (Ja (Jn (Jas k) [] (Ja (eDot (pg k) "work" 1 (eFld "duty" (eVar 0)) (Ja (eBin opIx (eVar 1) (eC (.int 0))) aNil)) (Ja (eVar 2) aNil))) (Ja (eFld "tops" (eVar 0)) aNil)))))
theorem Jkm (k : Nat) : Jag (k + 1) = fnI 3 (Jar k) := by kernel_rfl
theorem Jkh (k : Nat) (x0 x1 x2 : IV) (h : IH) : Jag (k + 1) [x0, x1, x2] h = (Jar k [some x0, some x1, some x2] h).fin := by rw [Jkm]; rfl
noncomputable def Jbm (k : Nat) : S1 := (sRet (eBin cGt (eCB (on1 lenI) (Ja (Jn (Jas k) [] (Ja (eDot (pg k) "work" 1 (eFld "duty" (eVar 0)) (Ja (eBin opIx (eVar 1) (eC (.int 0))) aNil)) (Ja (eVar 2) aNil))) aNil)) (eC (.int 0))))
theorem Jl0 (k : Nat) : Jbc (k + 1) = fnI 3 (Jbm k) := by kernel_rfl
theorem Jmj (k : Nat) (x0 x1 x2 : IV) (h : IH) : Jbc (k + 1) [x0, x1, x2] h = (Jbm k [some x0, some x1, some x2] h).fin := by rw [Jl0]; rfl
noncomputable def Jhe (k : Nat) : S1 := (Jgq (Jn (Jal k) [] (Ja (eVar 0) (Ja (eVar 1) aNil))))
noncomputable def Jco (k : Nat) : S1 := sSeq (Jgq (Jn (Jae k) [] (Ja (eVar 1) aNil))) (Jhe k)
theorem Jpm (k : Nat) : Jci (k + 1) = fnI 2 (Jco k) := by kernel_rfl
theorem Jo1 (k : Nat) (x0 x1 : IV) (h : IH) : Jci (k + 1) [x0, x1] h = (Jco k [some x0, some x1] h).fin := by rw [Jpm]; rfl
noncomputable def Ja0 (k : Nat) : S1 := (sRet (Jn (Jo3 k) [] (Ja (eFld "duty" (eVar 0)) (Ja (eVar 1) aNil))))
theorem Jlc (k : Nat) : Jan (k + 1) = fnI 3 (Ja0 k) := by kernel_rfl
theorem Jlh (k : Nat) (x0 x1 x2 : IV) (h : IH) : Jan (k + 1) [x0, x1, x2] h = (Ja0 k [some x0, some x1, some x2] h).fin := by rw [Jlc]; rfl
noncomputable def Jde (k : Nat) : S1 := (Jgq (Jn (Jal k) [] (Ja (eVar 0) (Ja (eVar 1) aNil))))
noncomputable def Ja6 (k : Nat) : S1 := sSeq (Jgq (Jn (Jae k) [] (Ja (eVar 1) aNil))) (Jde k)
theorem Jlb (k : Nat) : Jam (k + 1) = fnI 2 (Ja6 k) := by kernel_rfl
theorem Jln (k : Nat) (x0 x1 : IV) (h : IH) : Jam (k + 1) [x0, x1] h = (Ja6 k [some x0, some x1] h).fin := by rw [Jlb]; rfl
noncomputable def Jab (k : Nat) : S1 := (sRet (eBin opIx (eVar 1) (eC (.int 1))))
theorem Jh4 (k : Nat) : J0 (k + 1) = fnI 3 (Jab k) := by kernel_rfl
theorem Jh6 (k : Nat) (x0 x1 x2 : IV) (h : IH) : J0 (k + 1) [x0, x1, x2] h = (Jab k [some x0, some x1, some x2] h).fin := by rw [Jh4]; rfl
noncomputable def Jfq (k : Nat) : E1 := (eIsi (Jz8 ["Work"]) (eVar 0))
noncomputable def Jf1 (k : Nat) : E1 := (eFld "name" (eVar 0))
noncomputable def Jjh (k : Nat) : S1 := (sRet (eCB (on1 Jm1) (Ja (eVar 0) aNil)))
noncomputable def Jjs (k : Nat) : S1 := sSeq (sIf (tOfB asB (eBin cNe (Jmq (Ja (Jy (iAny (eVar 0)) 1 [] (gNm 0) Ja2 (Jf1 k)) aNil)) (eCB (on1 lenI) (Ja (eVar 0) aNil)))) stS sNil) (Jjh k)
noncomputable def Jiz (k : Nat) : S1 := sSeq (sIf (Jb6 (tOfB tru (eCB (on1 allI) (Ja (Jy (iAny (eVar 0)) 1 [] (gNm 0) Ja2 (Jfq k)) aNil)))) stS sNil) (Jjs k)
noncomputable def Jeu (k : Nat) : S1 := sSeq (sIf (Jb6 (tOfB tru (eIsi Jbl (eVar 0)))) stS sNil) (Jiz k)
theorem Jrz (k : Nat) : Jex (k + 1) = fnI 1 (Jeu k) := by kernel_rfl
theorem Jrc (k : Nat) (x0 : IV) (h : IH) : Jex (k + 1) [x0] h = (Jeu k [some x0] h).fin := by rw [Jrz]; rfl
noncomputable def Jhp (k : Nat) : E1 := (eFld "due" (eVar 0))
noncomputable def Jg0 (k : Nat) : E1 := (Jn (Jer k) [] (Ja (eBin Jo (eVar 1) (eFld "late" (eVar 0))) (Ja (eFld "gap" (eVar 0)) aNil)))
noncomputable def Jkw (k : Nat) : S1 := (sRet (eCB (on1 sumI) (Ja (Jy (iAny (eVar 0)) 1 [1] (gNm 0) Ja2 (Jg0 k)) aNil)))
noncomputable def Jfe (k : Nat) : S1 := sSeq (sSet 1 (Jv6 (Ja (Jy (iAny (eVar 0)) 1 [] (gNm 0) Ja2 (Jhp k)) aNil) (eC (.int 0)))) (Jkw k)
theorem Jr5 (k : Nat) : Jgn (k + 1) = fnI 2 (Jfe k) := by kernel_rfl
theorem Jsz (k : Nat) (x0 : IV) (h : IH) : Jgn (k + 1) [x0] h = (Jfe k [some x0, none] h).fin := by rw [Jr5]; rfl
noncomputable def Ji2 (k : Nat) : S1 := (sIf (tOfB asB (eBin cGt (Jn (Jgn k) [] (Ja (eFld "works" (eVar 0)) aNil)) (eC (.int 80)))) stS sNil)
noncomputable def Ji8 (k : Nat) : S1 := sSeq (sIf (tOfB asB (eBin cGt (eCB (on1 lenI) (Ja (eFld "works" (eVar 0)) aNil)) (eC (.int 12)))) stS sNil) (Ji2 k)
noncomputable def Jdk (k : Nat) : S1 := sSeq (Jiq "works" (eVar 0) (Jn (Jex k) [] (Ja (eVar 1) aNil))) (Ji8 k)
theorem Jq3 (k : Nat) : Jbz (k + 1) = fnI 2 (Jdk k) := by kernel_rfl
theorem Jq4 (k : Nat) (x0 x1 : IV) (h : IH) : Jbz (k + 1) [x0, x1] h = (Jdk k [some x0, some x1] h).fin := by rw [Jq3]; rfl
noncomputable def Jeb (k : Nat) : S1 := (sRet (eCB (on1 lenI) (Ja (eFld "works" (eVar 0)) aNil)))
theorem Jp6 (k : Nat) : Jek (k + 1) = fnI 1 (Jeb k) := by kernel_rfl
theorem Jqe (k : Nat) (x0 : IV) (h : IH) : Jek (k + 1) [x0] h = (Jeb k [some x0] h).fin := by rw [Jp6]; rfl
noncomputable def Jdv (k : Nat) : S1 := (sRet (eBin opIx (eFld "works" (eVar 0)) (eVar 1)))
theorem Jp0 (k : Nat) : Jd2 (k + 1) = fnI 2 (Jdv k) := by kernel_rfl
theorem Jq7 (k : Nat) (x0 x1 : IV) (h : IH) : Jd2 (k + 1) [x0, x1] h = (Jdv k [some x0, some x1] h).fin := by rw [Jp0]; rfl
noncomputable def Jft (k : Nat) : S1 := (sRet (eC (.int 0)))
noncomputable def Jca (k : Nat) : S1 := sSeq (sIf (tOfB asB (eBin cLt (eVar 1) (eCB (on1 lenI) (Ja (eVar 0) aNil)))) (sRet (eBin opIx (eVar 0) (eVar 1))) sNil) (Jft k)
theorem Jn6 (k : Nat) : Js (k + 1) = fnI 2 (Jca k) := by kernel_rfl
theorem Jnw (k : Nat) (x0 x1 : IV) (h : IH) : Js (k + 1) [x0, x1] h = (Jca k [some x0, some x1] h).fin := by rw [Jn6]; rfl
noncomputable def Jf6 (k : Nat) : S1 := (sSeq (Jgq (eDot (pg k) "append" 1 (eVar 2) (Ja (eBin Ju (eVar 3) (eBin Jiy (eC (.int 10)) (eC (.int 45)))) aNil))) (sSet 3 (eBin Jaj (eVar 3) (eBin Jiy (eC (.int 10)) (eC (.int 45))))))
noncomputable def Jfh (k : Nat) : S1 := (sSeq (sSet 5 (eBin Ju (eBin Jo (eBin Jo (eBin Jfx (eVar 5) (eVar 5)) (eBin Jfx (eC (.int 48271)) (eVar 5))) (eVar 4)) (eBin Jo (eBin Jiy (eC (.int 10)) (eC (.int 18))) (eC (.int 9))))) (Jgq (eDot (pg k) "append" 1 (eVar 2) (Ja (eVar 5) aNil))))
noncomputable def Jhi (k : Nat) : S1 := (sRet (eSl slI (eVar 2) (Jld (eC (.int 2))) Jpg))
noncomputable def Jhw (k : Nat) : S1 := sSeq (sFor (iRg Jb4 (Ja (eBin Jo (eVar 1) (eC (.int 2))) aNil)) (gNm 4) (Jfh k)) (Jhi k)
noncomputable def Jg2 (k : Nat) : S1 := sSeq (sSet 5 (eBin Jo (eBin Ju (eVar 0) (eBin Jo (eBin Jiy (eC (.int 10)) (eC (.int 18))) (eC (.int 9)))) (eC (.int 48271)))) (Jhw k)
noncomputable def Jgw (k : Nat) : S1 := sSeq (sIf (tOfB asB (eBin cGe (eVar 0) (eBin Jiy (eC (.int 10)) (eC (.int 30))))) (sSeq (sSet 3 (eBin Jnk (eVar 0) (eBin Jiy (eC (.int 10)) (eC (.int 30))))) (sSeq (sFor (iRg Jb4 (Ja (eVar 1) aNil)) (gNm 4) (Jf6 k)) (sRet (eVar 2)))) sNil) (Jg2 k)
noncomputable def Jcy (k : Nat) : S1 := sSeq (sSet 2 (eLst aNil)) (Jgw k)
theorem Jop (k : Nat) : Jbg (k + 1) = fnI 6 (Jcy k) := by kernel_rfl
theorem Jpj (k : Nat) (x0 x1 : IV) (h : IH) : Jbg (k + 1) [x0, x1] h = (Jcy k [some x0, some x1, none, none, none, none] h).fin := by rw [Jop]; rfl
noncomputable def Jbf (k : Nat) : E1 := (eBin opIx (eVar 2) (eBin Ju (eBin Jaj (eVar 1) (eBin Jo (eC (.int 11)) (eBin Jfx (eVar 0) (eVar 0)))) (eC (.int 26))))
noncomputable def Jkr (k : Nat) : S1 := (sRet (eBin Jo (eBin Jo (eSl slT (eVar 4) Jpg (Jld (eVar 5))) (eBin opIx (eVar 2) (eBin Ju (eBin Jo (eBin Jaj (eVar 0) (eC (.int 64))) (eVar 1)) (eC (.int 26))))) (eSl slT (eVar 4) (Jld (eBin Jo (eVar 5) (eC (.int 1)))) Jpg)))
noncomputable def Jku (k : Nat) : S1 := sSeq (sSet 5 (eBin Ju (eBin Jaj (eVar 0) (eC (.int 8))) (eVar 3))) (Jkr k)
noncomputable def Jk3 (k : Nat) : S1 := sSeq (sSet 4 (eDot (pg k) "join" 1 (eC (.str "")) (Ja (Jy (iRg Jb4 (Ja (eVar 3) aNil)) 1 [0, 2] (gNm 0) Ja2 (Jbf k)) aNil))) (Jku k)
noncomputable def Jko (k : Nat) : S1 := sSeq (sSet 3 (eBin Jo (eC (.int 1)) (eBin Ju (eVar 0) (eC (.int 8))))) (Jk3 k)
noncomputable def Jfd (k : Nat) : S1 := sSeq (sSet 2 (eC (.str "abcdefghijklmnopqrstuvwxyz"))) (Jko k)
theorem Jr6 (k : Nat) : Jdd (k + 1) = fnI 6 (Jfd k) := by kernel_rfl
theorem Jsa (k : Nat) (x0 x1 : IV) (h : IH) : Jdd (k + 1) [x0, x1] h = (Jfd k [some x0, some x1, none, none, none, none] h).fin := by rw [Jr6]; rfl
noncomputable def Je5 (k : Nat) : E1 := (eBin Ju (eVar 0) (eVar 1))
noncomputable def Jfz (k : Nat) : E1 := (eVar 0)
noncomputable def Jfc (k : Nat) : T1 := (tOfB asB (eBin cLt (eBin opIx (eVar 0) (eC (.int 1))) (eBin opIx (eVar 0) (eC (.int 2)))))
noncomputable def Jd8 (k : Nat) : S1 := (sRet (Jy (iAny (eBin opIx (eVar 6) (eBin Ju (eBin opIx (eVar 0) (eC (.int 6))) (eC (.int 6))))) 1 [] (gNm 0) (Jfc k) (Jfz k)))
noncomputable def Jd0 (k : Nat) : S1 := sSeq (sSet 6 (eBin Jo (eVar 6) (eLst (Ja (eLst (Ja (eTup (Ja (eVar 4) (Ja (eBin opIx (eVar 3) (eC (.int 0))) (Ja (eBin opIx (eVar 3) (eC (.int 1))) aNil)))) (Ja (eTup (Ja (eVar 5) (Ja (eBin opIx (eVar 3) (eC (.int 2))) (Ja (eBin opIx (eVar 3) (eC (.int 3))) aNil)))) aNil))) (Ja (eLst (Ja (eTup (Ja (eVar 4) (Ja (eBin opIx (eVar 3) (eC (.int 2))) (Ja (eBin opIx (eVar 3) (eC (.int 3))) aNil)))) (Ja (eTup (Ja (eVar 4) (Ja (eBin opIx (eVar 3) (eC (.int 0))) (Ja (eBin opIx (eVar 3) (eC (.int 1))) aNil)))) aNil))) aNil))))) (Jd8 k)
noncomputable def Jjm (k : Nat) : S1 := sSeq (sSet 6 (eLst (Ja (eLst aNil) (Ja (eLst (Ja (eTup (Ja (eVar 4) (Ja (eBin opIx (eVar 3) (eC (.int 0))) (Ja (eBin opIx (eVar 3) (eC (.int 3))) aNil)))) aNil)) (Ja (eLst (Ja (eTup (Ja (eVar 4) (Ja (eBin opIx (eVar 3) (eC (.int 0))) (Ja (eBin opIx (eVar 3) (eC (.int 3))) aNil)))) (Ja (eTup (Ja (eVar 5) (Ja (eBin opIx (eVar 3) (eC (.int 1))) (Ja (eBin opIx (eVar 3) (eC (.int 2))) aNil)))) aNil))) (Ja (eLst (Ja (eTup (Ja (eVar 5) (Ja (eBin opIx (eVar 3) (eC (.int 1))) (Ja (eBin opIx (eVar 3) (eC (.int 2))) aNil)))) (Ja (eTup (Ja (eVar 4) (Ja (eBin opIx (eVar 3) (eC (.int 0))) (Ja (eBin opIx (eVar 3) (eC (.int 3))) aNil)))) aNil))) aNil)))))) (Jd0 k)
noncomputable def Jjf (k : Nat) : S1 := sSeq (sSet 5 (eBin opIx (eVar 2) (eBin Ju (eBin Jo (eBin Jo (eBin opIx (eVar 0) (eC (.int 4))) (eC (.int 1))) (eBin Ju (eBin opIx (eVar 0) (eC (.int 5))) (eC (.int 2)))) (eC (.int 3))))) (Jjm k)
noncomputable def Jje (k : Nat) : S1 := sSeq (sSet 4 (eBin opIx (eVar 2) (eBin Ju (eBin opIx (eVar 0) (eC (.int 4))) (eC (.int 3))))) (Jjf k)
noncomputable def Jeg (k : Nat) : S1 := sSeq (sSet 3 (eCB (on1 Jkg) (Ja (Jy (iAny (eSl slI (eVar 0) Jpg (Jld (eC (.int 4))))) 1 [1] (gNm 0) Ja2 (Je5 k)) aNil))) (Jje k)
theorem Jrx (k : Nat) : Jej (k + 1) = fnI 7 (Jeg k) := by kernel_rfl
theorem Jrt (k : Nat) (x0 x1 x2 : IV) (h : IH) : Jej (k + 1) [x0, x1, x2] h = (Jeg k [some x0, some x1, some x2, none, none, none, none] h).fin := by rw [Jrx]; rfl
noncomputable def Jes (k : Nat) : S1 := (sRet (eTup (Ja (eVar 4) (Ja (eVar 7) (Ja (eVar 5) (Ja (eVar 6) (Ja (eVar 8) aNil)))))))
noncomputable def Jin (k : Nat) : S1 := sSeq (sIf (tOfB asB (eBin cNe (eVar 2) (eLst aNil))) (sSet 8 (Jn (Jej k) [] (Ja (eSl slI (eVar 3) (Jld (eC (.int 8))) Jpg) (Ja (eVar 7) (Ja (eVar 2) aNil))))) sNil) (Jes k)
noncomputable def Jif (k : Nat) : S1 := sSeq (sSet 8 (eLst aNil)) (Jin k)
noncomputable def Jjb (k : Nat) : S1 := sSeq (sSet 7 (eBin Jo (eC (.int 1)) (eBin Ju (eBin opIx (eVar 3) (eC (.int 6))) (eCB (on2 maxI) (Ja (eC (.int 1)) (Ja (eBin Jaj (eVar 4) (eBin opIx (eLst (Ja (eC (.int 1)) (Ja (eC (.int 2)) (Ja (eC (.int 4)) (Ja (eC (.int 9)) aNil))))) (eBin Ju (eBin opIx (eVar 3) (eC (.int 7))) (eC (.int 4))))) aNil)))))) (Jif k)
noncomputable def Jj5 (k : Nat) : S1 := sSeq (sSet 6 (eBin opIx (eLst (Ja (eC (.int 0)) (Ja (eC (.int 0)) (Ja (eBin Ju (eBin opIx (eVar 3) (eC (.int 4))) (eBin Jo (eC (.int 1)) (eBin Jaj (eVar 4) (eC (.int 3))))) (Ja (eBin Ju (eBin opIx (eVar 3) (eC (.int 4))) (eBin Jo (eC (.int 1)) (eBin Jaj (eBin Jfx (eC (.int 3)) (eVar 4)) (eC (.int 2))))) aNil))))) (eBin Ju (eBin opIx (eVar 3) (eC (.int 5))) (eC (.int 4))))) (Jjb k)
noncomputable def Jiw (k : Nat) : S1 := sSeq (sSet 5 (eBin Jnk (eVar 4) (eBin opIx (eLst (Ja (eC (.int 0)) (Ja (eBin Ju (eBin opIx (eVar 3) (eC (.int 2))) (eVar 4)) aNil))) (eBin Ju (eBin opIx (eVar 3) (eC (.int 3))) (eC (.int 2)))))) (Jj5 k)
noncomputable def Ji3 (k : Nat) : S1 := sSeq (sSet 4 (eBin Jo (eBin Jfx (eVar 1) (eBin Jo (eC (.int 1)) (eBin Ju (eBin opIx (eVar 3) (eC (.int 0))) (eC (.int 7))))) (eBin Ju (eBin opIx (eVar 3) (eC (.int 1))) (eBin Jo (eC (.int 1)) (eBin Jaj (eVar 1) (eC (.int 2))))))) (Jiw k)
noncomputable def Jen (k : Nat) : S1 := sSeq (sSet 3 (Jn (Jbg k) [] (Ja (eVar 0) (Ja (eC (.int 15)) aNil)))) (Ji3 k)
theorem Jrq (k : Nat) : Jds (k + 1) = fnI 9 (Jen k) := by kernel_rfl
theorem Jrg (k : Nat) (x0 x1 x2 : IV) (h : IH) : Jds (k + 1) [x0, x1, x2] h = (Jen k [some x0, some x1, some x2, none, none, none, none, none, none] h).fin := by rw [Jrq]; rfl
noncomputable def Jhb (k : Nat) : E1 := (Jn (Jdd k) [] (Ja (eBin Jaj (eVar 1) (eC (.int 5))) (Ja (eVar 0) aNil)))
noncomputable def Ji7 (k : Nat) : S1 := (sSeq (sSet 8 (Jn (Jds k) [] (Ja (eBin Jo (Jn (Js k) [] (Ja (eVar 0) (Ja (eBin Jo (eC (.int 2)) (eVar 7)) aNil))) (eBin Jfx (eC (.int 7)) (eVar 7))) (Ja (eVar 3) (Ja (eVar 5) aNil))))) (Jgq (eDot (pg k) "append" 1 (eVar 6) (Ja (eBin Jo (eTup (Ja (Jn (Jdd k) [] (Ja (eBin Jaj (eVar 4) (eC (.int 7))) (Ja (eVar 7) aNil))) aNil)) (eVar 8)) aNil))))
noncomputable def Jkq (k : Nat) : S1 := (sRet (eVar 6))
noncomputable def Jk8 (k : Nat) : S1 := sSeq (sFor (iRg Jb4 (Ja (eBin Ju (eVar 4) (eC (.int 6))) aNil)) (gNm 7) (Ji7 k)) (Jkq k)
noncomputable def Jfv (k : Nat) : S1 := sSeq (sSet 6 (eLst aNil)) (Jk8 k)
noncomputable def Jf0 (k : Nat) : S1 := sSeq (sIf (tOfB tru (eVar 1)) (sSet 5 (Jy (iRg Jb4 (Ja (eC (.int 3)) aNil)) 1 [4] (gNm 0) Ja2 (Jhb k))) sNil) (Jfv k)
noncomputable def Jk9 (k : Nat) : S1 := sSeq (sSet 5 (eLst aNil)) (Jf0 k)
noncomputable def Jky (k : Nat) : S1 := sSeq (sSet 4 (Jn (Js k) [] (Ja (eVar 0) (Ja (eC (.int 1)) aNil)))) (Jk9 k)
noncomputable def Jk4 (k : Nat) : S1 := sSeq (sSet 3 (eBin Jo (eC (.int 1)) (eBin Ju (eBin Jaj (eVar 2) (eC (.int 4))) (eBin opIx (eLst (Ja (eC (.int 4)) (Ja (eBin Jiy (eC (.int 10)) (eC (.int 15))) (Ja (eBin Jiy (eC (.int 10)) (eC (.int 15))) (Ja (eBin Jiy (eC (.int 10)) (eC (.int 40))) aNil))))) (eBin Ju (eVar 2) (eC (.int 4))))))) (Jky k)
noncomputable def Jf9 (k : Nat) : S1 := sSeq (sSet 2 (Jn (Js k) [] (Ja (eVar 0) (Ja (eC (.int 0)) aNil)))) (Jk4 k)
theorem Jsp (k : Nat) : Jgk (k + 1) = fnI 9 (Jf9 k) := by kernel_rfl
theorem Jsf (k : Nat) (x0 x1 : IV) (h : IH) : Jgk (k + 1) [x0, x1] h = (Jf9 k [some x0, some x1, none, none, none, none, none, none, none] h).fin := by rw [Jsp]; rfl
noncomputable def Jil (k : Nat) : E1 := (eBin opIx (eVar 0) (eC (.int 1)))
noncomputable def Jk1 (k : Nat) : S1 := (sSeq (sSet 6 (Jn (Jbg k) [] (Ja (eVar 5) (Ja (eC (.int 6)) aNil)))) (sSeq (sSet 7 (eBin Ju (eBin opIx (eVar 6) (eC (.int 0))) (eCB (on1 lenI) (Ja (eVar 1) aNil)))) (sSeq (sAsg (eBin opIx (eVar 1) (eVar 7)) (gTp 6 (gC (gNm 8) (gC (gNm 9) (gC (gNm 10) (gC (gNm 11) (gC (gNm 12) (gC (gNm 13) gN)))))))) (sSeq (sSet 14 (eBin opIx (eLst (Ja (eVar 12) (Ja (eC (.int 0)) (Ja (eBin Ju (eBin opIx (eVar 6) (eC (.int 1))) (eBin Jo (eVar 12) (eC (.int 1)))) aNil)))) (eBin Ju (eBin opIx (eVar 6) (eC (.int 2))) (eC (.int 3))))) (sSeq (sSet 15 (eBin Jo (eBin Jnk (eVar 4) (eVar 14)) (eBin opIx (eLst (Ja (eC (.int 0)) (Ja (eBin Ju (eBin opIx (eVar 6) (eC (.int 3))) (eVar 9)) (Ja (eBin Jnk (eC (.int 0)) (eBin Ju (eBin opIx (eVar 6) (eC (.int 3))) (eVar 9))) aNil)))) (eBin Ju (eBin opIx (eVar 6) (eC (.int 4))) (eC (.int 3)))))) (sSeq (sIf (tOfB asB (eBin cInD (eVar 7) (eVar 3))) (sSet 15 (eBin Jo (eBin Jo (eBin Jox (eVar 3) (eVar 7)) (eVar 9)) (eBin opIx (eLst (Ja (eC (.int 0)) (Ja (eBin Ju (eBin opIx (eVar 6) (eC (.int 3))) (eBin Jo (eC (.int 1)) (eVar 9))) aNil))) (eBin Ju (eBin opIx (eVar 6) (eC (.int 4))) (eC (.int 2)))))) sNil) (sSeq (sAsg (eVar 15) (gSbD (eVar 3) (eVar 7))) (Jgq (eDot (pg k) "append" 1 (eVar 2) (Ja (eTup (Ja (eVar 7) (Ja (eVar 15) (Ja (eVar 14) (Ja (eBin opIx (eLst (Ja (eVar 10) (Ja (eVar 10) (Ja (eBin Jo (eC (.int 1)) (eBin Ju (eBin opIx (eVar 6) (eC (.int 5))) (eVar 10))) aNil)))) (eBin Ju (eBin Jaj (eBin opIx (eVar 6) (eC (.int 4))) (eC (.int 6))) (eC (.int 3)))) aNil))))) aNil))))))))))
noncomputable def Jmt (k : Nat) : S1 := (sRet (eVar 2))
noncomputable def Jmz (k : Nat) : S1 := sSeq (sFor (iAny (eVar 0)) (gNm 5) (Jk1 k)) (Jmt k)
noncomputable def Jmv (k : Nat) : S1 := sSeq (sSet 4 (eBin Jfx (eC (.int 3)) (eCB (on1 Juc) (Ja (Jy (iAny (eVar 1)) 1 [] (gNm 0) Ja2 (Jil k)) aNil)))) (Jmz k)
noncomputable def Jnc (k : Nat) : S1 := sSeq (sIf (tOfB asB (eBin cEq (eVar 1) (eLst aNil))) (sRet (eVar 2)) sNil) (Jmv k)
noncomputable def Jm9 (k : Nat) : S1 := sSeq (sSet 3 Ju7) (Jnc k)
noncomputable def Jh3 (k : Nat) : S1 := sSeq (sSet 2 (eLst aNil)) (Jm9 k)
theorem Juw (k : Nat) : Jii (k + 1) = fnI 16 (Jh3 k) := by kernel_rfl
theorem Jts (k : Nat) (x0 x1 : IV) (h : IH) : Jii (k + 1) [x0, x1] h = (Jh3 k [some x0, some x1, none, none, none, none, none, none, none, none, none, none, none, none, none, none] h).fin := by rw [Juw]; rfl
noncomputable def J2 (k : Nat) : E1 := (Jmc "Work" (Jce k) [] (Ja (eBin opIx (eVar 0) (eC (.int 0))) (Ja (eBin opIx (eVar 0) (eC (.int 1))) (Ja (eBin opIx (eVar 0) (eC (.int 2))) (Ja (eBin opIx (eVar 0) (eC (.int 3))) (Ja (eBin opIx (eVar 0) (eC (.int 4))) (Ja (eCB (on1 Jqv) (Ja (eBin opIx (eVar 0) (eC (.int 5))) aNil)) aNil)))))))
noncomputable def Jjz (k : Nat) : S1 := (sRet (Jmc "ByRank" (Jbu k) [] (Ja (eVar 2) aNil)))
noncomputable def Jeh (k : Nat) : S1 := sSeq (sIf (tOfB asB (eBin cEq (eVar 0) (eC (.int 2)))) (sRet (Jmc "ByComing" (Jam k) [] (Ja (eVar 2) aNil))) sNil) (Jjz k)
noncomputable def Jbw (k : Nat) : S1 := sSeq (sIf (tOfB asB (eBin cEq (eVar 0) (eC (.int 1)))) (sRet (Jmc "ByDue" (Jci k) [] (Ja (eVar 2) aNil))) sNil) (Jeh k)
noncomputable def Jd1 (k : Nat) : S1 := sSeq (sSet 2 (Jmc "Duty" (Jbz k) [] (Ja (Jy (iAny (eVar 1)) 1 [] (gNm 0) Ja2 (J2 k)) aNil))) (Jbw k)
theorem Jqu (k : Nat) : Jdw (k + 1) = fnI 3 (Jd1 k) := by kernel_rfl
theorem Jq6 (k : Nat) (x0 x1 : IV) (h : IH) : Jdw (k + 1) [x0, x1] h = (Jd1 k [some x0, some x1, none] h).fin := by rw [Jqu]; rfl
noncomputable def Jgv (k : Nat) : S1 := (sSet 3 (eBin Jo (eVar 3) (eLst (Ja (eVar 5) (Ja (eBin Jo (eVar 5) (eC (.int 1))) (Ja (eBin Jnk (eVar 6) (eC (.int 1))) (Ja (eVar 6) (Ja (eBin Jo (eVar 6) (eC (.int 1))) aNil))))))))
noncomputable def Jfg (k : Nat) : E1 := (eVar 0)
noncomputable def Jfn (k : Nat) : T1 := (tOfB asB (eBin cLt (eVar 0) (eBin opIx (eVar 1) (eC (.int 3)))))
noncomputable def Jji (k : Nat) : S1 := (sRet (Jy (iAny (eVar 3)) 1 [0] (gNm 0) (Jfn k) (Jfg k)))
noncomputable def Jjk (k : Nat) : S1 := sSeq (sFor (iAny (eVar 1)) (gTp 3 (gC (gNm 4) (gC (gNm 5) (gC (gNm 6) gN)))) (Jgv k)) (Jji k)
noncomputable def Jdu (k : Nat) : S1 := sSeq (sSet 3 (eLst (Ja (eC (.int 0)) (Ja (eBin Jnk (eBin opIx (eVar 0) (eC (.int 3))) (eC (.int 1))) (Ja (eBin Ju (eVar 2) (eBin opIx (eVar 0) (eC (.int 3)))) aNil))))) (Jjk k)
theorem Jrl (k : Nat) : Jdz (k + 1) = fnI 7 (Jdu k) := by kernel_rfl
theorem Jp4 (k : Nat) (x0 x1 x2 : IV) (h : IH) : Jdz (k + 1) [x0, x1, x2] h = (Jdu k [some x0, some x1, some x2, none, none, none, none] h).fin := by rw [Jrl]; rfl
noncomputable def Jir (k : Nat) : E1 := (eVar 0)
noncomputable def Jj3 (k : Nat) : T1 := (Jtw (tOfB asB (eBin cLt (eVar 1) (eVar 3))) (tOfB asB (eBin cLt (eVar 3) (eVar 2))))
noncomputable def Jig (k : Nat) : E1 := (eVar 0)
noncomputable def Jj0 (k : Nat) : T1 := (tOfB asB (eBin cIn (eBin opIx (eVar 0) (eC (.int 0))) (eVar 1)))
noncomputable def Jk2 (k : Nat) : S1 := (sIf (Jtw (tOfB asB (eBin cEq (eVar 4) (eBin opIx (eVar 2) (eC (.int 0))))) (tOfB asB (eBin cNe (Jy (iAny (eBin opIx (eBin opIx (eVar 1) (eVar 6)) (eC (.int 5)))) 1 [5] (gNm 0) (Jj0 k) (Jig k)) (eLst aNil)))) (sSet 4 (eVar 6)) sNil)
noncomputable def Jm6 (k : Nat) : S1 := (sRet (eTup (Ja (eVar 4) (Ja (eBin cNe (eVar 5) (eLst aNil)) aNil))))
noncomputable def Jmh (k : Nat) : S1 := sSeq (sFor (iRg Jb4 (Ja (eBin opIx (eVar 2) (eC (.int 0))) aNil)) (gNm 6) (Jk2 k)) (Jm6 k)
noncomputable def Jl3 (k : Nat) : S1 := sSeq (sSet 5 (Jy (iAny (eBin opIx (eBin opIx (eVar 1) (eBin opIx (eVar 2) (eC (.int 0)))) (eC (.int 5)))) 3 [3] (gTp 3 (gC (gNm 0) (gC (gNm 1) (gC (gNm 2) gN)))) (Jj3 k) (Jir k))) (Jmh k)
noncomputable def Jlz (k : Nat) : S1 := sSeq (sSet 4 (eBin opIx (eVar 2) (eC (.int 0)))) (Jl3 k)
noncomputable def Jhz (k : Nat) : S1 := sSeq (sIf (tOfB asB (eBin cEq (eVar 0) (eC (.int 2)))) (sRet (eTup (Ja (eBin opIx (eVar 2) (eC (.int 1))) (Ja (eC (.bl false)) aNil)))) sNil) (Jlz k)
noncomputable def Jb2 (k : Nat) : S1 := sSeq (sIf (tOfB asB (eBin cEq (eVar 0) (eC (.int 1)))) (sRet (eTup (Ja (eBin Jo (eBin opIx (eVar 2) (eC (.int 1))) (eBin opIx (eBin opIx (eVar 1) (eBin opIx (eVar 2) (eC (.int 0)))) (eC (.int 3)))) (Ja (eC (.bl false)) aNil)))) sNil) (Jhz k)
theorem Jux (k : Nat) : Ji9 (k + 1) = fnI 7 (Jb2 k) := by kernel_rfl
theorem Jur (k : Nat) (x0 x1 x2 x3 : IV) (h : IH) : Ji9 (k + 1) [x0, x1, x2, x3] h = (Jb2 k [some x0, some x1, some x2, some x3, none, none, none] h).fin := by rw [Jux]; rfl
noncomputable def Jpu (k : Nat) : S1 := (sSeq (sSet 8 (eDot (pg k) "rank_of" 2 (eVar 4) (Ja (eVar 6) (Ja (eVar 7) aNil)))) (sSeq (sSet 9 (eDot (pg k) "holds" 2 (eVar 4) (Ja (eVar 6) (Ja (eVar 7) aNil)))) (sSeq (sIf (tOrI (Jb6 (tOfB tru (eIsi Je1 (eVar 8)))) (tOrI (tOfB tru (eIsi Jaz (eVar 8))) (Jb6 (tOfB tru (eIsi Jaz (eVar 9)))))) (sRet (eC (.bl false))) sNil) (sIf (tOfB asB (eBin cNe (eTup (Ja (eVar 8) (Ja (eVar 9) aNil))) (Jn (Ji9 k) [] (Ja (eVar 1) (Ja (eVar 2) (Ja (eVar 6) (Ja (eVar 7) aNil))))))) (sRet (eC (.bl false))) sNil))))
noncomputable def Jo9 (k : Nat) : S1 := (sFor (iAny (Jn (Jdz k) [] (Ja (eVar 6) (Ja (eBin opIx (eBin opIx (eVar 2) (eBin opIx (eVar 6) (eC (.int 0)))) (eC (.int 5))) (Ja (eBin Jaj (Jn (Js k) [] (Ja (eVar 0) (Ja (eC (.int 7)) aNil))) (eC (.int 3))) aNil))))) (gNm 7) (Jpu k))
noncomputable def Jpa (k : Nat) : S1 := (sFor (iAny (eVar 3)) (gNm 6) (Jo9 k))
noncomputable def Jwa (k : Nat) : S1 := (sRet (eC (.bl true)))
noncomputable def Jxc (k : Nat) : S1 := sSeq (sFor (iRg Jb4 (Ja (eC (.int 2)) aNil)) (gNm 5) (Jpa k)) (Jwa k)
noncomputable def Jxj (k : Nat) : S1 := sSeq (sSet 4 (Jn (Jdw k) [] (Ja (eVar 1) (Ja (eVar 2) aNil)))) (Jxc k)
noncomputable def Ju6 (k : Nat) : S1 := sSeq (sSet 3 (Jn (Jii k) [] (Ja (eSl slI (eVar 0) (Jld (eC (.int 8))) (Jld (eC (.int 22)))) (Ja (eVar 2) aNil)))) (Jxj k)
noncomputable def Ju4 (k : Nat) : S1 := sSeq (sSet 2 (Jn (Jgk k) [] (Ja (eVar 0) (Ja (eBin cEq (eVar 1) (eC (.int 0))) aNil)))) (Ju6 k)
noncomputable def Jsn (k : Nat) : S1 := sSeq (sSet 1 (eBin Ju (Jn (Js k) [] (Ja (eVar 0) (Ja (eC (.int 7)) aNil))) (eC (.int 3)))) (Ju4 k)
theorem J4d (k : Nat) : Jsj (k + 1) = fnI 10 (Jsn k) := by kernel_rfl
theorem J3q (k : Nat) (x0 : IV) (h : IH) : Jsj (k + 1) [x0] h = (Jsn k [some x0, none, none, none, none, none, none, none, none, none] h).fin := by rw [J4d]; rfl
theorem Je6 (k : Nat) : Jke (pg k) "held" 0 "Work" = some (Jd3 k, []) := by kernel_rfl
theorem Jkd (k : Nat) : Jke (pg k) "rank_of" 2 "ByRank" = some (Jag k, []) := by kernel_rfl
theorem Jma (k : Nat) : Jke (pg k) "holds" 2 "ByRank" = some (Jbc k, []) := by kernel_rfl
theorem Jlm (k : Nat) : Jke (pg k) "rank_of" 2 "ByDue" = some (Jan k, []) := by kernel_rfl
theorem Jnr (k : Nat) : Jke (pg k) "holds" 2 "ByDue" = some (Jaq k, []) := by kernel_rfl
theorem Jh0 (k : Nat) : Jke (pg k) "rank_of" 2 "ByComing" = some (J0 k, []) := by kernel_rfl
theorem Jka (k : Nat) : Jke (pg k) "holds" 2 "ByComing" = some (Jaq k, []) := by kernel_rfl
theorem Jk5 (k : Nat) : Jke (pg k) "size" 0 "Duty" = some (Jek k, []) := by kernel_rfl
theorem Jbi (k : Nat) : Jke (pg k) "work" 1 "Duty" = some (Jd2 k, []) := by kernel_rfl
end LW
section
open PySem L2 L3 L4
local macro_rules | `(tactic| simp! [$xs,*]) => `(tactic| simp only [Jg8, Jez, Jc0, Jhd, Jnx, Jc3, Jcu, Jcq, Jgt, Jho, Jb3, Jgy, Jhf, Jdj, Je, Je8, Jvl, Jms, Jni, Jgz, Jn8, Jhn, Jn5, Jn4, Jc1, Jhh, Jcw, Jcr, Jau, Jc2, Ja7, Jgu, Jg6, Jc4, Jc5, Jnn, Jhs, Jg7, Ja9, Jbd, Jn3, Jg9, Jg1, Jg4, Jhq, Jhl, Jcx, Jg5, Jhm, Jcs, Jnz, Jnh, Jnv, Jnt, Jnu, Jno, Jhu, Jhc, Jhg, Jcz, Jhk, Jhx, Jn2, Jcc, Jg3, Jct, Jcv, Jhr, Jht, Jhv, Jha, Jba, List.set_cons_succ, List.set_cons_zero, List.append_nil, List.cons_append, List.nil_append, exists_eq_left, exists_eq_left', IV.bl.injEq, IV.int.injEq, IV.ref.injEq, IV.str.injEq, IO.lst.injEq, IV.tup.injEq, Option.some.injEq, Bool.not_true, Bool.not_false, reduceCtorEq, eq_self, true_implies, false_implies, implies_true, and_true, true_and, and_false, false_and, Option.bind_some, Bool.true_eq_false, Bool.false_eq_true, Jkt, Jfu, Jk0, Jqc, Jk6, Jks, Je1, Jaz, Jgc, Jbl, Jfp, Jju, Jkz, Jfj, Jfk, Jh7, Jle, Joo, Jfi, Jgb, Jfr, $xs,*])
local macro_rules | `(tactic| simp_all! [$xs,*]) => `(tactic| try simp only [Jg8, Jez, Jc0, Jhd, Jnx, Jc3, Jcu, Jcq, Jgt, Jho, Jb3, Jgy, Jhf, Jdj, Je, Je8, Jvl, Jms, Jni, Jgz, Jn8, Jhn, Jn5, Jn4, Jc1, Jhh, Jcw, Jcr, Jau, Jc2, Ja7, Jgu, Jg6, Jc4, Jc5, Jnn, Jhs, Jg7, Ja9, Jbd, Jn3, Jg9, Jg1, Jg4, Jhq, Jhl, Jcx, Jg5, Jhm, Jcs, Jnz, Jnh, Jnv, Jnt, Jnu, Jno, Jhu, Jhc, Jhg, Jcz, Jhk, Jhx, Jn2, Jcc, Jg3, Jct, Jcv, Jhr, Jht, Jhv, Jha, Jba, List.set_cons_succ, List.set_cons_zero, List.append_nil, List.cons_append, List.nil_append, exists_eq_left, exists_eq_left', IV.bl.injEq, IV.int.injEq, IV.ref.injEq, IV.str.injEq, IO.lst.injEq, IV.tup.injEq, Option.some.injEq, Bool.not_true, Bool.not_false, reduceCtorEq, eq_self, true_implies, false_implies, implies_true, and_true, true_and, and_false, false_and, Option.bind_some, Bool.true_eq_false, Bool.false_eq_true, Jkt, Jfu, Jk0, Jqc, Jk6, Jks, Je1, Jaz, Jgc, Jbl, Jfp, Jju, Jkz, Jfj, Jfk, Jh7, Jle, Joo, Jfi, Jgb, Jfr, $xs,*])
local macro_rules | `(tactic| dsimp! [$xs,*]) => `(tactic| simp only [Jg8, Jez, Jc0, Jhd, Jnx, Jc3, Jcu, Jcq, Jgt, Jho, Jb3, Jgy, Jhf, Jdj, Je, Je8, Jvl, Jms, Jni, Jgz, Jn8, Jhn, Jn5, Jn4, Jc1, Jhh, Jcw, Jcr, Jau, Jc2, Ja7, Jgu, Jg6, Jc4, Jc5, Jnn, Jhs, Jg7, Ja9, Jbd, Jn3, Jg9, Jg1, Jg4, Jhq, Jhl, Jcx, Jg5, Jhm, Jcs, Jnz, Jnh, Jnv, Jnt, Jnu, Jno, Jhu, Jhc, Jhg, Jcz, Jhk, Jhx, Jn2, Jcc, Jg3, Jct, Jcv, Jhr, Jht, Jhv, Jha, Jba, List.set_cons_succ, List.set_cons_zero, List.append_nil, List.cons_append, List.nil_append, $xs,*])
local macro_rules | `(tactic| simp! +ground [$xs,*]) => `(tactic| simp (implicitDefEqProofs := false) only [Jg8, Jez, Jc0, Jhd, Jnx, Jc3, Jcu, Jcq, Jgt, Jho, Jb3, Jgy, Jhf, Jdj, Je, Je8, Jvl, Jms, Jni, Jgz, Jn8, Jhn, Jn5, Jn4, Jc1, Jhh, Jcw, Jcr, Jau, Jc2, Ja7, Jgu, Jg6, Jc4, Jc5, Jnn, Jhs, Jg7, Ja9, Jbd, Jn3, Jg9, Jg1, Jg4, Jhq, Jhl, Jcx, Jg5, Jhm, Jcs, Jnz, Jnh, Jnv, Jnt, Jnu, Jno, Jhu, Jhc, Jhg, Jcz, Jhk, Jhx, Jn2, Jcc, Jg3, Jct, Jcv, Jhr, Jht, Jhv, Jha, Jba, List.set_cons_succ, List.set_cons_zero, List.append_nil, List.cons_append, List.nil_append, exists_eq_left, exists_eq_left', IV.bl.injEq, IV.int.injEq, IV.ref.injEq, IV.str.injEq, IO.lst.injEq, IV.tup.injEq, Option.some.injEq, Bool.not_true, Bool.not_false, reduceCtorEq, eq_self, true_implies, false_implies, implies_true, and_true, true_and, and_false, false_and, Option.bind_some, Bool.true_eq_false, Bool.false_eq_true, Jkt, Jfu, Jk0, Jqc, Jk6, Jks, Je1, Jaz, Jgc, Jbl, Jfp, Jju, Jkz, Jfj, Jfk, Jh7, Jle, Joo, Jfi, Jgb, Jfr, $xs,*])
namespace LW
open PySem L2 L3 L4
section
variable {k : Nat} {h : IH}
theorem Jd : 1000000 < sizeLine := by decide
theorem Joy (o o' : IO) : List.set (h ++ [o]) h.length o' = h ++ [o'] := by
 rw [List.set_append_right _ _ (Nat.le_refl _), Nat.sub_self]; rfl
theorem Jh8 (o o' : IO) (g : IH) : List.set (h ++ o :: g) h.length o' = h ++ o' :: g := by
 rw [List.set_append_right _ _ (Nat.le_refl _), Nat.sub_self]; rfl
end
end LW
namespace LW
open PySem L2 L3 L4
section
variable {k : Nat} {h : IH}
theorem Jly (ns : List Int) (n : Int) (hn : 0 <= n) : Js (k + 1) [.rol (ns.map .int), .int n] h = .ok (.int (ns.getD n.toNat 0)) h := by
 refine Jdn ?_
 rw [Jnw]
 simp! [Jca, Jft, List.length_map, decide_eq_true_eq, decide_eq_false_iff_not]
 refine ⟨λ hl => ⟨.int (ns.getD n.toNat 0), Jw1 hn ?_, rfl⟩, λ hl => ?_⟩
 ·rw [List.getElem?_map, List.getD_eq_getElem?_getD, List.getElem?_eq_getElem (show n.toNat < ns.length by omega)]
  rfl
 ·rw [List.getD_eq_getElem?_getD, List.getElem?_eq_none (by omega)]
  rfl
end
end LW
namespace LW
open PySem L2 L3 L4
section
variable {k : Nat} {h : IH}
theorem Jrs (i : Int) : Jgl (k + 1) [.int i] h = .ok (.bl true) h := by rw [Jsb]; rfl
theorem Jkb (i j : Int) : Jl (k + 2) [.int i, .int j] h = .ok (.bl (decide (j <= i))) h := by
 refine Jdn ?_
 rw [Jla]
 simp! [Ja4, Jrs]
noncomputable def IsNm (x : Str) : Prop := 1 <= x.length /\ x.length <= 8 /\ ∀ c ∈ x.cps.toList, 97 <= c /\ c <= 122
theorem a_cps : (Str.ofString "a").cps.toList = [97] := by decide +kernel
theorem z_cps : (Str.ofString "z").cps.toList = [122] := by decide +kernel
theorem J1d {c : Nat} (hc : 97 <= c /\ c <= 122) : Jeo k [some (.str ⟨#[c]⟩)] h = .ok (.bl true) h := by
 refine Jdn ?_
 have h1 : ¬ ([c] < [97]) := λ q => by
  cases q with
  | rel q => omega
  | cons q => cases q
 have h2 : ¬ ([122] < [c]) := λ q => by
  cases q with
  | rel q => omega
  | cons q => cases q
 simp only [Jeo, Jau, Jvl, Jms, Je8, J4x, a_cps, z_cps, h1, h2, decide_false, exists_eq_left, exists_eq_left', IV.bl.injEq, IV.int.injEq, IV.ref.injEq, IV.str.injEq, IO.lst.injEq, IV.tup.injEq, Option.some.injEq, Bool.not_true, Bool.not_false, reduceCtorEq, eq_self, true_implies, false_implies, implies_true, and_true, true_and, and_false, false_and, Option.bind_some, Bool.true_eq_false, Bool.false_eq_true, Jkt, Jfu, Jk0, Jqc, Jk6, Jks, Je1, Jaz, Jgc, Jbl, Jfp, Jju, Jkz, Jfj, Jfk, Jh7, Jle, Joo, Jfi, Jgb, Jfr]
theorem Jom {x : Str} (hx : IsNm x) : WR (Jff (k + 1) [.str x] h) λ v h' => v = .bl true /\ Ex h h' := by
 obtain ⟨h1, h2, h3⟩ := hx
 have hb := Jd
 have hz : x.length <= sizeLine := by omega
 have a1 : (1 : Int) <= x.length := by omega
 have a2 : (x.length : Int) <= 8 := by omega
 rw [Juu]
 simp! [Jh5, Jme, hz, a1, a2, decide_true]
 refine WR.mono (J9 (xs := Jnf x) (chk := λ _ => True) (f := λ _ => .bl true) (h := h) ?_ ?_ (λ _ _ => trivial) ?_) ?_
 ·exact ⟨rfl, rfl, rfl⟩
 ·have : (Jnf x).length = x.length := by simp [Jnf, Str.length]
  omega
 ·intro v hv h2 _
  obtain ⟨c, hc, rfl⟩ := List.mem_map.mp hv
  exact WR.of_eq (J1d (h3 c hc)) ⟨rfl, .refl _⟩
 ·rintro v h' ⟨rfl, g, rfl⟩
  refine WR.of_eq (all_map (f := λ _ => true) Jp) ⟨?_, .cons ..⟩
  simp
noncomputable abbrev Hd := Str × Int × Int
noncomputable def tupH (a : Hd) : IV := .tup [.str a.1, .int a.2.1, .int a.2.2]
noncomputable def HdOk (len : Int) (a : Hd) : Prop := IsNm a.1 /\ 0 <= a.2.1 /\ a.2.1 < a.2.2 /\ a.2.2 < len
noncomputable def Tog (a b : Hd) : Prop := a.2.2 <= b.2.1 ∨ b.2.2 <= a.2.1 ∨ (a.1 ≠ b.1 /\ ((b.2.1 <= a.2.1 /\ a.2.2 <= b.2.2) ∨ (a.2.1 <= b.2.1 /\ b.2.2 <= a.2.2)))
theorem Jup {a : Hd} {len : Int} (ha : HdOk len a) : WR (Jiv (k + 3) [tupH a, .int len] h) λ v h' => v = .bl true /\ Ex h h' := by
 obtain ⟨h1, h2, h3, h4⟩ := ha
 rw [Jt5]
 have h5 : a.2.1 + 1 <= a.2.2 := by omega
 simp! [Jh2, Jmf, Jmm, tupH, List.length_cons, List.length_nil, Jkb]
 refine ⟨λ q => absurd q (by decide), λ _ => WR.mono (Jom h1) ?_⟩
 rintro v h' ⟨rfl, x⟩
 simp! [decide_eq_true h2, decide_eq_true h4, decide_eq_true h5]
 exact x
theorem Jqj (a b : Hd) : Jd7 (k + 1) [tupH a, tupH b] h = .ok (.bl (decide (a.2.2 <= b.2.1) || decide (b.2.2 <= a.2.1))) h := by
 refine Jdn ?_
 rw [Jqf]
 simp! [Jdt, tupH]
 cases decide (a.2.2 <= b.2.1) <;> simp
theorem Jua (a b : Hd) : Jf5 (k + 1) [tupH a, tupH b] h = .ok (.bl (decide (b.2.1 <= a.2.1) && decide (a.2.2 <= b.2.2))) h := by
 refine Jdn ?_
 rw [Jty]
 simp! [Jia, tupH]
 cases decide (b.2.1 <= a.2.1) <;> simp
theorem Jn9 {a b : Hd} (t : Tog a b) : Jbt (k + 2) [tupH a, tupH b] h = .ok (.bl true) h := by
 refine Jdn ?_
 rw [Jnq]
 have ix : ∀ a : Hd, WR (opIx (tupH a) (.int 0) h) = λ P => P (.str a.1) h := λ a => by
  funext P
  simp only [tupH, Jju, exists_eq_left, exists_eq_left', IV.bl.injEq, IV.int.injEq, IV.ref.injEq, IV.str.injEq, IO.lst.injEq, IV.tup.injEq, Option.some.injEq, Bool.not_true, Bool.not_false, reduceCtorEq, eq_self, true_implies, false_implies, implies_true, and_true, true_and, and_false, false_and, Option.bind_some, Bool.true_eq_false, Bool.false_eq_true, Jkt, Jfu, Jk0, Jqc, Jk6, Jks, Je1, Jaz, Jgc, Jbl, Jfp, Jju, Jkz, Jfj, Jfk, Jh7, Jle, Joo, Jfi, Jgb, Jfr]
 simp! [Jcd, Jf2, Jf4, Jqj, Jua, ix]
 unfold Tog at t
 simp only [Bool.or_eq_true, Bool.or_eq_false_iff, Bool.and_eq_true, Bool.and_eq_false_iff, decide_eq_true_eq, decide_eq_false_iff_not]
 grind
theorem Jsi {hs : List Hd} {i : Nat} (hi : h[i]? = some (.lst (hs.map tupH))) (hl : hs.length <= 6) (ht : ∀ m n (hm : m < n) (hn : n < hs.length), Tog hs[n] hs[m]) :
  WR (J6 (k + 3) [.ref i] h) λ v h' => v = .bl true /\ Ex h h' := by
 have hb := Jd
 rw [Jj4]
 simp! [Jai, Jb7, J0z, hi]
 refine Ja5 (λ n σ h' => (∃ a b, σ = [some (.ref i), a, b]) /\ Ex h h') (λ n σ h' ⟨_, x⟩ => x.get hi) ?_ ?_ ⟨⟨_, _, rfl⟩, .refl h⟩
 ·rintro n hn _ h' ⟨⟨a, b, rfl⟩, x⟩
  have hn' : n < hs.length := by rw [Jdb, List.length_map] at hn; exact hn
  rw [J10]
  simp! [List.getElem_map, Jxu, J2c, J16, List.length_cons, List.length_nil, Jbp]
  have hi' := x.get hi
  refine WR.mono (J9 (xs := (hs.map tupH).take n) (chk := λ h2 => h2[h'.length]? = some (.lst ((hs.map tupH).take n))) (f := λ _ => .bl true) (h := h' ++ [.lst ((hs.map tupH).take n)]) ?_ ?_ ?_ ?_) ?_
  ·simp! [Jta, hi', Jak, Jtj, Jj]
  ·simp only [List.length_take, List.length_map]; omega
  ·exact λ h2 q => q _ _ Jj
  ·intro v hv h2 q
   obtain ⟨j, hj, rfl⟩ := List.mem_iff_getElem.mp hv
   have hj' : j < n := by simp at hj; omega
   simp! [List.getElem_take, List.getElem_map, Jbj, List.map_cons, List.map_nil, List.getElem?_cons_succ, List.getElem?_cons_zero, Option.join_some]
   exact WR.of_eq (Jn9 (ht j n hj' hn')) ⟨rfl, .refl _⟩
  ·rintro v h3 ⟨rfl, g, rfl⟩
   refine WR.of_eq (all_map (f := λ _ => true) Jp) ?_
   have : (((hs.map tupH).take n).all λ _ => true) = true := by simp
   simp! [this]
   exact ⟨⟨_, _, rfl⟩, x.trans ((Ex.one _ _).trans (.cons ..))⟩
 ·rintro _ h' ⟨⟨a, b, rfl⟩, x⟩
  exact x
structure HsOk (len : Int) (hs : List Hd) : Prop where
 few : hs.length <= 6
 each : ∀ a ∈ hs, HdOk len a
 tog : ∀ m n (hm : m < n) (hn : n < hs.length), Tog hs[n] hs[m]
theorem Jrn {hs : List Hd} {i : Nat} {len : Int} (hi : h[i]? = some (.lst (hs.map tupH))) (ok : HsOk len hs) :
  WR (Ja3 (k + 4) [.ref i, .int len] h) λ v h' => v = .tup (hs.map tupH) /\ Ex h h' := by
 have hb := Jd
 have hl := ok.few
 have h6 : ¬ (6 : Int) < (hs.length : Int) := by omega
 rw [Jrp]
 simp! [Jep, Jic, Jjq, Jjt, J5f, isI, J0o hi, Jov, hi, List.length_map, h6, decide_false]
 refine WR.mono (J9 (xs := hs.map tupH) (chk := λ h2 => h2[i]? = some (.lst (hs.map tupH))) (f := λ _ => .bl true) (h := h) ?_ ?_ ?_ ?_) ?_
 ·simp! [Jak, hi]
 ·simp only [List.length_map]; omega
 ·exact λ h2 q => q _ _ hi
 ·intro v hv h2 q
  obtain ⟨a, ha, rfl⟩ := List.mem_map.mp hv
  simp! [Jfs, List.map_cons, List.map_nil, List.getElem?_cons_succ, List.getElem?_cons_zero, Option.join_some]
  exact Jup (ok.each a ha)
 ·rintro v h1 ⟨rfl, g, rfl⟩
  refine WR.of_eq (all_map (f := λ _ => true) Jp) ?_
  have : ((hs.map tupH).all λ _ => true) = true := by simp
  simp! [this, Jjg, Jja]
  have x1 : Ex h (h ++ IO.lst (List.map (λ x => IV.bl true) (hs.map tupH)) :: g) := .cons ..
  refine WR.mono (Jsi (x1.get hi) hl ok.tog) ?_
  rintro v h2 ⟨rfl, x2⟩
  simp! [true_and]
  have hi2 := x2.get (x1.get hi)
  refine WR.mono (J9 (xs := hs.map tupH) (chk := λ h3 => h3[i]? = some (.lst (hs.map tupH))) (f := λ x => x) (h := h2) ?_ ?_ ?_ ?_) ?_
  ·simp! [Jak, hi2]
  ·simp only [List.length_map]; omega
  ·exact λ h2 q => q _ _ hi2
  ·intro v hv h3 q
   obtain ⟨a, ha, rfl⟩ := List.mem_map.mp hv
   simp! [Jfo, tupH, List.length_cons, List.length_nil]
   exact ⟨by omega, .refl _⟩
  ·rintro v h3 ⟨rfl, g3, rfl⟩
   simp only [Jwc, Jp, exists_eq_left, exists_eq_left', IV.bl.injEq, IV.int.injEq, IV.ref.injEq, IV.str.injEq, IO.lst.injEq, IV.tup.injEq, Option.some.injEq, Bool.not_true, Bool.not_false, reduceCtorEq, eq_self, true_implies, false_implies, implies_true, and_true, true_and, and_false, false_and, Option.bind_some, Bool.true_eq_false, Bool.false_eq_true, Jkt, Jfu, Jk0, Jqc, Jk6, Jks, Je1, Jaz, Jgc, Jbl, Jfp, Jju, Jkz, Jfj, Jfk, Jh7, Jle, Joo, Jfi, Jgb, Jfr, List.map_id']
   exact x1.trans (x2.trans (.cons ..))
theorem Jt0 {due gap : Int} (h1 : 1 <= due) (h2 : due <= gap) : Jc6 (k + 3) [.int due, .int gap] h = .ok (.int due) h := by
 refine Jdn ?_
 rw [Jtq]
 have : ¬ gap < due := by omega
 simp! [Jhy, Jmr, Jl4, J5f, isI, Jkb, decide_eq_true h1, decide_eq_false this]
noncomputable def wfs (name : Str) (gap len due late : Int) (hs : List IV) : List (Str × IV) := [("name", .str name), ("gap", .int gap), ("length", .int len), ("due", .int due), ("late", .int late), ("hold_tuples", .tup hs)]
section
variable (a b c d e f : IV)
theorem put0 : putI "name" a ([] : List (Str × IV)) = ([("name", a)] : List (Str × IV)) := by kernel_rfl
theorem put1 : putI "gap" b ([("name", a)] : List (Str × IV)) = ([("name", a), ("gap", b)] : List (Str × IV)) := by kernel_rfl
theorem put2 : putI "length" c ([("name", a), ("gap", b)] : List (Str × IV)) = ([("name", a), ("gap", b), ("length", c)] : List (Str × IV)) := by kernel_rfl
theorem put3 : putI "due" d ([("name", a), ("gap", b), ("length", c)] : List (Str × IV)) = ([("name", a), ("gap", b), ("length", c), ("due", d)] : List (Str × IV)) := by kernel_rfl
theorem put4 : putI "late" e ([("name", a), ("gap", b), ("length", c), ("due", d)] : List (Str × IV)) = ([("name", a), ("gap", b), ("length", c), ("due", d), ("late", e)] : List (Str × IV)) := by kernel_rfl
theorem put5 : putI "hold_tuples" f ([("name", a), ("gap", b), ("length", c), ("due", d), ("late", e)] : List (Str × IV)) = ([("name", a), ("gap", b), ("length", c), ("due", d), ("late", e), ("hold_tuples", f)] : List (Str × IV)) := by kernel_rfl
variable {name : Str} {gap len due late : Int} {hs : List IV}
theorem fl0 : (wfs name gap len due late hs).lookup ("name" : Str) = some (.str name) := by kernel_rfl
theorem fl1 : (wfs name gap len due late hs).lookup ("gap" : Str) = some (.int gap) := by kernel_rfl
theorem fl2 : (wfs name gap len due late hs).lookup ("length" : Str) = some (.int len) := by kernel_rfl
theorem fl3 : (wfs name gap len due late hs).lookup ("due" : Str) = some (.int due) := by kernel_rfl
theorem fl4 : (wfs name gap len due late hs).lookup ("late" : Str) = some (.int late) := by kernel_rfl
theorem fl5 : (wfs name gap len due late hs).lookup ("hold_tuples" : Str) = some (.tup hs) := by kernel_rfl
theorem flh : (wfs name gap len due late hs).lookup ("held" : Str) = none := by kernel_rfl
end
theorem Jwx {name : Str} {gap len due late : Int} {dv hv : IV} {hs : List IV} {w : Nat} (hw : h[w]? = some (.ins "Work" [])) (hn : IsNm name) (hg : 1 <= gap) (hl : 1 <= len) (ht : 0 <= late)
  (hd : ∀ h1, Jc6 (k + 4) [dv, .int gap] h1 = .ok (.int due) h1) (hh : ∀ h1 : IH, (∀ (j : Nat) (o : IO), j ≠ w -> h[j]? = some o -> h1[j]? = some o) -> WR (Ja3 (k + 4) [hv, .int len] h1) λ v h2 => v = .tup hs /\ Ex h1 h2) :
  WR (Jce (k + 5) [.ref w, .str name, .int gap, .int len, dv, .int late, hv] h) λ v h' => v = .non /\ ∃ g, h' = h.set w (.ins "Work" (wfs name gap len due late hs)) ++ g := by
 rw [Jqx]
 simp! [Jeq]
 refine WR.mono (Jom hn) ?_
 rintro v h1 ⟨rfl, g1, rfl⟩
 have lw := Jbs hw
 have s1 : ∀ {o : IO}, (h ++ g1).set w o = h.set w o ++ g1 := by intro o; rw [List.set_append_left (h := lw)]
 have at1 : ∀ {o : IO}, (h.set w o ++ g1)[w]? = some o := by
  intro o
  rw [List.getElem?_append_left (by rw [List.length_set]; exact lw), List.getElem?_set_self lw]
 have s2 : ∀ {o o' : IO}, (h.set w o ++ g1).set w o' = h.set w o' ++ g1 := by intro o o'; rw [List.set_append_left (h := by rw [List.length_set]; exact lw), List.set_set]
 simp! [Jj1, Jjo, Jj2, Jik, Jis, Jij, Jjl, Jjj, Jkb, decide_eq_true hg, decide_eq_true hl, decide_eq_true ht, Jm8, IO.ins.injEq, grow hw]
 refine ⟨w, _, _, rfl, grow hw, by decide, ?_⟩
 rw [s1, put0]
 refine ⟨w, _, _, rfl, at1, by show (1 : Nat) < 1000; decide, ?_⟩
 rw [s2, put1]
 refine ⟨w, _, _, rfl, at1, by show (2 : Nat) < 1000; decide, ?_⟩
 rw [s2, put2, hd]
 refine ⟨w, _, _, rfl, at1, by show (3 : Nat) < 1000; decide, ?_⟩
 rw [s2, put3]
 refine ⟨w, _, _, rfl, at1, by show (4 : Nat) < 1000; decide, ?_⟩
 rw [s2, put4]
 simp! [Jid, Jm8]
 refine WR.mono (hh _ λ j o hj e => ?_) ?_
 ·refine grow ?_
  rw [List.getElem?_set_ne (Ne.symm hj)]
  exact e
 ·rintro v h2 ⟨rfl, g2, rfl⟩
  refine ⟨w, _, _, rfl, grow at1, by show (5 : Nat) < 1000; decide, g1 ++ g2, ?_⟩
  rw [List.set_append_left (h := Jbs at1), s2, put5, List.append_assoc]
  rfl
theorem J1h {name : Str} {gap len due late : Int} {dv hv : IV} {hs : List IV} (hn : IsNm name) (hg : 1 <= gap) (hl : 1 <= len) (ht : 0 <= late)
  (hd : ∀ h1, Jc6 (k + 4) [dv, .int gap] h1 = .ok (.int due) h1) (hh : ∀ h1 : IH, (∀ (j : Nat) (o : IO), h[j]? = some o -> h1[j]? = some o) -> WR (Ja3 (k + 4) [hv, .int len] h1) λ v h2 => v = .tup hs /\ Ex h1 h2) :
  WR (Jce (k + 5) [.ref h.length, .str name, .int gap, .int len, dv, .int late, hv] (h ++ [.ins "Work" []])) λ v h' => v = .non /\ ∃ g, h' = h ++ .ins "Work" (wfs name gap len due late hs) :: g := by
 refine WR.mono (Jwx Jj hn hg hl ht hd λ h1 q => hh h1 λ j o e => q j o (by have := Jbs e; omega) (grow e)) ?_
 rintro v h' ⟨rfl, g, rfl⟩
 exact ⟨rfl, g, by rw [Joy]; simp⟩
end
end LW
namespace LW
open PySem L2 L3 L4
section
variable {k : Nat} {h : IH}
theorem Jmu {name : Str} {gap len due late : Int} {hs : List IV} {w : Nat} (hw : h[w]? = some (.ins "Work" (wfs name gap len due late hs))) : Jd3 (k + 1) [.ref w] h = .ok (.ref h.length) (h ++ [.lst hs]) := by
 refine Jdn ?_
 rw [Jqz]
 simp! [Jdr, Jv hw, fl5]
end
end LW
namespace LW
open PySem L2 L3 L4
structure WD where
 name : Str
 gap : Int
 len : Int
 due : Int
 late : Int
noncomputable def IsW (h : IH) (v : IV) (d : WD) : Prop := ∃ i hs, v = .ref i /\ h[i]? = some (.ins "Work" (wfs d.name d.gap d.len d.due d.late hs))
theorem IsW.kp {h h' : IH} {v : IV} {d : WD} (k : Kp h h') (w : IsW h v d) : IsW h' v d := by
 obtain ⟨i, hs, e, q⟩ := w
 exact ⟨i, hs, e, k _ _ q⟩
structure AllW (h : IH) (vs : List IV) (ds : List WD) : Prop where
 len : vs.length = ds.length
 at_ : ∀ (i : Nat) v d, vs[i]? = some v -> ds[i]? = some d -> IsW h v d
theorem AllW.kp {h h' : IH} {vs : List IV} {ds : List WD} (k : Kp h h') (w : AllW h vs ds) : AllW h' vs ds := ⟨w.len, λ i v d a b => (w.at_ i v d a b).kp k⟩
theorem AllW.of {h : IH} {vs : List IV} {ds : List WD} (w : AllW h vs ds) {v : IV} (hv : v ∈ vs) : ∃ d ∈ ds, IsW h v d := by
 obtain ⟨i, hi, rfl⟩ := List.mem_iff_getElem.mp hv
 have hi' : i < ds.length := by rw [<- w.len]; exact hi
 exact ⟨ds[i], List.getElem_mem hi', w.at_ i _ _ (List.getElem?_eq_getElem hi) (List.getElem?_eq_getElem hi')⟩
noncomputable def fOf (f : Str) (h : IH) (v : IV) : IV := (Jp2 f v h).getD .non
theorem AllW.mapF {h : IH} {vs : List IV} {ds : List WD} (w : AllW h vs ds) {F : IV -> IV} {g : WD -> IV} (hf : ∀ (i : Nat) (d : WD) hs, h[i]? = some (.ins "Work" (wfs d.name d.gap d.len d.due d.late hs)) -> F (.ref i) = g d) : vs.map F = ds.map g := by
 refine List.ext_getElem? λ i => ?_
 rw [List.getElem?_map, List.getElem?_map]
 by_cases hi : i < vs.length
 ·have hi' : i < ds.length := by rw [<- w.len]; exact hi
  rw [List.getElem?_eq_getElem hi, List.getElem?_eq_getElem hi']
  obtain ⟨j, hs, e, q⟩ := w.at_ i _ _ (List.getElem?_eq_getElem hi) (List.getElem?_eq_getElem hi')
  simp only [Option.map_some, Option.some.injEq]
  rw [e, hf j _ hs q]
 ·have hi' : ¬ i < ds.length := by rw [<- w.len]; exact hi
  rw [List.getElem?_eq_none (by omega), List.getElem?_eq_none (by omega)]
  rfl
section
variable {k : Nat} {h : IH}
theorem Jy7 : Jz8 ["Work"] (.ins "Work") = some true := by kernel_rfl
theorem Jq5 {vs : List IV} {ds : List WD} {i : Nat} (hi : h[i]? = some (.lst vs)) (w : AllW h vs ds) (nd : (ds.map (·.name)).Nodup) (hl : ds.length <= 20) :
  WR (Jex (k + 1) [.ref i] h) λ v h' => v = .tup vs /\ Ex h h' := by
 have hb := Jd
 have wl := w.len
 rw [Jrc]
 simp! [Jeu, Jiz, J0o hi]
 refine WR.mono (J9 (h := h) (xs := vs) (chk := λ h' => h'[i]? = some (.lst vs)) (f := λ _ => .bl true) ?_ (by omega) (λ h2 q => q _ _ hi) ?_) ?_
 ·simp! [Jak, hi]
 ·intro v hv h2 q
  obtain ⟨d, _, j, hs, rfl, e⟩ := w.of hv
  have ty : tyI (.ref j) h2 = some (.ins "Work") := by simp [tyI, q _ _ e]
  simp! [Jfq, ty, Jy7]
  exact .refl _
 ·rintro _ _ ⟨rfl, g, rfl⟩
  have x1 : Ex h (h ++ L3.IO.lst (vs.map λ _ => .bl true) :: g) := .cons _ _ _
  rw [all_map (f := λ _ => true) Jp]
  generalize h ++ L3.IO.lst (vs.map λ _ => .bl true) :: g = h1 at x1
  have at1 : (vs.all λ _ => true) = true := by simp
  simp! [at1, Jjs, Jvu]
  have w1 := w.kp x1.kp
  have nm := w1.mapF (F := fOf "name" h1) (g := λ d => .str d.name) λ j d hs e => by rw [fOf, Jv e, fl0]; rfl
  refine WR.mono (J9 (h := h1) (xs := vs) (chk := λ h' => h'[i]? = some (.lst vs)) (f := fOf "name" h1) ?_ (by omega) (λ h2 q => q _ _ (x1.get hi)) ?_) ?_
  ·simp! [Jak, x1.get hi]
  ·intro v hv h2 q
   obtain ⟨d, _, j, hs, rfl, e⟩ := w1.of hv
   simp! [Jf1, Jv (q _ _ e), fl0, fOf, Jv e, Option.getD_some]
   exact .refl _
  ·rintro _ _ ⟨rfl, g2, rfl⟩
   rw [nm]
   have em : ds.map (λ d => IV.str d.name) = (ds.map (·.name)).map IV.str := by simp
   rw [em]
   have x2 : Ex h1 (h1 ++ L3.IO.lst ((ds.map (·.name)).map IV.str) :: g2) := .cons _ _ _
   refine ⟨_, rfl, _, Jp, ds.map (·.name), Jo6 _, by rw [List.length_map]; unfold scanBound; omega, ?_⟩
   rw [Jrj nd _ (Nat.le_refl _)]
   simp! [Jov, x2.get (x1.get hi), List.length_map, wl, decide_true, Jjh, Jwc]
   exact x1.trans x2
noncomputable def rup (top bottom : Int) : Int := (top + bottom - 1) / bottom
noncomputable def topD (ds : List WD) : Int := if ds.map (·.due) = [] then 0 else Jcf (λ i => (ds.map (·.due)).getD i 0) (ds.map (·.due)).length
noncomputable def Jtc (ds : List WD) : Int := (ds.map λ d => rup (topD ds + d.late) d.gap).sum
noncomputable def rOf (T : Int) (h : IH) (v : IV) : IV := match Jp2 "late" v h, Jp2 "gap" v h with
 | some (.int l), some (.int g) => .int (rup (T + l) g)
 | _, _ => .non
theorem Jwg {a b : Int} (hb : 0 < b) (hl : b.natAbs.log2 < 9000) : Jer (k + 1) [.int a, .int b] h = .ok (.int (rup a b)) h := by
 refine Jdn ?_
 rw [Jru]
 simp! [Jdp, hb, hl, rup]
theorem Jzg {vs : List IV} {ds : List WD} (w : AllW h vs ds) (hl : ds.length <= 20) (hg : ∀ d ∈ ds, 0 < d.gap /\ d.gap.natAbs.log2 < 9000) :
  WR (Jgn (k + 2) [.tup vs] h) λ v h' => v = .int (Jtc ds) /\ Ex h h' := by
 have hb := Jd
 have wl := w.len
 rw [Jsz]
 simp! [Jfe, J0t]
 have dm := w.mapF (F := fOf "due" h) (g := λ d => .int d.due) λ j d hs e => by rw [fOf, Jv e, fl3]; rfl
 refine WR.mono (J9 (h := h) (xs := vs) (chk := λ _ => True) (f := fOf "due" h) ?_ (by omega) (λ _ _ => trivial) ?_) ?_
 ·simp! [true_and]
 ·intro v hv h2 q
  obtain ⟨d, _, j, hs, rfl, e⟩ := w.of hv
  simp! [Jhp, Jv (q _ _ e), fl3, fOf, Jv e, Option.getD_some]
  exact .refl _
 ·rintro _ _ ⟨rfl, g, rfl⟩
  rw [dm]
  have em : ds.map (λ d => IV.int d.due) = (ds.map (·.due)).map IV.int := by simp
  rw [em]
  have x1 : Ex h (h ++ L3.IO.lst ((ds.map (·.due)).map IV.int) :: g) := .cons _ _ _
  refine ⟨_, rfl, _, Jp, _, Jgf _, ?_⟩
  have et : maxD (ds.map (·.due)) (.int 0) = .int (topD ds) := by
   unfold maxD topD
   split <;> rfl
  rw [et]
  generalize h ++ L3.IO.lst ((ds.map (·.due)).map IV.int) :: g = h1 at x1
  have w1 := w.kp x1.kp
  simp! [Jkw]
  have rm := w1.mapF (F := rOf (topD ds) h1) (g := λ d => .int (rup (topD ds + d.late) d.gap)) λ j d hs e => by rw [rOf, Jv e, Jv e, fl4, fl1]
  refine WR.mono (J9 (h := h1) (xs := vs) (chk := λ _ => True) (f := rOf (topD ds) h1) ?_ (by omega) (λ _ _ => trivial) ?_) ?_
  ·simp! [true_and]
  ·intro v hv h2 q
   obtain ⟨d, hd, j, hs, rfl, e⟩ := w1.of hv
   have e2 := q _ _ e
   simp only [List.map_cons, List.map_nil, List.getElem?_cons_succ, List.getElem?_cons_zero, Option.join_some]
   simp! [Jg0, Jv e2, fl4, fl1, Jwg (hg d hd).1 (hg d hd).2]
   exact ⟨by rw [rOf, Jv e, Jv e, fl4, fl1], .refl _⟩
  ·rintro _ _ ⟨rfl, g2, rfl⟩
   rw [rm]
   have em2 : ds.map (λ d => IV.int (rup (topD ds + d.late) d.gap)) = (ds.map λ d => rup (topD ds + d.late) d.gap).map IV.int := by simp
   rw [em2]
   simp! [J2g, Jp, Jgf]
   exact ⟨rfl, x1.trans (.cons _ _ _)⟩
noncomputable abbrev dfs (vs : List IV) : List (Str × IV) := [("works", .tup vs)]
theorem dp0 {a : IV} : putI "works" a ([] : List (Str × IV)) = ([("works", a)] : List (Str × IV)) := by kernel_rfl
theorem dl0 {a : IV} : (([("works", a)] : List (Str × IV))).lookup ("works" : Str) = some a := by kernel_rfl
theorem dlw {a : IV} : (([("works", a)] : List (Str × IV))).lookup ("work" : Str) = none := by kernel_rfl
theorem Jw7 {vs : List IV} {ds : List WD} {i : Nat} (hi : h[i]? = some (.lst vs)) (w : AllW h vs ds) (nd : (ds.map (·.name)).Nodup) (hl : ds.length <= 12) (hg : ∀ d ∈ ds, 0 < d.gap /\ d.gap.natAbs.log2 < 9000) (hc : Jtc ds <= 80) :
  WR (Jbz (k + 3) [.ref h.length, .ref i] (h ++ [.ins "Duty" []])) λ v h' => v = .non /\ ∃ g, h' = h ++ .ins "Duty" (dfs vs) :: g := by
 have wl := w.len
 rw [Jq4]
 simp! [Jdk, Jm8]
 refine WR.mono (Jq5 (grow hi) (w.kp (Ex.one h _).kp) nd (by omega)) ?_
 rintro _ _ ⟨rfl, g1, rfl⟩
 refine ⟨_, _, _, rfl, grow Jj, by decide, ?_⟩
 rw [dp0, List.append_assoc, List.cons_append, List.nil_append, Jh8]
 simp! [Ji8, Jv (Jp (h := h)), dl0, wl]
 refine ⟨λ q => ?_, λ _ => ?_⟩
 ·rw [decide_eq_true_eq] at q
  omega
 simp! [Ji2, Jv (Jp (h := h)), dl0]
 refine WR.mono (Jzg (w.kp (Ex.cons h _ _).kp) (by omega) hg) ?_
 rintro _ _ ⟨rfl, g2, rfl⟩
 simp! [true_and]
 refine ⟨λ q => ?_, λ _ => ⟨g1 ++ g2, by simp⟩⟩
 rw [decide_eq_true_eq] at q
 omega
theorem Jf3 {vs : List IV} {D : Nat} {n : Int} {x : IV} (hD : h[D]? = some (.ins "Duty" (dfs vs))) (hx : atI vs n = some x) : Jd2 (k + 1) [.ref D, .int n] h = .ok x h := by
 refine Jdn ?_
 rw [Jq7]
 simp! [Jdv, Jv hD, dl0, hx]
end
end LW
namespace LW
open PySem L2 L3 L4
theorem J49 {a b m : Int} (hb : 0 < b) (h : a <= m * b) : rup a b <= m := by
 unfold rup
 have : (a + b - 1) / b < m + 1 := by
  rw [Int.ediv_lt_iff_lt_mul hb, Int.add_mul]
  omega
 omega
theorem J0k (m : Int) : ∀ l : List Int, (∀ x ∈ l, x <= m) -> l.sum <= l.length * m
 | [], _ => by simp
 | x :: l, q => by
  have := J0k m l λ y hy => q y (List.mem_cons_of_mem _ hy)
  have := q x (List.mem_cons_self ..)
  rw [List.sum_cons, List.length_cons, Int.natCast_add, Int.add_mul]
  simp
  omega
theorem Jor {a b K : Nat} (h : a <= b) (hb : b.log2 < K) : a.log2 < K := by
 by_cases ha : a = 0
 ·subst ha
  exact Nat.lt_of_le_of_lt (Nat.zero_le _) hb
 ·have hb0 : b ≠ 0 := by omega
  rw [Nat.log2_lt ha]
  exact Nat.lt_of_le_of_lt h ((Nat.log2_lt hb0).mp hb)
noncomputable abbrev RH := WD × List Hd
noncomputable def rd : RH := ⟨⟨⟨#[]⟩, 0, 0, 0, 0⟩, []⟩
noncomputable abbrev wo (r : RH) : IO := .ins "Work" (wfs r.1.name r.1.gap r.1.len r.1.due r.1.late (r.2.map tupH))
structure AllH (h : IH) (vs : List IV) (rs : List RH) : Prop where
 len : vs.length = rs.length
 at_ : ∀ (i : Nat) v r, vs[i]? = some v -> rs[i]? = some r -> ∃ j, v = .ref j /\ h[j]? = some (wo r)
theorem AllH.kp {h h' : IH} {vs : List IV} {rs : List RH} (k : Kp h h') (w : AllH h vs rs) : AllH h' vs rs := ⟨w.len, λ i v r a b => let ⟨j, e, g⟩ := w.at_ i v r a b; ⟨j, e, k _ _ g⟩⟩
theorem AllH.w {h : IH} {vs : List IV} {rs : List RH} (w : AllH h vs rs) : AllW h vs (rs.map (·.1)) := by
 refine ⟨by rw [List.length_map]; exact w.len, λ i v d a b => ?_⟩
 rw [List.getElem?_map] at b
 cases er : rs[i]? with
 | none => rw [er] at b; cases b
 | some r =>
  rw [er] at b
  cases b
  obtain ⟨j, e, g⟩ := w.at_ i v r a er
  exact ⟨j, _, e, g⟩
theorem AllH.get {h : IH} {vs : List IV} {rs : List RH} (w : AllH h vs rs) {n : Nat} {r : RH} (e : rs[n]? = some r) : ∃ j, vs[n]? = some (.ref j) /\ h[j]? = some (wo r) := by
 have hn : n < vs.length := by rw [w.len]; exact (List.getElem?_eq_some_iff.mp e).1
 obtain ⟨j, e1, g⟩ := w.at_ n _ r (List.getElem?_eq_getElem hn) e
 exact ⟨j, by rw [List.getElem?_eq_getElem hn, e1], g⟩
structure F8 (unit : Int) (r : RH) : Prop where
 nm : IsNm r.1.name
 g1 : unit <= r.1.gap
 g2 : r.1.gap < 9 * unit
 l1 : 1 <= r.1.len
 d1 : 1 <= r.1.due
 d2 : r.1.due <= r.1.gap
 t1 : 0 <= r.1.late
 t2 : r.1.late < 2 * r.1.gap
 ok : HsOk r.1.len r.2
structure Gd (unit : Int) (rs : List RH) : Prop where
 u1 : 1 <= unit
 u2 : unit <= 10 ^ 40
 few : rs.length <= 7
 f : ∀ r ∈ rs, F8 unit r
 nd : (rs.map λ r => r.1.name).Nodup
theorem J4c {unit : Int} {rs : List RH} (G : Gd unit rs) : Jtc (rs.map (·.1)) <= 80 := by
 have hu := G.u1
 have hf := G.f
 have hl := G.few
 have ht : topD (rs.map (·.1)) <= 9 * unit := by
  unfold topD
  split
  ·omega
  ·rename_i hne
   refine J0b _ _ _ (by rw [List.length_map, List.length_map]; cases rs with | nil => exact absurd rfl hne | cons _ _ => simp) λ j hj => ?_
   rw [List.length_map, List.length_map] at hj
   have e : ((rs.map (·.1)).map (·.due)).getD j 0 = (rs[j]).1.due := by
    rw [List.getD_eq_getElem?_getD, List.getElem?_map, List.getElem?_map, List.getElem?_eq_getElem hj]; rfl
   have f := hf _ (List.getElem_mem hj)
   have f1 := f.d2
   have f2 := f.g2
   show ((rs.map (·.1)).map (·.due)).getD j 0 <= _
   rw [e]
   omega
 have := J0k 11 ((rs.map (·.1)).map λ d => rup (topD (rs.map (·.1)) + d.late) d.gap) λ x hx => by
  obtain ⟨d, hd, rfl⟩ := List.mem_map.mp hx
  obtain ⟨r, hr, rfl⟩ := List.mem_map.mp hd
  have f := hf r hr
  have f1 := f.g1
  have f2 := f.t2
  exact J49 (by omega) (by omega)
 rw [List.length_map, List.length_map] at this
 unfold Jtc
 omega
theorem Gd.gl {unit : Int} {rs : List RH} (G : Gd unit rs) : ∀ d ∈ rs.map (·.1), 0 < d.gap /\ d.gap.natAbs.log2 < 9000 := λ d hd => by
 obtain ⟨r, hr, rfl⟩ := List.mem_map.mp hd
 have f := G.f r hr
 have f1 := f.g1
 have f2 := f.g2
 have u1 := G.u1
 have u2 := G.u2
 refine ⟨by omega, Jor (b := 9 * 10 ^ 40) ?_ (by decide +kernel)⟩
 have e : ((10 ^ 40 : Nat) : Int) = 10 ^ 40 := by decide +kernel
 clear G f
 generalize (10 ^ 40 : Int) = y at *
 generalize (10 ^ 40 : Nat) = z at *
 omega
noncomputable def IsDu (h : IH) (D : Nat) (rs : List RH) : Prop := ∃ vs, h[D]? = some (.ins "Duty" (dfs vs)) /\ AllH h vs rs
theorem IsDu.kp {h h' : IH} {D : Nat} {rs : List RH} (k : Kp h h') (w : IsDu h D rs) : IsDu h' D rs := let ⟨vs, a, b⟩ := w; ⟨vs, k _ _ a, b.kp k⟩
section
variable {k : Nat} {h : IH}
theorem duty8 {vs : List IV} {rs : List RH} {unit : Int} {i : Nat} (hi : h[i]? = some (.lst vs)) (w : AllH h vs rs) (G : Gd unit rs) :
  WR (Jbz (k + 3) [.ref h.length, .ref i] (h ++ [.ins "Duty" []])) λ v h' => v = .non /\ Ex h h' /\ IsDu h' h.length rs := by
 have hl := G.few
 refine WR.mono (Jw7 hi w.w (by have := G.nd; rwa [List.map_map]) (by rw [List.length_map]; omega) G.gl (J4c G)) ?_
 rintro _ _ ⟨rfl, g, rfl⟩
 exact ⟨rfl, .cons _ _ _, vs, Jp, w.kp (Ex.cons _ _ _).kp⟩
end
end LW
namespace LW
open PySem L2 L3 L4
section
variable {k : Nat} {h : IH}
theorem Jq0 (c : Int) (m : Nat) (hm : m <= 40) : WR (Jbg (k + 1) [.int c, .int m] h) λ v h' => ∃ (i : Nat) (xs : List Int), v = .ref i /\ h.length <= i /\ h'[i]? = some (.lst (xs.map .int)) /\ xs.length = m /\ (∀ x ∈ xs, (0 : Int) <= x /\ x < 10 ^ 45) /\ Ex h h' := by
 have hb := Jd
 have t45 : Int.toNat 45 = 45 := rfl
 have t30 : Int.toNat 30 = 30 := rfl
 have t18 : Int.toNat 18 = 18 := rfl
 have p45 : (0 : Int) < 10 ^ 45 := by decide +kernel
 have l45 : ((10 : Int) ^ 45).natAbs.log2 < 9000 := by decide +kernel
 have q18 : (10 : Int) ^ 18 + 9 = 1000000000000000009 := by decide +kernel
 have le : (1000000000000000009 : Int) <= 10 ^ 45 := by decide +kernel
 have w10 : (0 : Int) <= 45 /\ (45 : Int) <= 1000000 /\ Int.natAbs 10 < 2 ^ 64 := by decide
 have w18 : (0 : Int) <= 18 /\ (18 : Int) <= 1000000 /\ Int.natAbs 10 < 2 ^ 64 := by decide
 rw [Jpj]
 simp! +ground [Jcy, Jgw, List.length_nil, Nat.zero_le, t30, t18, decide_eq_true_eq, decide_eq_false_iff_not]
 refine ⟨by decide, λ _ => ⟨by decide, ⟨by omega, by omega⟩, ?_⟩, λ _ => ?_⟩
 ·refine Ja5 (λ n σ h' => ∃ xs rest a b, h' = h ++ [.lst (xs.map IV.int)] /\ σ = [some (.int c), some (.int (m : Int)), some (.ref h.length), some (.int rest), a, b] /\ xs.length = n /\ ∀ x ∈ xs, (0 : Int) <= x /\ x < 10 ^ 45)
   (λ _ _ _ _ => trivial) ?_ ?_ ⟨[], _, _, _, rfl, rfl, rfl, by simp⟩
  ·rintro n hn _ _ ⟨xs, rest, a, b, rfl, rfl, lx, hx⟩
   rw [Jgx]
   rw [Jac] at hn
   simp! +ground [Jf6]
   rw [Jo8 (i := h.length) (h1 := h ++ [L3.IO.lst (xs.map IV.int)]) rfl Jj Jjr]
   simp! +ground [Jjd, Jj, t45, w10, p45, l45, Joy, List.length_map]
   have e1 := Int.emod_nonneg rest (b := 10 ^ 45) (by decide +kernel)
   have e2 := Int.emod_lt_of_pos rest p45
   refine ⟨by omega, xs ++ [rest % 10 ^ 45], _, _, _, by simp, rfl, by simp [lx], ?_⟩
   intro x hxx
   rw [List.mem_append, List.mem_singleton] at hxx
   rcases hxx with hxx | rfl
   ·exact hx x hxx
   ·exact ⟨e1, e2⟩
  ·rintro _ _ ⟨xs, rest, a, b, rfl, rfl, lx, hx⟩
   rw [Jac] at lx
   simp! +ground [true_and]
   exact ⟨_, xs, rfl, Nat.le_refl _, Jj, by omega, hx, .one _ _⟩
 ·simp! +ground [Jg2, Jhw, t18, w18, q18, show (0 : Int) < 1000000000000000009 by decide]
  refine ⟨⟨by omega, by omega⟩, ?_⟩
  have s0 := Int.emod_nonneg c (b := 1000000000000000009) (by decide)
  have s1 := Int.emod_lt_of_pos c (b := 1000000000000000009) (by decide)
  refine Ja5 (λ n σ h' => ∃ xs num a b, h' = h ++ [.lst (xs.map IV.int)] /\ σ = [some (.int c), some (.int (m : Int)), some (.ref h.length), a, b, some (.int num)] /\ (0 <= num /\ num < 2000000000000000000) /\ xs.length = n /\ ∀ x ∈ xs, (0 : Int) <= x /\ x < 1000000000000000009)
   (λ _ _ _ _ => trivial) ?_ ?_ ⟨[], _, _, _, rfl, rfl, by omega, rfl, by simp⟩
  ·rintro n hn _ _ ⟨xs, num, a, b, rfl, rfl, hnum, lx, hx⟩
   rw [Jgx]
   rw [Jac] at hn
   have m1 : Jb1 num num := .inl (by omega)
   have m2 : Jb1 48271 num := .inl (by decide)
   simp! +ground [Jfh, t18, w18, q18, m1, m2, show (0 : Int) < 1000000000000000009 by decide]
   have e1 := Int.emod_nonneg (num * num + 48271 * num + (0 + (n : Int))) (b := 1000000000000000009) (by decide)
   have e2 := Int.emod_lt_of_pos (num * num + 48271 * num + (0 + (n : Int))) (b := 1000000000000000009) (by decide)
   generalize (num * num + 48271 * num + (0 + (n : Int))) % 1000000000000000009 = y at e1 e2
   rw [Jo8 (i := h.length) (h1 := h ++ [L3.IO.lst (xs.map IV.int)]) rfl Jj Jjr]
   simp! +ground [Jjd, Jj, Joy, List.length_map]
   refine ⟨by omega, xs ++ [y], y, _, _, by simp, rfl, by omega, by simp [lx], ?_⟩
   intro x hxx
   rw [List.mem_append, List.mem_singleton] at hxx
   rcases hxx with hxx | rfl
   ·exact hx x hxx
   ·exact ⟨e1, e2⟩
  ·rintro _ _ ⟨xs, num, a, b, rfl, rfl, hnum, lx, hx⟩
   rw [Jac] at lx
   simp! +ground [Jhi, Jta, Jj]
   rw [show (some (2 : Int)) = some ((2 : Nat) : Int) from rfl, Js4, <- List.map_drop]
   refine ⟨_, xs.drop 2, rfl, by simp, Jj, by simp; omega, λ x hxx => ?_, (Ex.one _ _).trans (.one _ _)⟩
   have := hx x (List.mem_of_mem_drop hxx)
   generalize (10 : Int) ^ 45 = z at *
   omega
end
end LW
namespace LW
open PySem L2 L3 L4
section
variable {k : Nat} {h : IH}
mutual
theorem Js9 : ∀ d : PyData, d.canLay0 = true -> PyData.eqv d d = true
 | .none, _ => by simp [PyData.eqv]
 | .bool _, _ => by simp [PyData.eqv]
 | .int _, _ => by simp [PyData.eqv]
 | .str _, _ => by simp [PyData.eqv]
 | .list xs, q => by
  rw [PyData.eqv]
  exact Jmy xs (by rw [PyData.canLay0] at q; exact q)
 | .tuple xs, q => by
  rw [PyData.eqv]
  exact Jmy xs (by rw [PyData.canLay0] at q; exact q)
 | .dict _, q => by rw [PyData.canLay0] at q; cases q
theorem Jmy : ∀ ds : List PyData, PyData.canLayAll0 ds = true -> PyData.eqvAll ds ds = true
 | [], _ => by rw [PyData.eqvAll]
 | d :: ds, q => by
  rw [PyData.canLayAll0, Bool.and_eq_true] at q
  rw [PyData.eqvAll, Js9 d q.1, Jmy ds q.2]
  rfl
end
theorem Jfl {i n : Nat} {xs : List IV} (e : h[i]? = some (.lst xs)) : toD h (n + 1) (.ref i) = (xs.mapM (toD h n)).map PyData.list := by
 show (match h[i]? with | some (.lst xs) => (xs.mapM (toD h n)).map PyData.list | _ => none) = _
 rw [e]
theorem Jpx {f : IV -> Option PyData} {g : IV -> PyData} : ∀ {xs : List IV}, (∀ x ∈ xs, f x = some (g x)) -> xs.mapM f = some (xs.map g)
 | [], _ => rfl
 | x :: xs, q => by
  rw [List.mapM_cons, q x (List.mem_cons_self ..), Jpx λ y hy => q y (List.mem_cons_of_mem _ hy)]
  rfl
theorem Jw3 {g : IV -> PyData} : ∀ {xs : List IV}, (∀ x ∈ xs, (g x).canLay0 = true) -> PyData.canLayAll0 (xs.map g) = true
 | [], _ => by rw [List.map_nil, PyData.canLayAll0]
 | x :: xs, q => by
  rw [List.map_cons, PyData.canLayAll0, q x (List.mem_cons_self ..), Jw3 λ y hy => q y (List.mem_cons_of_mem _ hy)]
  rfl
end
end LW
namespace LW
open PySem L2 L3 L4
section
variable {k : Nat} {h : IH}
theorem Jr8 : (Str.ofString "abcdefghijklmnopqrstuvwxyz").cps.toList = (List.range 26).map (97 + ·) := by decide +kernel
theorem Jsu : (Str.ofString "abcdefghijklmnopqrstuvwxyz").length = 26 := by decide +kernel
theorem Jq2 {n : Int} (h0 : 0 <= n) (h1 : n < 26) {Q : IV -> IH -> Prop} : WR (opIx (.str "abcdefghijklmnopqrstuvwxyz") (.int n) h) Q = Q (.str ⟨#[97 + n.toNat]⟩) h := by
 have hb := Jd
 have e : atI (Str.ofString "abcdefghijklmnopqrstuvwxyz").cps.toList n = some (97 + n.toNat) := by
  rw [Jr8]
  refine Jw1 h0 ?_
  rw [List.getElem?_map, List.getElem?_range (by omega)]
  rfl
 simp only [opIx]
 rw [if_pos (by rw [Jsu]; omega), e]
 rfl
theorem J2p (l m : List Nat) : (⟨l.toArray⟩ : Str) ++ (⟨m.toArray⟩ : Str) = ⟨(l ++ m).toArray⟩ := by
 show Str.append _ _ = _
 unfold Str.append
 simp
theorem Jpo (l : List Nat) : (⟨l.toArray⟩ : Str).length = l.length := by simp [Str.length]
theorem Jwn : (Str.ofString "") = (⟨([] : List Nat).toArray⟩ : Str) := by decide +kernel
theorem J33 {h h0 : IH} {it : I1} {e : E1} {js : List Nat} {σ : ISt} {xs : List IV} {chk : IH -> Prop} {f : IV -> IV} (hit : WR (it σ h0) λ J h1 => J.xs = xs /\ J.chk = chk /\ h1 = h) (hl : xs.length < sizeLine)
  (hc : ∀ h2 : IH, (∀ (j : Nat) (ob : IO), h[j]? = some ob -> h2[j]? = some ob) -> chk h2)
  (he : ∀ x ∈ xs, ∀ h2 : IH, (∀ (j : Nat) (ob : IO), h[j]? = some ob -> h2[j]? = some ob) -> WR (e (some x :: js.map λ j => (σ[j]?).join) h2) λ v h3 => v = f x /\ Ex h2 h3) :
  ∃ g, Jy it 1 js (gNm 0) Ja2 e σ h0 = .ok (.ref h.length) (h ++ .lst (xs.map f) :: g) := by
 obtain ⟨v, h3, e, rfl, g, rfl⟩ := (J9 hit hl hc he).eq
 exact ⟨g, e⟩
noncomputable def wSz (c : Int) : Int := 1 + c % 8
noncomputable def wAt (c : Int) : Int := c / 8 % wSz c
noncomputable def wB (c : Int) : List Nat := (List.range (wSz c).toNat).map λ j : Nat => 97 + (c / (11 + (j : Int) * (j : Int)) % 26).toNat
noncomputable def wL (c : Int) (q : Nat) : List Nat := ((wB c).take (wAt c).toNat ++ [97 + ((c / 64 + (q : Int)) % 26).toNat]) ++ (wB c).drop ((wAt c).toNat + 1)
noncomputable def wd (c : Int) (q : Nat) : Str := ⟨(wL c q).toArray⟩
theorem w_at (c : Int) : 0 < wSz c /\ wSz c <= 8 /\ 0 <= wAt c /\ wAt c < wSz c := by
 have hs : 0 < wSz c /\ wSz c <= 8 := by unfold wSz; omega
 exact ⟨hs.1, hs.2, Int.emod_nonneg _ (by omega), Int.emod_lt_of_pos _ hs.1⟩
theorem Jzw (c : Int) : (wB c).length = (wSz c).toNat := by simp [wB]
theorem Jz9 (c : Int) (q : Nat) : (wL c q).length = (wSz c).toNat := by
 have := w_at c
 simp [wL, Jzw]
 omega
theorem Jwd (c : Int) (q : Nat) : IsNm (wd c q) := by
 have hs := w_at c
 refine ⟨?_, ?_, ?_⟩
 ·rw [wd, Jpo, Jz9]; omega
 ·rw [wd, Jpo, Jz9]; omega
 ·intro x hx
  have hx : x ∈ wL c q := by simpa [wd] using hx
  have hB : ∀ x ∈ wB c, 97 <= x /\ x <= 122 := λ x hx => by
   obtain ⟨j, _, rfl⟩ := List.mem_map.mp hx
   have h1 := Int.emod_nonneg (c / (11 + (j : Int) * (j : Int))) (b := 26) (by decide)
   have h2 := Int.emod_lt_of_pos (c / (11 + (j : Int) * (j : Int))) (b := 26) (by decide)
   omega
  have h1 := Int.emod_nonneg (c / 64 + (q : Int)) (b := 26) (by decide)
  have h2 := Int.emod_lt_of_pos (c / 64 + (q : Int)) (b := 26) (by decide)
  simp only [wL, List.mem_append, List.mem_singleton] at hx
  rcases hx with (hx | rfl) | hx
  ·exact hB x (List.mem_of_mem_take hx)
  ·omega
  ·exact hB x (List.mem_of_mem_drop hx)
theorem J0c {c : Int} {p q : Nat} (hp : p < 26) (hq : q < 26) (e : wd c p = wd c q) : p = q := by
 have e1 : wL c p = wL c q := by
  have : (wL c p).toArray = (wL c q).toArray := congrArg Str.cps e
  simpa using this
 have h1 := Int.emod_nonneg (c / 64 + (p : Int)) (b := 26) (by decide)
 have h2 := Int.emod_nonneg (c / 64 + (q : Int)) (b := 26) (by decide)
 have e2 : (97 + ((c / 64 + (p : Int)) % 26).toNat) = 97 + ((c / 64 + (q : Int)) % 26).toNat := by
  unfold wL at e1
  have := List.append_cancel_right e1
  have := List.append_cancel_left this
  simpa using this
 omega
noncomputable def lOf (c : Int) (v : IV) : IV := match v with
 | .int j => .str ⟨#[97 + (c / (11 + j * j) % 26).toNat]⟩
 | _ => .non
theorem Jt9 (l : List Nat) : Je3 (l.map λ x => IV.str ⟨#[x]⟩) = some (PyProof.Rows.signs ⟨l.toArray⟩) := by
 have := Jo6 (PyProof.Rows.signs ⟨l.toArray⟩)
 rw [<- this]
 simp [PyProof.Rows.signs]
 rfl
theorem J1v {l : List Nat} (hl : l.length <= 8) : JoinOk (Str.ofString "") (PyProof.Rows.signs ⟨l.toArray⟩) = true := by
 have hb := Jd
 have e0 : (Str.ofString "").length = 0 := by decide +kernel
 have : ∀ (m : List Nat) (a : Nat), (m.map λ x => (⟨#[x]⟩ : Str)).foldl (λ n (x : Str) => n + x.length + (Str.ofString "").length) a = a + m.length := by
  intro m
  induction m with
  | nil => intro a; rfl
  | cons x m ih =>
   intro a
   rw [List.map_cons, List.foldl_cons, ih, e0]
   simp [Str.length]
   omega
 have e : (PyProof.Rows.signs ⟨l.toArray⟩).foldl (λ n (x : Str) => n + x.length + (Str.ofString "").length) 0 = 0 + l.length := this l 0
 unfold JoinOk Builtin.Str.tooLong
 rw [List.foldl_toArray]
 simp only [Bool.not_eq_true', decide_eq_false_iff_not]
 omega
theorem Jwq (c : Int) (q : Nat) : WR (Jdd (k + 1) [.int c, .int q] h) λ v h' => v = .str (wd c q) /\ Ex h h' := by
 have hb := Jd
 have hs := w_at c
 have l8 : (Int.natAbs 8).log2 < 9000 := by decide
 have l64 : (Int.natAbs 64).log2 < 9000 := by decide
 rw [Jsa]
 simp! [Jfd, Jko, Jk3, show (0 : Int) < 8 by decide]
 rw [J12 (x := Str.ofString "") (h1 := h) rfl J15]
 dsimp! [Jez]
 have sz : wSz c = 1 + c % 8 := rfl
 rw [<- sz]
 have X := @J33 h h (iRg Jb4 (Ja (eVar 3) aNil)) (Jbf k) [0, 2] [some (.int c), some (.int q), some (.str "abcdefghijklmnopqrstuvwxyz"), some (.int (wSz c)), none, none] (rngI 0 (wSz c)) (λ _ => True) (lOf c)
  (by
   simp! [true_and]
   omega) (by rw [Jac]; omega) (λ _ _ => trivial) (by
   intro x hx h2 k2
   obtain ⟨n, hn, rfl⟩ := List.mem_iff_getElem.mp hx
   rw [Jgx]
   rw [Jac] at hn
   have hn8 : n < 8 := by omega
   have mf : Jb1 (0 + (n : Int)) (0 + (n : Int)) := .inl (by omega)
   have sq : (0 + (n : Int)) * (0 + (n : Int)) <= 49 /\ 0 <= (0 + (n : Int)) * (0 + (n : Int)) := by
    obtain rfl | rfl | rfl | rfl | rfl | rfl | rfl | rfl : n = 0 ∨ n = 1 ∨ n = 2 ∨ n = 3 ∨ n = 4 ∨ n = 5 ∨ n = 6 ∨ n = 7 := by omega
    all_goals decide
   have lsz : (Int.natAbs (11 + (0 + (n : Int)) * (0 + (n : Int)))).log2 < 9000 := Jor (b := 60) (by omega) (by decide)
   have p3 := Int.emod_nonneg (c / (11 + (0 + (n : Int)) * (0 + (n : Int)))) (b := 26) (by decide)
   have p4 := Int.emod_lt_of_pos (c / (11 + (0 + (n : Int)) * (0 + (n : Int)))) (b := 26) (by decide)
   simp only [List.map_cons, List.map_nil, List.getElem?_cons_succ, List.getElem?_cons_zero, Option.join_some]
   simp! [Jbf, mf, lsz, Jq2 p3 p4, show (0 : Int) < 26 by decide, show (0 : Int) < 11 + (0 + (n : Int)) * (0 + (n : Int)) by omega]
   exact ⟨rfl, .refl _⟩)
 generalize Jy (iRg Jb4 (Ja (eVar 3) aNil)) 1 [0, 2] (gNm 0) Ja2 (Jbf k) [some (.int c), some (.int q), some (.str "abcdefghijklmnopqrstuvwxyz"), some (.int (wSz c)), none, none] h = rc at X ⊢
 obtain ⟨g, ev⟩ := X
 have em : (rngI 0 (wSz c)).map (lOf c) = (wB c).map λ x => IV.str ⟨#[x]⟩ := by
  rw [wB, List.map_map]
  refine List.ext_getElem (by rw [List.length_map, List.length_map, Jac, List.length_range]; omega) λ i h1 h2 => ?_
  rw [List.getElem_map, Jgx, List.getElem_map, List.getElem_range]
  simp [lOf]
 rw [em] at ev
 have x1 : Ex h (h ++ L3.IO.lst ((wB c).map λ x => IV.str ⟨#[x]⟩) :: g) := .cons _ _ _
 have g1 : (h ++ L3.IO.lst ((wB c).map λ x => IV.str ⟨#[x]⟩) :: g)[h.length]? = some (.lst ((wB c).map λ x => IV.str ⟨#[x]⟩)) := Jp
 generalize h ++ L3.IO.lst ((wB c).map λ x => IV.str ⟨#[x]⟩) :: g = h1 at ev x1 g1
 have bl := Jzw c
 have jn : Txt.join (Str.ofString "") (PyProof.Rows.signs ⟨(wB c).toArray⟩) = ⟨(wB c).toArray⟩ := by rw [Jwn]; exact (StrLaws.glued_eq_join _ _).trans (PyProof.Rows.join_nil_signs _)
 simp! [ev, J1w, g1, Jt9, J1v (show (wB c).length <= 8 by omega), jn, Jku, Jkr, l8, l64, show (0 : Int) < 8 by decide, show (0 : Int) < 64 by decide, show (0 : Int) < 26 by decide, hs.1, Jv4]
 have ea : c / 8 % wSz c = wAt c := rfl
 rw [ea]
 have p1 := Int.emod_nonneg (c / 64 + (q : Int)) (b := 26) (by decide)
 have p2 := Int.emod_lt_of_pos (c / 64 + (q : Int)) (b := 26) (by decide)
 have sl : (⟨(wB c).toArray⟩ : Str).length = (wB c).length := Jpo _
 have s1 : Txt.slice ⟨(wB c).toArray⟩ none (some (wAt c)) = ⟨((wB c).take (wAt c).toNat).toArray⟩ := by
  have := beq_iff_eq.mp (PyProof.Rows.slice_closes_toL (x := ⟨(wB c).toArray⟩) (j := wAt c) hs.2.2.1 (by rw [sl, bl]; omega))
  rw [this]
  simp
 have s2 : Txt.slice ⟨(wB c).toArray⟩ (some (wAt c + 1)) none = ⟨((wB c).drop ((wAt c).toNat + 1)).toArray⟩ := by
  have := beq_iff_eq.mp (PyProof.Rows.slice_closes_fromL (x := ⟨(wB c).toArray⟩) (i := wAt c + 1) (by omega) (by rw [sl, bl]; omega) rfl)
  rw [this]
  have e1 : (wAt c + 1).toNat = (wAt c).toNat + 1 := by omega
  rw [e1, List.take_of_length_le (by rw [List.length_drop]; show _ <= ((⟨(wB c).toArray⟩ : Str).length - (wAt c + 1)).toNat; rw [sl]; simp; omega)]
 rw [s1, s2, Jq2 p1 p2]
 have one : (⟨#[97 + ((c / 64 + (q : Int)) % 26).toNat]⟩ : Str) = ⟨[97 + ((c / 64 + (q : Int)) % 26).toNat].toArray⟩ := rfl
 simp! [one, J2p, Jpo, Jv4, s2, sl, List.length_take, List.length_append, List.length_cons, List.length_nil, List.length_drop]
 refine ⟨by omega, by omega, by omega, by omega, ?_⟩
 exact ⟨rfl, x1⟩
end
end LW
namespace LW
open PySem L2 L3 L4
theorem at_x {xs : List Int} {n : Nat} (hn : n < xs.length) : ∃ x, atI (xs.map IV.int) (n : Int) = some (.int x) :=
 ⟨xs[n], Jax (by rw [List.getElem?_map, List.getElem?_eq_getElem hn]; rfl)⟩
theorem Jon {len : Int} {cand : List Hd} (hc : cand.length <= 2) (each : ∀ a ∈ cand, IsNm a.1 /\ 0 <= a.2.1 /\ a.2.2 < len) (tog : ∀ a b, cand = [a, b] -> Tog b a) : HsOk len (cand.filter λ a => decide (a.2.1 < a.2.2)) := by
 refine ⟨Nat.le_trans (List.length_filter_le _ _) (by omega), λ a ha => ?_, λ m n hm hn => ?_⟩
 ·obtain ⟨h1, h2⟩ := List.mem_filter.mp ha
  obtain ⟨e1, e2, e3⟩ := each a h1
  exact ⟨e1, e2, by simpa using h2, e3⟩
 ·have ln := List.length_filter_le (λ a : Hd => decide (a.2.1 < a.2.2)) cand
  match cand, hc, tog, ln, hn with
  | [], _, _, ln, hn => simp at hn
  | [a], _, _, ln, hn => simp at ln; omega
  | [a, b], _, tog, ln, hn =>
   have e : [a, b].filter (λ a : Hd => decide (a.2.1 < a.2.2)) = [a, b] := by
    refine List.filter_eq_self.mpr λ x hx => ?_
    by_cases ea : a.2.1 < a.2.2
    ·by_cases eb : b.2.1 < b.2.2
     ·simp only [List.mem_cons, List.not_mem_nil, or_false] at hx
      rcases hx with rfl | rfl <;> simpa
     ·simp [ea, eb] at hn; omega
    ·by_cases eb : b.2.1 < b.2.2 <;> simp [ea, eb] at hn <;> omega
   have hm0 : m = 0 /\ n = 1 := by
    rw [e] at hn
    simp at hn
    omega
   obtain ⟨rfl, rfl⟩ := hm0
   simp only [e]
   exact tog a b rfl
section
variable {k : Nat} {h : IH}
theorem Jyo {i : Nat} {ms : List Int} (hi : h[i]? = some (.lst (ms.map .int))) (hl : ms.length < 64) : Jkg (.ref i) h = .ok (.ref h.length) (h ++ [.lst ((Jmp ms).map .int)]) := by
 dsimp only [Jkg]
 rw [hi]
 dsimp only
 rw [if_pos (by rw [List.length_map]; exact hl)]
 unfold srtI
 rw [Jgf]
theorem sort4 {ms : List Int} {len : Int} (hl : ms.length = 4) (hm : ∀ x ∈ ms, 0 <= x /\ x < len) : ∃ p0 p1 p2 p3 : Int, Jmp ms = [p0, p1, p2, p3] /\ 0 <= p0 /\ p0 <= p1 /\ p1 <= p2 /\ p2 <= p3 /\ p3 < len := by
 have pw := Jtb ms
 have l : (Jmp ms).length = 4 := by rw [Jmp, List.length_mergeSort]; exact hl
 have mem : ∀ x ∈ Jmp ms, 0 <= x /\ x < len := λ x hx => hm x (List.mem_mergeSort.mp hx)
 match Jmp ms, l, pw, mem with
 | [p0, p1, p2, p3], _, pw, mem =>
  simp only [List.pairwise_cons, List.mem_cons, List.not_mem_nil, or_false] at pw
  obtain ⟨a, b, c, _⟩ := pw
  have m0 := mem p0 (by simp)
  have m3 := mem p3 (by simp)
  exact ⟨p0, p1, p2, p3, rfl, m0.1, a p1 (.inl rfl), b p2 (.inl rfl), c p3 rfl, m3.2⟩
noncomputable def J5l (v : IV) : Bool := match v with
 | .tup [_, .int s, .int e] => decide (s < e)
 | _ => false
theorem Jve (cand : List Hd) : (cand.map tupH).filter J5l = (cand.filter λ a => decide (a.2.1 < a.2.2)).map tupH := by
 rw [List.filter_map]
 rfl
noncomputable def way6 (one other : Str) (p0 p1 p2 p3 : Int) : Nat -> List Hd
 | 0 => []
 | 1 => [(one, p0, p3)]
 | 2 => [(one, p0, p3), (other, p1, p2)]
 | 3 => [(other, p1, p2), (one, p0, p3)]
 | 4 => [(one, p0, p1), (other, p2, p3)]
 | _ => [(one, p2, p3), (one, p0, p1)]
theorem J1x {one other : Str} {p0 p1 p2 p3 len : Int} (n : Nat) (h1 : IsNm one) (h2 : IsNm other) (ne : one ≠ other) (a0 : 0 <= p0) (a1 : p0 <= p1) (a2 : p1 <= p2) (a3 : p2 <= p3) (a4 : p3 < len) : HsOk len ((way6 one other p0 p1 p2 p3 n).filter λ a => decide (a.2.1 < a.2.2)) := by
 match n with
 | 0 => exact Jon (by simp [way6]) (by simp [way6]) (by simp [way6])
 | 1 =>
  refine Jon (by simp [way6]) (λ a ha => ?_) (by simp [way6])
  simp only [way6, List.mem_cons, List.not_mem_nil, or_false] at ha
  subst ha
  exact ⟨h1, a0, a4⟩
 | 2 =>
  refine Jon (by simp [way6]) (λ a ha => ?_) (λ a b e => ?_)
  ·simp only [way6, List.mem_cons, List.not_mem_nil, or_false] at ha
   rcases ha with rfl | rfl
   ·exact ⟨h1, a0, a4⟩
   ·exact ⟨h2, by show 0 <= p1; omega, by show p2 < len; omega⟩
  ·simp only [way6, List.cons.injEq, and_true] at e
   obtain ⟨rfl, rfl⟩ := e
   exact .inr (.inr ⟨Ne.symm ne, .inl ⟨a1, a3⟩⟩)
 | 3 =>
  refine Jon (by simp [way6]) (λ a ha => ?_) (λ a b e => ?_)
  ·simp only [way6, List.mem_cons, List.not_mem_nil, or_false] at ha
   rcases ha with rfl | rfl
   ·exact ⟨h2, by show 0 <= p1; omega, by show p2 < len; omega⟩
   ·exact ⟨h1, a0, a4⟩
  ·simp only [way6, List.cons.injEq, and_true] at e
   obtain ⟨rfl, rfl⟩ := e
   exact .inr (.inr ⟨ne, .inr ⟨a1, a3⟩⟩)
 | 4 =>
  refine Jon (by simp [way6]) (λ a ha => ?_) (λ a b e => ?_)
  ·simp only [way6, List.mem_cons, List.not_mem_nil, or_false] at ha
   rcases ha with rfl | rfl
   ·exact ⟨h1, a0, by show p1 < len; omega⟩
   ·exact ⟨h2, by show 0 <= p2; omega, a4⟩
  ·simp only [way6, List.cons.injEq, and_true] at e
   obtain ⟨rfl, rfl⟩ := e
   exact .inr (.inl a2)
 | n + 5 =>
  refine Jon (by simp [way6]) (λ a ha => ?_) (λ a b e => ?_)
  ·simp only [way6, List.mem_cons, List.not_mem_nil, or_false] at ha
   rcases ha with rfl | rfl
   ·exact ⟨h1, by show 0 <= p2; omega, a4⟩
   ·exact ⟨h1, a0, by show p1 < len; omega⟩
  ·simp only [way6, List.cons.injEq, and_true] at e
   obtain ⟨rfl, rfl⟩ := e
   exact .inl a2
theorem J1f {C : IH} {X O i0 i1 i2 i3 i4 i5 : Nat} {xs : List Int} {one other : Str} {p0 p1 p2 p3 y6 : Int} {a1 a2 a3 a4 a5 : Option IV} (c0 : C[i0]? = some (.lst [])) (c1 : C[i1]? = some (.lst [tupH (one, p0, p3)])) (c2 : C[i2]? = some (.lst [tupH (one, p0, p3), tupH (other, p1, p2)])) (c3 : C[i3]? = some (.lst [tupH (other, p1, p2), tupH (one, p0, p3)]))
  (c4 : C[i4]? = some (.lst [tupH (one, p0, p1), tupH (other, p2, p3)])) (c5 : C[i5]? = some (.lst [tupH (one, p2, p3), tupH (one, p0, p1)])) (cO : C[O]? = some (.lst [.ref i0, .ref i1, .ref i2, .ref i3, .ref i4, .ref i5])) (hX : C[X]? = some (.lst (xs.map .int))) (e6 : atI (xs.map IV.int) 6 = some (.int y6)) {N : ISt -> IH -> Prop} :
  WS (Jd8 k [some (.ref X), a1, a2, a3, a4, a5, some (.ref O)] C) N λ v h' => ∃ q n, v = .ref q /\ C.length <= q /\ h'[q]? = some (.lst (((way6 one other p0 p1 p2 p3 n).filter λ a => decide (a.2.1 < a.2.2)).map tupH)) /\ Ex C h' := by
 have hb := Jd
 have pick : ∃ (n m : Nat), atI [IV.ref i0, IV.ref i1, IV.ref i2, IV.ref i3, IV.ref i4, IV.ref i5] (y6 % 6) = some (.ref m) /\ C[m]? = some (.lst ((way6 one other p0 p1 p2 p3 n).map tupH)) := by
  have : y6 % 6 = 0 ∨ y6 % 6 = 1 ∨ y6 % 6 = 2 ∨ y6 % 6 = 3 ∨ y6 % 6 = 4 ∨ y6 % 6 = 5 := by omega
  rcases this with e | e | e | e | e | e <;> rw [e]
  ·exact ⟨0, i0, Jfj, c0⟩
  ·exact ⟨1, i1, Jfk, c1⟩
  ·exact ⟨2, i2, Jh7, c2⟩
  ·exact ⟨3, i3, Jle, c3⟩
  ·exact ⟨4, i4, Joo, c4⟩
  ·exact ⟨5, i5, Jax (n := 5) rfl, c5⟩
 obtain ⟨n, m, em, gm⟩ := pick
 have ln : (way6 one other p0 p1 p2 p3 n).length <= 2 := by
  match n with
  | 0 => simp [way6]
  | 1 => simp [way6]
  | 2 => simp [way6]
  | 3 => simp [way6]
  | 4 => simp [way6]
  | n + 5 => simp [way6]
 simp! [Jd8]
 refine WR.mono (Jl7 (h := C) (xs := (way6 one other p0 p1 p2 p3 n).map tupH) (chk := λ h' => h'[m]? = some (.lst ((way6 one other p0 p1 p2 p3 n).map tupH))) (p := J5l) (f := λ v => v) ?_ (by rw [List.length_map]; omega) (λ h2 q => q _ _ gm) ?_ ?_) ?_
 ·simp! [Jbo, cO, hX, e6, show (0 : Int) < 6 by decide, em, Jak, gm]
 ·intro v hv h2 q
  obtain ⟨a, _, rfl⟩ := List.mem_map.mp hv
  simp! [Jfc, tupH]
  exact ⟨rfl, .refl _⟩
 ·intro v hv _ h2 q
  simp! [Jfz]
  exact .refl _
 ·rintro _ _ ⟨rfl, g, rfl⟩
  refine ⟨_, n, rfl, Nat.le_refl _, ?_, .cons _ _ _⟩
  rw [Jp, List.map_id', Jve]
theorem J1c {C : IH} {X O Pp i0 i1 i2 i3 : Nat} {xs : List Int} {one other : Str} {p0 p1 p2 p3 y6 : Int} {a1 a2 : Option IV} (c0 : C[i0]? = some (.lst [])) (c1 : C[i1]? = some (.lst [tupH (one, p0, p3)])) (c2 : C[i2]? = some (.lst [tupH (one, p0, p3), tupH (other, p1, p2)])) (c3 : C[i3]? = some (.lst [tupH (other, p1, p2), tupH (one, p0, p3)]))
  (cO : C[O]? = some (.lst [.ref i0, .ref i1, .ref i2, .ref i3])) (gP : C[Pp]? = some (.lst [.int p0, .int p1, .int p2, .int p3])) (hX : C[X]? = some (.lst (xs.map .int))) (e6 : atI (xs.map IV.int) 6 = some (.int y6)) {N : ISt -> IH -> Prop} :
  WS (Jd0 k [some (.ref X), a1, a2, some (.ref Pp), some (.str one), some (.str other), some (.ref O)] C) N λ v h' => ∃ q n, v = .ref q /\ C.length <= q /\ h'[q]? = some (.lst (((way6 one other p0 p1 p2 p3 n).filter λ a => decide (a.2.1 < a.2.2)).map tupH)) /\ Ex C h' := by
 have hb := Jd
 have g1 : ∀ a, (C ++ a)[Pp]? = some (.lst [.int p0, .int p1, .int p2, .int p3]) := λ a => grow gP
 simp! [Jd0, Jbo, gP, g1, List.length_cons, List.length_nil, Jsh]
 refine ⟨by omega, by omega, by omega, by omega, by omega, by omega, by omega, _, grow (grow (grow cO)), _, Jj, by simp; omega, ?_⟩
 have xC : ∀ a b c d, Ex C (C ++ [a] ++ [b] ++ [c] ++ [d]) := λ a b c d => (Ex.one _ _).trans ((Ex.one _ _).trans ((Ex.one _ _).trans (.one _ _)))
 refine WS.mono (J1f (k := k) (p0 := p0) (p1 := p1) (p2 := p2) (p3 := p3) (one := one) (other := other) (N := N) ((xC _ _ _ _).get c0) ((xC _ _ _ _).get c1) ((xC _ _ _ _).get c2) ((xC _ _ _ _).get c3) (grow (grow (grow Jj))) (grow (grow Jj)) Jj ((xC _ _ _ _).get hX) e6) (λ _ _ z => z) ?_
 rintro v h' ⟨q, n, rfl, lq, gq, x'⟩
 refine ⟨q, n, rfl, ?_, gq, (xC _ _ _ _).trans x'⟩
 simp only [List.length_append, List.length_cons, List.length_nil] at lq
 omega
theorem Jyd {X W : Nat} {xs : List Int} {ws : List Str} {len : Int} (hX : h[X]? = some (.lst (xs.map .int))) (lx : 7 <= xs.length) (hW : h[W]? = some (.lst (ws.map .str))) (lw : ws.length = 3) (hw : ∀ x ∈ ws, IsNm x) (nd : ws.Nodup) (h1 : 1 <= len) :
  WR (Jej (k + 1) [.ref X, .int len, .ref W] h) λ v h' => ∃ q hs, v = .ref q /\ h.length <= q /\ h'[q]? = some (.lst (hs.map tupH)) /\ HsOk len hs /\ Ex h h' := by
 have hb := Jd
 rw [Jrt]
 simp! [Jeg]
 refine WR.mono (J9 (h := h ++ [L3.IO.lst ((xs.take 4).map IV.int)]) (xs := (xs.take 4).map IV.int) (chk := λ h' => h'[h.length]? = some (.lst ((xs.take 4).map IV.int))) (f := λ v => match v with | .int x => .int (x % len) | _ => .non) ?_ ?_ ?_ ?_) ?_
 ·simp! [Jta, hX]
  rw [show (some (4 : Int)) = some ((4 : Nat) : Int) from rfl, Jtj, <- List.map_take]
  simp only [Jak, Jj, exists_eq_left, exists_eq_left', IV.bl.injEq, IV.int.injEq, IV.ref.injEq, IV.str.injEq, IO.lst.injEq, IV.tup.injEq, Option.some.injEq, Bool.not_true, Bool.not_false, reduceCtorEq, eq_self, true_implies, false_implies, implies_true, and_true, true_and, and_false, false_and, Option.bind_some, Bool.true_eq_false, Bool.false_eq_true, Jkt, Jfu, Jk0, Jqc, Jk6, Jks, Je1, Jaz, Jgc, Jbl, Jfp, Jju, Jkz, Jfj, Jfk, Jh7, Jle, Joo, Jfi, Jgb, Jfr]
 ·rw [List.length_map, List.length_take]; omega
 ·exact λ h2 q => q _ _ Jj
 ·intro v hv h2 q
  obtain ⟨x, hx, rfl⟩ := List.mem_map.mp hv
  simp only [List.map_cons, List.map_nil, List.getElem?_cons_succ, List.getElem?_cons_zero, Option.join_some]
  simp! [Je5, show (0 : Int) < len by omega]
  exact .refl _
 ·rintro _ _ ⟨rfl, g, rfl⟩
  have em : ((xs.take 4).map IV.int).map (λ v => match v with | .int x => IV.int (x % len) | _ => IV.non) = ((xs.take 4).map (· % len)).map IV.int := by
   rw [List.map_map, List.map_map]
   rfl
  rw [em]
  obtain ⟨p0, p1, p2, p3, es, a0, a1, a2, a3, a4⟩ := sort4 (ms := (xs.take 4).map (· % len)) (len := len) (by rw [List.length_map, List.length_take]; omega) λ x hx => by
   obtain ⟨y, _, rfl⟩ := List.mem_map.mp hx
   exact ⟨Int.emod_nonneg _ (by omega), Int.emod_lt_of_pos _ (by omega)⟩
  generalize hh1 : h ++ [L3.IO.lst ((xs.take 4).map IV.int)] = hA
  have xA : Ex h hA := by rw [<- hh1]; exact .one _ _
  rw [Jyo (ms := (xs.take 4).map (· % len)) Jp (by rw [List.length_map, List.length_take]; omega), es]
  dsimp! [Jez]
  have xB : Ex hA (hA ++ L3.IO.lst (((xs.take 4).map (· % len)).map IV.int) :: g ++ [L3.IO.lst ([p0, p1, p2, p3].map IV.int)]) := (Ex.cons _ _ _).trans (.one _ _)
  have gP : (hA ++ L3.IO.lst (((xs.take 4).map (· % len)).map IV.int) :: g ++ [L3.IO.lst ([p0, p1, p2, p3].map IV.int)])[(hA ++ L3.IO.lst (((xs.take 4).map (· % len)).map IV.int) :: g).length]? = some (.lst ([p0, p1, p2, p3].map IV.int)) := Jj
  have lP : h.length <= (hA ++ L3.IO.lst (((xs.take 4).map (· % len)).map IV.int) :: g).length := by have := xA.len; rw [List.length_append]; omega
  generalize (hA ++ L3.IO.lst (((xs.take 4).map (· % len)).map IV.int) :: g).length = Pp at gP lP ⊢
  generalize hA ++ L3.IO.lst (((xs.take 4).map (· % len)).map IV.int) :: g ++ [L3.IO.lst ([p0, p1, p2, p3].map IV.int)] = hB at xB gP ⊢
  have xh := xA.trans xB
  simp only [List.map_cons, List.map_nil] at gP
  have hX2 := xh.get hX
  have hW2 := xh.get hW
  obtain ⟨y4, e4⟩ := at_x (xs := xs) (n := 4) (by omega)
  obtain ⟨y5, e5⟩ := at_x (xs := xs) (n := 5) (by omega)
  obtain ⟨y6, e6⟩ := at_x (xs := xs) (n := 6) (by omega)
  have e4 : atI (xs.map IV.int) 4 = some (.int y4) := e4
  have e5 : atI (xs.map IV.int) 5 = some (.int y5) := e5
  have e6 : atI (xs.map IV.int) 6 = some (.int y6) := e6
  obtain ⟨i, hi⟩ : ∃ i : Nat, y4 % 3 = i := ⟨(y4 % 3).toNat, by omega⟩
  obtain ⟨j, hj⟩ : ∃ j : Nat, (y4 + 1 + y5 % 2) % 3 = j := ⟨((y4 + 1 + y5 % 2) % 3).toNat, by omega⟩
  have hi3 : i < ws.length := by omega
  have hj3 : j < ws.length := by omega
  have hij : i ≠ j := by omega
  have aw : ∀ n (hn : n < ws.length), atI (ws.map IV.str) (n : Int) = some (.str ws[n]) := λ n hn => Jax (by rw [List.getElem?_map, List.getElem?_eq_getElem hn]; rfl)
  simp! [Jje, Jjf, Jbo, hX2, hW2, e4, e5, show (0 : Int) < 3 by decide, show (0 : Int) < 2 by decide, hi, hj, aw i hi3, aw j hj3]
  have n1 := hw _ (List.getElem_mem hi3)
  have n2 := hw _ (List.getElem_mem hj3)
  have ne : ws[i] ≠ ws[j] := λ e => hij ((List.getElem_inj nd).mp e)
  generalize ws[i] = one at n1 ne
  generalize ws[j] = other at n2 ne
  have wok := λ n => J1x (len := len) n n1 n2 ne a0 a1 a2 a3 a4
  have g1 : ∀ a, (hB ++ a)[Pp]? = some (.lst [.int p0, .int p1, .int p2, .int p3]) := λ a => grow gP
  have g2 : ∀ a b, (hB ++ a ++ b)[Pp]? = some (.lst [.int p0, .int p1, .int p2, .int p3]) := λ a b => grow (g1 a)
  have g3 : ∀ a b c, (hB ++ a ++ b ++ c)[Pp]? = some (.lst [.int p0, .int p1, .int p2, .int p3]) := λ a b c => grow (g2 a b)
  simp! [Jjm, Jbo, gP, g1, g2, g3, List.length_cons, List.length_nil]
  refine ⟨by omega, by omega, by omega, by omega, by omega, by omega, by omega, by omega, by omega, by omega, ?_⟩
  have xC : ∀ a b c d e, Ex hB (hB ++ [a] ++ [b] ++ [c] ++ [d] ++ [e]) := λ a b c d e => (Ex.one _ _).trans ((Ex.one _ _).trans ((Ex.one _ _).trans ((Ex.one _ _).trans (.one _ _))))
  refine WS.mono (J1c (k := k) (p0 := p0) (p1 := p1) (p2 := p2) (p3 := p3) (one := one) (other := other) (N := λ _ _ => False) (grow (grow (grow (grow Jj)))) (grow (grow (grow Jj))) (grow (grow Jj)) (grow Jj) Jj ((xC _ _ _ _ _).get gP) ((xC _ _ _ _ _).get hX2) e6) ?_ ?_
  ·exact λ _ _ z => z.elim
  ·rintro v h' ⟨q, n, rfl, lq, gq, x'⟩
   have := xh.len
   have l2 := (xC (L3.IO.lst []) (L3.IO.lst []) (L3.IO.lst []) (L3.IO.lst []) (L3.IO.lst [])).len
   refine ⟨q, _, rfl, ?_, gq, wok n, xh.trans ((xC _ _ _ _ _).trans x')⟩
   simp only [List.length_append, List.length_cons, List.length_nil] at lq
   omega
end
end LW
namespace LW
open PySem L2 L3 L4
noncomputable abbrev tp5 (r : RH) (q : Nat) : List IV := [.int r.1.gap, .int r.1.len, .int r.1.due, .int r.1.late, .ref q]
structure F7 (unit : Int) (r : RH) : Prop where
 g1 : unit <= r.1.gap
 g2 : r.1.gap < 8 * unit
 l1 : 1 <= r.1.len
 l2 : r.1.len <= r.1.gap
 d1 : 1 <= r.1.due
 d2 : r.1.due <= r.1.gap
 t1 : 0 <= r.1.late
 t2 : r.1.late <= 3 * r.1.gap / 2
 ok : HsOk r.1.len r.2
theorem J11 {ws : List Str} (hw : ∀ x ∈ ws, IsNm x) : PyData.canLayAll0 (ws.map PyData.str) = true := by
 induction ws with
 | nil => rfl
 | cons x xs ih =>
  have q := hw x (List.mem_cons_self ..)
  have e : PyData.canLay0 (.str x) = true := by
   simp only [PyData.canLay0]
   unfold PyData.strOk
   rw [<- Array.all_toList, List.all_eq_true]
   intro c hc
   have := q.2.2 c hc
   simp only [decide_eq_true_eq]
   omega
  rw [List.map_cons, PyData.canLayAll0, e, ih λ y hy => hw y (List.mem_cons_of_mem _ hy)]
  rfl
section
variable {k : Nat} {h : IH}
theorem J1t (i j : Int) {Q : IV -> IH -> Prop} : WR (maxI (.int i) (.int j) h) Q = Q (.int (if j > i then j else i)) h := rfl
theorem Jl2 {W j : Nat} {ws : List Str} (hW : h[W]? = some (.lst (ws.map .str))) (hw : ∀ x ∈ ws, IsNm x) (hj : h[j]? = some (.lst [])) : cNe (.ref W) (.ref j) h = .ok (.bl (!ws.isEmpty)) h := by
 have e1 : toD h 6 (.ref W) = some (.list (ws.map PyData.str)) := by
  rw [Jfl hW, Jpx (g := λ v => match v with | .str x => .str x | _ => .none) λ x hx => ?_]
  ·simp
  ·obtain ⟨y, _, rfl⟩ := List.mem_map.mp hx
   rfl
 have e2 : toD h 6 (.ref j) = some (.list []) := by
  rw [Jfl hj]
  rfl
 have e3 : Jie (.ref W) (.ref j) h = some ws.isEmpty := by
  unfold Jie
  rw [e1, e2]
  dsimp only
  rw [if_pos ⟨by rw [PyData.canLay0]; exact J11 hw, by rw [PyData.canLay0, PyData.canLayAll0]⟩, PyData.eqv]
  cases ws with
  | nil => rw [List.map_nil, PyData.eqvAll]; rfl
  | cons a as => rw [List.map_cons, PyData.eqvAll]; rfl; all_goals intros; simp_all
 unfold cNe
 have e4 : Jjw (.ref W) (.ref j) = none := rfl
 rw [e4]
 dsimp only
 rw [e3]
theorem Jy1 {c unit : Int} {W : Nat} {ws : List Str} (hu : 1 <= unit) (hu2 : unit <= 10 ^ 40) (hW : h[W]? = some (.lst (ws.map .str))) (hw : ∀ x ∈ ws, IsNm x) (nd : ws.Nodup) (lw : ws = [] ∨ ws.length = 3) :
  WR (Jds (k + 2) [.int c, .int unit, .ref W] h) λ v h' => Ex h h' /\ ∃ r q, F7 unit r /\ v = .tup (tp5 r q) /\ h.length <= q /\ h'[q]? = some (.lst (r.2.map tupH)) /\ (ws = [] -> r.2 = []) := by
 have hb := Jd
 rw [Jrg]
 simp! [Jen]
 refine WR.mono (Jq0 (k := k) (h := h) c 15 (by decide)) ?_
 rintro _ h1 ⟨i, xs, rfl, _, hi, lx, hx, x1⟩
 have hx0 : ∀ x ∈ xs, 0 <= x := λ x q => (hx x q).1
 clear hx
 have at_ : ∀ n : Nat, n < 15 -> ∃ x, 0 <= x /\ atI (xs.map IV.int) (n : Int) = some (.int x) := λ n hn => ⟨xs[n], hx0 _ (List.getElem_mem _), Jax (by rw [List.getElem?_map, List.getElem?_eq_getElem (by omega)]; rfl)⟩
 obtain ⟨y0, z0, e0⟩ := at_ 0 (by decide)
 obtain ⟨y1, z1, e1⟩ := at_ 1 (by decide)
 obtain ⟨y2, z2, e2⟩ := at_ 2 (by decide)
 obtain ⟨y3, z3, e3⟩ := at_ 3 (by decide)
 obtain ⟨y4, z4, e4⟩ := at_ 4 (by decide)
 obtain ⟨y5, z5, e5⟩ := at_ 5 (by decide)
 obtain ⟨y6, z6, e6⟩ := at_ 6 (by decide)
 obtain ⟨y7, z7, e7⟩ := at_ 7 (by decide)
 have e0 : atI (xs.map IV.int) 0 = some (.int y0) := e0
 have e1 : atI (xs.map IV.int) 1 = some (.int y1) := e1
 have e2 : atI (xs.map IV.int) 2 = some (.int y2) := e2
 have e3 : atI (xs.map IV.int) 3 = some (.int y3) := e3
 have e4 : atI (xs.map IV.int) 4 = some (.int y4) := e4
 have e5 : atI (xs.map IV.int) 5 = some (.int y5) := e5
 have e6 : atI (xs.map IV.int) 6 = some (.int y6) := e6
 have e7 : atI (xs.map IV.int) 7 = some (.int y7) := e7
 clear at_ hx0
 have l2 : (Int.natAbs 2).log2 < 9000 := by decide
 have l3 : (Int.natAbs 3).log2 < 9000 := by decide
 have m1 : Jb1 unit (1 + y0 % 7) := .inr (.inl (by omega))
 have b1 : unit * 1 <= unit * (1 + y0 % 7) := Int.mul_le_mul_of_nonneg_left (by omega) (by omega)
 have b2 : unit * (1 + y0 % 7) <= unit * 7 := Int.mul_le_mul_of_nonneg_left (by omega) (by omega)
 have b3 := Int.emod_nonneg y1 (b := 1 + unit / 2) (by omega)
 have b4 := Int.emod_lt_of_pos y1 (b := 1 + unit / 2) (by omega)
 simp! [Ji3, Jbo, hi, e0, e1, m1, l2, show (0 : Int) < 7 by decide, show (0 : Int) < 2 by decide, show (0 : Int) < 1 + unit / 2 by omega]
 obtain ⟨g, eg, g1, g2⟩ : ∃ g, unit * (1 + y0 % 7) + y1 % (1 + unit / 2) = g /\ unit <= g /\ g < 8 * unit := ⟨_, rfl, by omega, by omega⟩
 rw [eg]
 clear eg b1 b2 b3 b4 m1
 have pg' : (0 : Int) < g := by omega
 have d1 := Int.emod_nonneg y2 (b := g) (by omega)
 have d2 := Int.emod_lt_of_pos y2 pg'
 obtain ⟨dd, ed, dd1, dd2⟩ : ∃ x : Int, atI [IV.int 0, IV.int (y2 % g)] (y3 % 2) = some (.int x) /\ 0 <= x /\ x < g := by
  have : y3 % 2 = 0 ∨ y3 % 2 = 1 := by omega
  rcases this with q | q <;> rw [q]
  ·exact ⟨_, Jfj, by omega, by omega⟩
  ·exact ⟨_, Jfk, by omega, by omega⟩
 simp! [Jiw, Jbo, hi, e2, e3, pg', Jj, grow hi, show (0 : Int) < 2 by decide, List.length_cons, List.length_nil]
 refine ⟨by omega, _, ed, ?_⟩
 simp_all! [true_and]
 have xA : Ex h1 (h1 ++ [L3.IO.lst [IV.int 0, IV.int (y2 % g)]]) := .one _ _
 generalize h1 ++ [L3.IO.lst [IV.int 0, IV.int (y2 % g)]] = hA at xA ⊢
 have hiA := xA.get hi
 have m3 : Jb1 3 g := .inl (by decide)
 have t1 := Int.emod_nonneg y4 (b := 1 + g / 3) (by omega)
 have t2 := Int.emod_lt_of_pos y4 (b := 1 + g / 3) (by omega)
 have t3 := Int.emod_nonneg y4 (b := 1 + 3 * g / 2) (by omega)
 have t4 := Int.emod_lt_of_pos y4 (b := 1 + 3 * g / 2) (by omega)
 obtain ⟨lt, el, lt1, lt2⟩ : ∃ x : Int, atI [IV.int 0, IV.int 0, IV.int (y4 % (1 + g / 3)), IV.int (y4 % (1 + 3 * g / 2))] (y5 % 4) = some (.int x) /\ 0 <= x /\ x <= 3 * g / 2 := by
  have : y5 % 4 = 0 ∨ y5 % 4 = 1 ∨ y5 % 4 = 2 ∨ y5 % 4 = 3 := by omega
  rcases this with q | q | q | q <;> rw [q]
  ·exact ⟨_, Jfj, by omega, by omega⟩
  ·exact ⟨_, Jfk, by omega, by omega⟩
  ·exact ⟨_, Jh7, by omega, by omega⟩
  ·exact ⟨_, Jle, by omega, by omega⟩
 simp! [Jj5, Jbo, hiA, e4, e5, m3, l2, l3, Jj, grow hiA, show (0 : Int) < 1 + g / 3 by omega, show (0 : Int) < 1 + 3 * g / 2 by omega, show (0 : Int) < 3 by decide, show (0 : Int) < 2 by decide, show (0 : Int) < 4 by decide, List.length_cons, List.length_nil]
 refine ⟨by omega, _, el, ?_⟩
 simp_all! [true_and]
 have xB : Ex hA (hA ++ [L3.IO.lst [IV.int 0, IV.int 0, IV.int (y4 % (1 + g / 3)), IV.int (y4 % (1 + 3 * g / 2))]]) := .one _ _
 generalize hA ++ [L3.IO.lst [IV.int 0, IV.int 0, IV.int (y4 % (1 + g / 3)), IV.int (y4 % (1 + 3 * g / 2))]] = hB at xB ⊢
 have hiB := xB.get hiA
 obtain ⟨dv, ev, dv1, dv2⟩ : ∃ x : Int, atI [IV.int 1, IV.int 2, IV.int 4, IV.int 9] (y7 % 4) = some (.int x) /\ 0 < x /\ x <= 9 := by
  have : y7 % 4 = 0 ∨ y7 % 4 = 1 ∨ y7 % 4 = 2 ∨ y7 % 4 = 3 := by omega
  rcases this with q | q | q | q <;> rw [q]
  ·exact ⟨_, Jfj, by omega, by omega⟩
  ·exact ⟨_, Jfk, by omega, by omega⟩
  ·exact ⟨_, Jh7, by omega, by omega⟩
  ·exact ⟨_, Jle, by omega, by omega⟩
 simp! [Jjb, Jbo, hiB, e6, e7, Jj, grow hiB, show (0 : Int) < 4 by decide, List.length_cons, List.length_nil]
 refine ⟨by omega, _, ev, ?_⟩
 have ld : dv.natAbs.log2 < 9000 := Jor (b := 9) (by omega) (by decide)
 simp! [ld, dv1, J4w, J1t]
 obtain ⟨M, eM, M1, M2⟩ : ∃ M : Int, (if g / dv > 1 then g / dv else 1) = M /\ 1 <= M /\ M <= g := by
  have : g / dv <= g := Int.ediv_le_self _ (by omega)
  split
  ·exact ⟨_, rfl, by omega, this⟩
  ·exact ⟨_, rfl, by omega, by omega⟩
 rw [eM]
 have s1 := Int.emod_nonneg y6 (b := M) (by omega)
 have s2 := Int.emod_lt_of_pos y6 (b := M) (by omega)
 refine ⟨by omega, ?_⟩
 generalize hlen : 1 + y6 % M = len
 have xC : Ex hB (hB ++ [L3.IO.lst [IV.int 1, IV.int 2, IV.int 4, IV.int 9]]) := .one _ _
 generalize hB ++ [L3.IO.lst [IV.int 1, IV.int 2, IV.int 4, IV.int 9]] = hC at xC ⊢
 have x1C := ((x1.trans xA).trans xB).trans xC
 have lC := x1C.len
 have hiC := (xB.trans xC).get hiA
 have xD : Ex hC (hC ++ [L3.IO.lst []] ++ [L3.IO.lst []]) := (Ex.one _ _).trans (.one _ _)
 have gD : (hC ++ [L3.IO.lst []] ++ [L3.IO.lst []])[(hC ++ [L3.IO.lst []]).length]? = some (.lst []) := Jj
 have gE : (hC ++ [L3.IO.lst []] ++ [L3.IO.lst []])[hC.length]? = some (.lst []) := grow Jj
 have base : ∀ hs : List Hd, HsOk len hs -> F7 unit (⟨⟨⟨#[]⟩, g, len, g - dd, lt⟩, hs⟩ : RH) := λ hs ok => ⟨g1, g2, by show 1 <= len; omega, by show len <= g; omega, by show 1 <= g - dd; omega, by show g - dd <= g; omega, lt1, lt2, ok⟩
 simp! [Jif, Jin, List.length_nil, Nat.zero_le, Jl2 (xD.get (x1C.get hW)) hw gD]
 rcases lw with rfl | lw
 ·simp! [List.isEmpty_nil, Jes, List.length_cons, List.length_nil]
  have ok0 : HsOk len [] := ⟨by simp, by simp, λ m n hm hn => absurd hn (by simp)⟩
  first
  | exact ⟨by omega, x1C.trans xD, ⟨⟨⟨#[]⟩, g, len, g - dd, lt⟩, []⟩, _, base [] ok0, rfl, by omega, gE, rfl⟩
  | exact ⟨by omega, x1C.trans xD, ⟨⟨#[]⟩, g, len, g - dd, lt⟩, [], _, base [] ok0, rfl, by omega, gE, rfl⟩
 ·have ne : ws.isEmpty = false := by cases ws with | nil => simp at lw | cons _ _ => rfl
  simp! [ne, Jta, xD.get hiC]
  rw [show (some (8 : Int)) = some ((8 : Nat) : Int) from rfl, Js4, <- List.map_drop]
  have xE : Ex (hC ++ [L3.IO.lst []] ++ [L3.IO.lst []]) (hC ++ [L3.IO.lst []] ++ [L3.IO.lst []] ++ [L3.IO.lst ((xs.drop 8).map IV.int)]) := .one _ _
  refine WR.mono (Jyd (k := k) Jj (by rw [List.length_drop]; omega) (xE.get (xD.get (x1C.get hW))) lw hw nd (by omega)) ?_
  rintro _ h3 ⟨q, hs, rfl, hq, gq, ok, x3⟩
  simp! [Jes, List.length_cons, List.length_nil]
  have l1 := (xD.trans xE).len
  first
  | exact ⟨by omega, (x1C.trans (xD.trans xE)).trans x3, ⟨⟨⟨#[]⟩, g, len, g - dd, lt⟩, hs⟩, q, base hs ok, rfl, by omega, gq, λ e => by rw [e] at ne; cases ne⟩
  | exact ⟨by omega, (x1C.trans (xD.trans xE)).trans x3, ⟨⟨#[]⟩, g, len, g - dd, lt⟩, hs, q, base hs ok, rfl, by omega, gq, λ e => by rw [e] at ne; cases ne⟩
end
end LW
namespace LW
open PySem L2 L3 L4
noncomputable abbrev tp6 (r : RH) (q : Nat) : IV := .tup (.str r.1.name :: tp5 r q)
structure RowT (h : IH) (lo : Nat) (ys : List IV) (rs : List RH) : Prop where
 len : ys.length = rs.length
 at_ : ∀ (i : Nat) y r, ys[i]? = some y -> rs[i]? = some r -> ∃ q, y = tp6 r q /\ q ≠ lo /\ h[q]? = some (.lst (r.2.map tupH))
theorem RowT.kpb {h h' : IH} {lo : Nat} {ys : List IV} {rs : List RH} (k : KpB lo h h') (w : RowT h lo ys rs) : RowT h' lo ys rs := ⟨w.len, λ i y r a b => let ⟨q, e, n, g⟩ := w.at_ i y r a b; ⟨q, e, n, k _ _ n g⟩⟩
theorem RowT.kp {h h' : IH} {lo : Nat} {ys : List IV} {rs : List RH} (k : Kp h h') (w : RowT h lo ys rs) : RowT h' lo ys rs := w.kpb λ _ _ _ q => k _ _ q
theorem RowT.get {h : IH} {lo : Nat} {ys : List IV} {rs : List RH} (w : RowT h lo ys rs) {n : Nat} {r : RH} (e : rs[n]? = some r) : ∃ q, ys[n]? = some (tp6 r q) /\ h[q]? = some (.lst (r.2.map tupH)) := by
 have hn : n < ys.length := by rw [w.len]; exact (List.getElem?_eq_some_iff.mp e).1
 obtain ⟨q, e1, _, g⟩ := w.at_ n _ r (List.getElem?_eq_getElem hn) e
 exact ⟨q, by rw [List.getElem?_eq_getElem hn, e1], g⟩
theorem RowT.snoc {h : IH} {lo q : Nat} {ys : List IV} {rs : List RH} {r : RH} (w : RowT h lo ys rs) (n : q ≠ lo) (g : h[q]? = some (.lst (r.2.map tupH))) : RowT h lo (ys ++ [tp6 r q]) (rs ++ [r]) := by
 have wl := w.len
 refine ⟨by simp [wl], λ i y s a b => ?_⟩
 by_cases hi : i < ys.length
 ·rw [List.getElem?_append_left hi] at a
  rw [List.getElem?_append_left (by omega)] at b
  exact w.at_ i y s a b
 ·have li := (List.getElem?_eq_some_iff.mp a).1
  rw [List.length_append, List.length_singleton] at li
  obtain rfl : i = ys.length := by omega
  rw [List.getElem?_append_right (Nat.le_refl _), Nat.sub_self] at a
  rw [wl, List.getElem?_append_right (Nat.le_refl _), Nat.sub_self] at b
  cases a
  cases b
  exact ⟨q, rfl, n, g⟩
structure Dr (c unit : Int) (rs : List RH) : Prop where
 u1 : 1 <= unit
 u2 : unit <= 10 ^ 40
 f : ∀ r ∈ rs, F7 unit r
 nm : (rs.map λ r => r.1.name) = (List.range rs.length).map (wd c)
theorem F7.to8 {unit : Int} {r : RH} (f : F7 unit r) (hu : 1 <= unit) (hn : IsNm r.1.name) : F8 unit r := by
 have g1 := f.g1
 have g2 := f.g2
 have t2 := f.t2
 exact ⟨hn, f.g1, by omega, f.l1, f.d1, f.d2, f.t1, by omega, f.ok⟩
theorem Dr.gd {c unit : Int} {rs : List RH} (D : Dr c unit rs) (hl : rs.length <= 7) : Gd unit rs := by
 refine ⟨D.u1, D.u2, hl, λ r hr => (D.f r hr).to8 D.u1 ?_, ?_⟩
 ·have : r.1.name ∈ (List.range rs.length).map (wd c) := by rw [<- D.nm]; exact List.mem_map_of_mem hr
  obtain ⟨j, _, e⟩ := List.mem_map.mp this
  rw [<- e]
  exact Jwd c j
 ·rw [D.nm, List.Nodup, List.pairwise_map]
  refine (List.nodup_range (n := rs.length)).imp_of_mem λ {a b} ha hb hne e => hne ?_
  exact J0c (by have := List.mem_range.mp ha; omega) (by have := List.mem_range.mp hb; omega) e
noncomputable def SQ (h : IH) (held : Bool) (v : IV) (h' : IH) : Prop := Ex h h' /\ ∃ S lo ys rs c unit, v = .ref S /\ h.length <= S /\ h'[S]? = some (.lst ys) /\ RowT h' lo ys rs /\ Dr c unit rs /\ rs.length <= 5 /\ (held = false -> ∀ r ∈ rs, r.2 = [])
noncomputable def wOf (c : Int) (v : IV) : IV := match v with
 | .int q => .str (wd c q.toNat)
 | _ => .non
section
variable {k : Nat} {h : IH}
theorem J2y (ns : List Int) (held : Bool) : WR (Jgk (k + 4) [.rol (ns.map .int), .bl held] h) (SQ h held) := by
 have hb := Jd
 rw [Jsf]
 have c0 := λ (h : IH) => Jly (k := k + 2) (h := h) ns 0 (by decide)
 have c1 := λ (h : IH) => Jly (k := k + 2) (h := h) ns 1 (by decide)
 generalize ns.getD (Int.toNat 0) 0 = x0 at c0
 generalize ns.getD (Int.toNat 1) 0 = x1 at c1
 have t15 : Int.toNat 15 = 15 := rfl
 have t40 : Int.toNat 40 = 40 := rfl
 have l4 : (Int.natAbs 4).log2 < 9000 := by decide
 have l5 : (Int.natAbs 5).log2 < 9000 := by decide
 have l7 : (Int.natAbs 7).log2 < 9000 := by decide
 have w15 : (0 : Int) <= 15 /\ (15 : Int) <= 1000000 /\ Int.natAbs 10 < 2 ^ 64 := by decide
 have w40 : (0 : Int) <= 40 /\ (40 : Int) <= 1000000 /\ Int.natAbs 10 < 2 ^ 64 := by decide
 simp! [Jf9, Jk4, c0, t15, t40, l4, w15, w40, Jbo, Jj, show (0 : Int) < 4 by decide, List.length_cons, List.length_nil]
 have p15 : (0 : Int) < 10 ^ 15 := by decide
 have p40 : (10 : Int) ^ 15 <= 10 ^ 40 := by decide +kernel
 have p4 : (4 : Int) <= 10 ^ 40 := by decide +kernel
 obtain ⟨U, eU, U1, U2⟩ : ∃ U : Int, atI [IV.int 4, IV.int (10 ^ 15), IV.int (10 ^ 15), IV.int (10 ^ 40)] (x0 % 4) = some (.int U) /\ 0 < U /\ U <= 10 ^ 40 := by
  have : x0 % 4 = 0 ∨ x0 % 4 = 1 ∨ x0 % 4 = 2 ∨ x0 % 4 = 3 := by omega
  rcases this with q | q | q | q <;> rw [q]
  ·exact ⟨_, Jfj, by decide, p4⟩
  ·exact ⟨_, Jfk, p15, p40⟩
  ·exact ⟨_, Jh7, p15, p40⟩
  ·exact ⟨_, Jle, by decide +kernel, Int.le_refl _⟩
 refine ⟨by omega, _, eU, ?_⟩
 have u0 := Int.emod_nonneg (x0 / 4) (b := U) (by omega)
 have u1 := Int.emod_lt_of_pos (x0 / 4) U1
 simp! [U1, Jky, Jk9, c1, List.length_nil, Nat.zero_le]
 generalize hu : 1 + x0 / 4 % U = unit
 have hu1 : 1 <= unit := by omega
 have hu2 : unit <= 10 ^ 40 := by
  clear eU c0 c1 p40 p4
  generalize (10 : Int) ^ 40 = y at *
  omega
 have xA : Ex h (h ++ [L3.IO.lst [IV.int 4, IV.int (10 ^ 15), IV.int (10 ^ 15), IV.int (10 ^ 40)]] ++ [L3.IO.lst []]) := (Ex.one _ _).trans (.one _ _)
 have gA : (h ++ [L3.IO.lst [IV.int 4, IV.int (10 ^ 15), IV.int (10 ^ 15), IV.int (10 ^ 40)]] ++ [L3.IO.lst []])[(h ++ [L3.IO.lst [IV.int 4, IV.int (10 ^ 15), IV.int (10 ^ 15), IV.int (10 ^ 40)]]).length]? = some (.lst []) := Jj
 generalize (h ++ [L3.IO.lst [IV.int 4, IV.int (10 ^ 15), IV.int (10 ^ 15), IV.int (10 ^ 40)]]).length = A at gA ⊢
 generalize h ++ [L3.IO.lst [IV.int 4, IV.int (10 ^ 15), IV.int (10 ^ 15), IV.int (10 ^ 40)]] ++ [L3.IO.lst []] = hA at xA gA ⊢
 clear eU p15 p40 p4 u0 u1 hu
 -- the loop, with the words
 have loop : ∀ (hB : IH) (W : Nat) (ws : List Str), Ex h hB -> hB[W]? = some (.lst (ws.map .str)) -> (∀ x ∈ ws, IsNm x) -> ws.Nodup -> (ws = [] ∨ ws.length = 3) -> (held = false -> ws = []) -> ∀ N : ISt -> IH -> Prop,
   WS (Jfv (k + 3) [some (.rol (ns.map .int)), some (.bl held), some (.int x0), some (.int unit), some (.int x1), some (.ref W), none, none, none] hB) N (SQ h held) := by
  intro hB W ws xB gW hw nd lw hh N
  simp! [Jfv, Jk8, List.length_nil, Nat.zero_le, show (0 : Int) < 6 by decide]
  refine ⟨by omega, ?_⟩
  refine Ja5 (λ n σ h' => ∃ ys rs g a b, h' = hB ++ .lst ys :: g /\ σ = [some (.rol (ns.map .int)), some (.bl held), some (.int x0), some (.int unit), some (.int x1), some (.ref W), some (.ref hB.length), a, b] /\ RowT h' hB.length ys rs /\ rs.length = n /\ Dr (x1 / 7) unit rs /\ (held = false -> ∀ r ∈ rs, r.2 = []))
   (λ _ _ _ _ => trivial) ?_ ?_ ⟨[], [], [], none, none, rfl, rfl, ⟨rfl, λ i y r a b => by simp at a⟩, rfl, ⟨hu1, hu2, by simp, rfl⟩, by simp⟩
  ·rintro n hn _ _ ⟨ys, rs, g, a, b, rfl, rfl, w, ln, D, hr⟩
   rw [Jgx]
   rw [Jac] at hn
   have hn6 : n < 6 := by omega
   have cc := λ (h : IH) => Jly (k := k + 2) (h := h) ns (2 + (0 + (n : Int))) (by omega)
   generalize ns.getD (2 + (0 + (n : Int))).toNat 0 = y at cc
   have m7 : Jb1 7 (0 + (n : Int)) := .inl (by decide)
   have gW' : (hB ++ L3.IO.lst ys :: g)[W]? = some (.lst (ws.map .str)) := grow gW
   simp! [Ji7, cc, m7]
   refine WR.mono (Jy1 (k := k + 1) hu1 hu2 gW' hw nd lw) ?_
   rintro _ h3 ⟨⟨g3, rfl⟩, r, q, f, rfl, hq, gq, hz⟩
   have e3 : hB ++ L3.IO.lst ys :: g ++ g3 = hB ++ L3.IO.lst ys :: (g ++ g3) := by simp
   rw [Jo8 (i := hB.length) (h1 := hB ++ L3.IO.lst ys :: g ++ g3) rfl (by rw [e3]; exact Jp) Jjr]
   simp! [l7, show (0 : Int) < 7 by decide]
   rw [show (0 + (n : Int)) = (n : Int) by omega]
   refine WR.mono (Jwq (k := k + 2) (x1 / 7) n) ?_
   rintro _ _ ⟨rfl, g4, rfl⟩
   have e4 : hB ++ L3.IO.lst ys :: g ++ g3 ++ g4 = hB ++ L3.IO.lst ys :: (g ++ g3 ++ g4) := by simp
   have kB : KpB hB.length (hB ++ L3.IO.lst ys :: g) (hB ++ L3.IO.lst ys :: (g ++ g3 ++ g4)) := λ j o _ z => by rw [<- e4]; exact grow (grow z)
   have w4 := w.kpb kB
   have gq4 : (hB ++ L3.IO.lst ys :: (g ++ g3 ++ g4))[q]? = some (.lst (r.2.map tupH)) := by rw [<- e4]; exact grow gq
   have hq' : q ≠ hB.length := by rw [List.length_append, List.length_cons] at hq; omega
   have ly : ys.length <= 6 := by have := w.len; omega
   rw [e4]
   simp only [Jo]
   rw [if_pos ⟨by simp, by simp, by simp; omega⟩]
   simp! [Jjd, Jp, Jh8, List.length_cons, List.length_nil]
   refine ⟨by omega, by omega, ys ++ [tp6 ⟨{ r.1 with name := wd (x1 / 7) n }, r.2⟩ q], rs ++ [⟨{ r.1 with name := wd (x1 / 7) n }, r.2⟩], g ++ g3 ++ g4, _, _, rfl, rfl, ?_, by simp [ln], ⟨hu1, hu2, ?_, ?_⟩, ?_⟩
   ·have kC : KpB hB.length (hB ++ L3.IO.lst ys :: (g ++ g3 ++ g4)) (hB ++ L3.IO.lst (ys ++ [tp6 ⟨{ r.1 with name := wd (x1 / 7) n }, r.2⟩ q]) :: (g ++ g3 ++ g4)) := λ j o hj z => by
     rw [<- Jh8 (L3.IO.lst ys), List.getElem?_set_ne (Ne.symm hj)]
     exact z
    exact (w4.kpb kC).snoc hq' (kC _ _ hq' gq4)
   ·intro s hs
    rw [List.mem_append, List.mem_singleton] at hs
    rcases hs with hs | rfl
    ·exact D.f s hs
    ·exact ⟨f.g1, f.g2, f.l1, f.l2, f.d1, f.d2, f.t1, f.t2, f.ok⟩
   ·rw [List.map_append, D.nm, List.length_append, List.length_singleton, List.range_succ, List.map_append, ln]
    rfl
   ·intro z s hs
    rw [List.mem_append, List.mem_singleton] at hs
    rcases hs with hs | rfl
    ·exact hr z s hs
    ·exact hz (hh z)
  ·rintro _ _ ⟨ys, rs, g, a, b, rfl, rfl, w, ln, D, hr⟩
   rw [Jac] at ln
   simp! [Jkq]
   have := xB.len
   exact ⟨xB.trans (.cons _ _ _), _, _, ys, rs, x1 / 7, unit, rfl, this, Jp, w, D, by omega, hr⟩
 cases held with
 | false =>
  simp! [Jf0]
  exact loop hA A [] xA gA (by simp) (by simp) (.inl rfl) (λ _ => rfl) _
 | true =>
  simp! [Jf0]
  refine WR.mono (J9 (h := hA) (xs := rngI 0 3) (chk := λ _ => True) (f := wOf (x1 / 5)) ?_ (by rw [Jac]; omega) (λ _ _ => trivial) ?_) ?_
  ·simp! [true_and]
   omega
  ·intro x hx h2 q
   obtain ⟨n, hn, rfl⟩ := List.mem_iff_getElem.mp hx
   rw [Jgx]
   simp only [List.map_cons, List.map_nil, List.getElem?_cons_succ, List.getElem?_cons_zero, Option.join_some]
   simp! [Jhb, l5, show (0 : Int) < 5 by decide]
   rw [show (0 + (n : Int)) = (n : Int) by omega]
   refine WR.mono (Jwq (k := k + 2) (x1 / 5) n) ?_
   rintro _ h3 ⟨rfl, x3⟩
   exact ⟨by simp [wOf], x3⟩
  ·rintro _ _ ⟨rfl, g, rfl⟩
   have em : (rngI 0 3).map (wOf (x1 / 5)) = ((List.range 3).map (wd (x1 / 5))).map IV.str := by
    refine List.ext_getElem (by rw [List.length_map, Jac, List.length_map, List.length_map, List.length_range]; rfl) λ i h1 h2 => ?_
    rw [List.getElem_map, Jgx, List.getElem_map, List.getElem_map, List.getElem_range]
    simp [wOf]
   rw [em]
   refine loop _ _ ((List.range 3).map (wd (x1 / 5))) (xA.trans (.cons _ _ _)) Jp (λ x hx => ?_) ?_ (.inr (by simp)) (λ z => by cases z) _
   ·obtain ⟨j, _, rfl⟩ := List.mem_map.mp hx
    exact Jwd _ j
   ·rw [List.Nodup, List.pairwise_map]
    refine (List.nodup_range (n := 3)).imp_of_mem λ {a b} ha hb hne e => hne ?_
    exact J0c (by have := List.mem_range.mp ha; omega) (by have := List.mem_range.mp hb; omega) e
end
end LW
namespace LW
open PySem L2 L3 L4
section
variable {k : Nat} {h h1 : IH} {σ : ISt}
theorem Jsw {Q : IV -> IH -> Prop} : WR (Ju7 σ h) Q = Q (.ref h.length) (h ++ [.dct []]) := rfl
theorem J1i {P : Pg} {m : Str} {n i : Nat} {o : E1} {a : A1} {kvs : List (Key × IV)} {Q : IV -> IH -> Prop} {g : IV -> List IV -> IH -> Res IV} (e : o σ h = .ok (.ref i) h1) (hl : h1[i]? = some (.dct kvs)) (hg : bmOf "dict" m n = some g) : WR (eDot P m n o a σ h) Q = WR (a σ h1) λ vs h2 => WR (g (.ref i) vs h2) Q := by
 unfold eDot
 rw [e]
 have hi : Jqo (.ref i) h1 = false := by simp [Jqo, hl]
 have ht : tyS (.ref i) h1 = "dict" := by simp [tyS, hl]
 dsimp only
 rw [hi, ht, hg]
 dsimp only
 rw [if_neg Bool.false_ne_true]
 unfold eBm
 rw [e, Je, Je8]
 have : tyOk "dict" (.ref i) h1 = true := by simp [tyOk, hl]
 rw [if_pos this, Je]
theorem Jw9 : bmOf "dict" "setdefault" 2 = some Jf8 := by kernel_rfl
theorem Jx8 {i : Nat} {kvs : List (Key × IV)} {x : Str} {v w : IV} {Q : IV -> IH -> Prop} (hi : h[i]? = some (.dct kvs)) (e : valI kvs (.inr x) = some w) : WR (Jf8 (.ref i) [.str x, v] h) Q = Q w h := by
 unfold Jf8
 simp only [hi, keyI, e]
 rfl
theorem Jye {i : Nat} {kvs : List (Key × IV)} {x : Str} {v : IV} {Q : IV -> IH -> Prop} (hi : h[i]? = some (.dct kvs)) (e : valI kvs (.inr x) = none) (hl : kvs.length < sizeLine) : WR (Jf8 (.ref i) [.str x, v] h) Q = Q v (h.set i (.dct (kvs ++ [(.inr x, v)]))) := by
 unfold Jf8
 simp only [hi, keyI, e, hl, if_true]
 rfl
end
theorem Jvk (kvs : List (Key × IV)) (k k' : Key) (v : IV) : valI (kvs ++ [(k, v)]) k' = match valI kvs k' with
  | some w => some w
  | none => if k = k' then some v else none := by
 induction kvs with
 | nil =>
  by_cases e : k = k'
  ·rw [List.nil_append, Jaf e, if_pos e]; rfl
  ·rw [List.nil_append, J8 e, if_neg e]; rfl
 | cons p r ih =>
  by_cases e : p.1 = k'
  ·rw [List.cons_append, Jaf e, Jaf e]
  ·rw [List.cons_append, J8 e, J8 e, ih]
noncomputable def has (x : Str) (hs : List Hd) : Bool := hs.any λ a => decide (a.1 = x)
noncomputable def fstK (hss : List (List Hd)) (x : Str) : Option Nat := hss.findIdx? (has x)
noncomputable def fV (o : Option Nat) : IV := match o with
 | some i => .int (i : Int)
 | none => .non
theorem Jvq (hss : List (List Hd)) (hs : List Hd) (x : Str) : fstK (hss ++ [hs]) x = match fstK hss x with
  | some i => some i
  | none => if has x hs = true then some hss.length else none := by
 unfold fstK
 rw [List.findIdx?_append]
 cases hss.findIdx? (has x) with
 | some i => rfl
 | none =>
  by_cases e : has x hs = true
  ·simp [List.findIdx?_cons, e]
  ·simp [List.findIdx?_cons, e]
theorem Jte (x : Str) (hs : List Hd) (a : Hd) : has x (hs ++ [a]) = (has x hs || decide (a.1 = x)) := by simp [has]
section
variable {k : Nat} {h : IH}
theorem dls {a : IV} : (([("works", a)] : List (Str × IV))).lookup ("size" : Str) = none := by kernel_rfl
theorem Jpz {vs : List IV} {D : Nat} (hD : h[D]? = some (.ins "Duty" (dfs vs))) : Jek (k + 1) [.ref D] h = .ok (.int vs.length) h := by
 refine Jdn ?_
 rw [Jqe]
 simp! [Jeb, Jv hD, dl0]
noncomputable def Told (kvs : List (Key × IV)) (hss : List (List Hd)) (n : Nat) (hs : List Hd) : Prop := ∀ x, valI kvs (.inr x) = match fstK hss x with
 | some i => some (.int (i : Int))
 | none => if has x hs = true then some (.int (n : Int)) else none
theorem Told.next {kvs : List (Key × IV)} {hss : List (List Hd)} {hs : List Hd} {n : Nat} (t : Told kvs hss n hs) (hn : hss.length = n) : Told kvs (hss ++ [hs]) (n + 1) [] := λ x => by
 subst hn
 rw [t x, Jvq]
 cases fstK hss x with
 | some i => rfl
 | none =>
  by_cases e : has x hs = true
  ·simp only [e, if_true]
  ·simp only [e]; rfl
theorem Told.old {kvs : List (Key × IV)} {hss : List (List Hd)} {n : Nat} {hs : List Hd} {a : Hd} {w : IV} (t : Told kvs hss n hs) (e : valI kvs (.inr a.1) = some w) : Told kvs hss n (hs ++ [a]) := λ x => by
 rw [t x]
 cases ef : fstK hss x with
 | some i => rfl
 | none =>
  dsimp only
  rw [Jte]
  by_cases ea : a.1 = x
  ·have := t x
   rw [<- ea, e, ea, ef] at this
   dsimp only at this
   by_cases q : has x hs = true
   ·simp [q]
   ·rw [if_neg q] at this
    cases this
  ·simp [ea]
theorem Told.new {kvs : List (Key × IV)} {hss : List (List Hd)} {n : Nat} {hs : List Hd} {a : Hd} (t : Told kvs hss n hs) (e : valI kvs (.inr a.1) = none) : Told (kvs ++ [(.inr a.1, .int (n : Int))]) hss n (hs ++ [a]) := λ x => by
 rw [Jvk, t x]
 cases ef : fstK hss x with
 | some i => rfl
 | none =>
  dsimp only
  rw [Jte]
  by_cases q : has x hs = true
  ·simp [q]
  ·by_cases ea : a.1 = x
   ·simp [q, ea]
   ·have : ¬ ((.inr a.1 : Key) = .inr x) := λ z => ea (Sum.inr.inj z)
    simp [q, ea]
theorem Jsg {vs : List IV} {rs : List RH} {D : Nat} (hD : h[D]? = some (.ins "Duty" (dfs vs))) (w : AllH h vs rs) (hl : rs.length <= 12) (h6 : ∀ r ∈ rs, r.2.length <= 6) :
  WR (Jby (k + 2) [.ref D] h) λ v h' => ∃ i kvs, v = .ref i /\ h'[i]? = some (.dct kvs) /\ (∀ x, (valI kvs (.inr x)).getD .non = fV (fstK (rs.map (·.2)) x)) /\ Ex h h' := by
 have hb := Jd
 have wl := w.len
 rw [Jmn]
 simp! +ground [Jck, Jgd, Jsw]
 rw [Jaa (i := D) (h1 := h ++ [.dct []]) rfl (grow hD) dls (Jk5 _)]
 simp! +ground [Jpz (grow hD)]
 refine ⟨by omega, ?_⟩
 refine Ja5 (λ n σ h' => ∃ kvs g a b, h' = h ++ L3.IO.dct kvs :: g /\ σ = [some (.ref D), some (.ref h.length), a, b] /\ kvs.length <= 6 * n /\ Told kvs ((rs.map (·.2)).take n) n []) (λ _ _ _ _ => trivial) ?_ ?_ ⟨[], [], none, none, rfl, rfl, by simp, λ x => by simp [valI, fstK, has]⟩
 ·rintro n hn _ _ ⟨kvs, g, a, b, rfl, rfl, ln, td⟩
  rw [Jgx]
  rw [Jac] at hn
  have hn' : n < rs.length := by omega
  have en : (0 : Int) + (n : Int) = n := by omega
  obtain ⟨j, ej, gj⟩ := w.at_ n _ _ (List.getElem?_eq_getElem (by omega)) (List.getElem?_eq_getElem hn')
  have av : atI vs (n : Int) = some (.ref j) := Jax (by rw [List.getElem?_eq_getElem (by omega), ej])
  have hl6 := h6 _ (List.getElem_mem hn')
  have hm : n < (rs.map (·.2)).length := by rw [List.length_map]; exact hn'
  have tk : (rs.map (·.2)).take (n + 1) = (rs.map (·.2)).take n ++ [(rs[n]).2] := by rw [List.take_succ_eq_append_getElem hm, List.getElem_map]
  rw [tk]
  generalize rs[n] = r at gj hl6
  simp! +ground [en, Jel]
  have x1 : Ex h (h ++ L3.IO.dct kvs :: g) := .cons _ _ _
  have ed : eDot (pg (k + 1)) "work" 1 (eVar 0) (Ja (eVar 2) aNil) [some (IV.ref D), some (IV.ref h.length), some (IV.int (n : Int)), b] (h ++ L3.IO.dct kvs :: g) = .ok (.ref j) (h ++ L3.IO.dct kvs :: g) := by
   refine Jdn ?_
   rw [Jaa (i := D) (h1 := h ++ L3.IO.dct kvs :: g) rfl (x1.get hD) dlw (Jbi _)]
   simp! +ground [Jf3 (x1.get hD) av]
  rw [Jaa (i := j) (h1 := h ++ L3.IO.dct kvs :: g) ed (x1.get gj) flh (Je6 _)]
  simp! +ground [Jmu (x1.get gj), Jak, Jj]
  generalize r.2 = hs at hl6
  refine Ja5 (λ m σ h' => ∃ kvs' b', h' = h ++ L3.IO.dct kvs' :: (g ++ [L3.IO.lst (hs.map tupH)]) /\ σ = [some (.ref D), some (.ref h.length), some (.int (n : Int)), b'] /\ kvs'.length <= 6 * n + m /\ Told kvs' ((rs.map (·.2)).take n) n (hs.take m)) ?_ ?_ ?_ ⟨kvs, b, by rw [List.append_assoc, List.cons_append], rfl, by omega, td⟩
  ·rintro _ _ _ ⟨kvs', b', rfl, _⟩
   rw [show h ++ L3.IO.dct kvs' :: (g ++ [L3.IO.lst (hs.map tupH)]) = (h ++ L3.IO.dct kvs' :: g) ++ [L3.IO.lst (hs.map tupH)] by rw [List.append_assoc, List.cons_append],
    show (h ++ L3.IO.dct kvs :: g).length = (h ++ L3.IO.dct kvs' :: g).length by simp]
   exact Jj
  ·rintro m hm _ _ ⟨kvs', b', rfl, rfl, lm, tm⟩
   have hm' : m < hs.length := by simpa using hm
   rw [List.getElem_map, List.take_succ_eq_append_getElem hm']
   generalize hs[m] = a at *
   simp! +ground [Jim]
   rw [J1i (i := h.length) (h1 := h ++ L3.IO.dct kvs' :: (g ++ [L3.IO.lst (hs.map tupH)])) rfl Jp Jw9]
   simp! +ground [tupH]
   cases ev : valI kvs' (.inr a.1) with
   | some w' =>
    rw [Jx8 Jp ev]
    exact ⟨kvs', _, rfl, rfl, by omega, tm.old ev⟩
   | none =>
    rw [Jye Jp ev (by omega), Jh8]
    exact ⟨_, _, rfl, rfl, by rw [List.length_append, List.length_singleton]; omega, tm.new ev⟩
  ·rintro _ _ ⟨kvs', b', rfl, rfl, lm, tm⟩
   rw [List.length_map] at lm tm
   rw [List.take_of_length_le (Nat.le_refl _)] at tm
   have ltn : ((rs.map (·.2)).take n).length = n := by rw [List.length_take]; omega
   exact ⟨kvs', _, _, _, rfl, rfl, by omega, tm.next ltn⟩
 ·rintro _ _ ⟨kvs, g, a, b, rfl, rfl, ln, td⟩
  simp! +ground [Jfy]
  refine ⟨_, kvs, rfl, Jp, λ x => ?_, .cons _ _ _⟩
  have := td x
  rw [Jac, List.take_of_length_le (by rw [List.length_map]; omega)] at this
  rw [this]
  cases fstK (rs.map (·.2)) x with
  | some i => rfl
  | none => simp [has, fV]
end
end LW
namespace LW
open PySem L2 L3 L4
section
variable {k : Nat} {h : IH}
theorem Js0 (kvs : List (Key × IV)) (k k' : Key) (v : IV) : valI (putD kvs k v) k' = if k = k' then some v else valI kvs k' := by
 unfold putD
 have any_iff : ∀ l : List (Key × IV), (l.any λ kv => decide (kv.1 = k)) = (valI l k).isSome := by
  intro l
  induction l with
  | nil => rfl
  | cons p r ih =>
   rw [List.any_cons, ih]
   by_cases e : p.1 = k
   ·rw [Jaf e]; simp [e]
   ·rw [J8 e]; simp [e]
 split
 ·rename_i ha
  have key : ∀ l : List (Key × IV), valI (l.map λ kv => if kv.1 = k then (kv.1, v) else kv) k' = if k = k' then (if (valI l k).isSome then some v else none) else valI l k' := by
   intro l
   induction l with
   | nil => by_cases e : k = k' <;> simp [valI]
   | cons p r ih =>
    rw [List.map_cons]
    by_cases e : p.1 = k
    ·rw [if_pos e]
     by_cases e2 : k = k'
     ·rw [Jaf (by rw [<- e2]; exact e), if_pos e2, Jaf e]; rfl
     ·rw [J8 (by rw [e]; exact e2), ih, if_neg e2, if_neg e2, J8 (by rw [e]; exact e2)]
    ·rw [if_neg e]
     by_cases e2 : p.1 = k'
     ·have : ¬ k = k' := λ z => e (e2.trans z.symm)
      rw [Jaf e2, if_neg this, Jaf e2]
     ·rw [J8 e2, ih, J8 e, J8 e2]
  rw [key, <- any_iff, ha]
  simp
 ·rename_i ha
  have hn : valI kvs k = none := by
   have := any_iff kvs
   cases q : valI kvs k with
   | none => rfl
   | some z => rw [q] at this; exact absurd this ha
  have key : ∀ l : List (Key × IV), valI (l ++ [(k, v)]) k' = match valI l k' with
    | some w => some w
    | none => if k = k' then some v else none := by
   intro l
   induction l with
   | nil =>
    by_cases e : k = k'
    ·rw [List.nil_append, Jaf e, if_pos e]; rfl
    ·rw [List.nil_append, J8 e, if_neg e]; rfl
   | cons p r ih =>
    by_cases e : p.1 = k'
    ·rw [List.cons_append, Jaf e, Jaf e]
    ·rw [List.cons_append, J8 e, J8 e, ih]
  rw [key]
  by_cases e : k = k'
  ·subst e; rw [hn, if_pos rfl]
  ·rw [if_neg e, if_neg e]; cases valI kvs k' <;> rfl
theorem J35 {i : Nat} {kvs : List (Key × IV)} {x : Int} {Q : IV -> IH -> Prop} (hi : h[i]? = some (.dct kvs)) : WR (cInD (.int x) (.ref i) h) Q = Q (.bl (valI kvs (.inl x)).isSome) h := by
 unfold cInD
 simp only [hi, keyI]
 rfl
theorem J5t {i : Nat} {kvs : List (Key × IV)} {x : Int} {v : IV} {Q : IV -> IH -> Prop} (hi : h[i]? = some (.dct kvs)) (e : valI kvs (.inl x) = some v) : WR (Jox (.ref i) (.int x) h) Q = Q v h := by
 unfold Jox
 simp only [hi, keyI, e]
 rfl
theorem J22 {σ : ISt} {N : ISt -> IH -> Prop} {R : IV -> IH -> Prop} (o i : E1) (v : IV) : WS (gSbD o i v σ h) N R = WR (o σ h) λ ov h1 => WR (i σ h1) λ iv h2 => WS (Jv2 ov iv v σ h2) N R := by
 unfold gSbD
 rw [Jdj]
 congr 1
 funext ov h1
 rw [Jdj]
theorem Jyy {σ : ISt} {i : Nat} {kvs : List (Key × IV)} {x : Int} {v : IV} {N : ISt -> IH -> Prop} {R : IV -> IH -> Prop} (hi : h[i]? = some (.dct kvs)) (hl : kvs.length < sizeLine) : WS (Jv2 (.ref i) (.int x) v σ h) N R = N σ (h.set i (.dct (putD kvs (.inl x) v))) := by
 unfold Jv2
 simp only [hi, keyI, hl, if_true]
 rfl
end
end LW
namespace LW
open PySem L2 L3 L4
theorem Jyq {α : Type} {x y z u v w : α} {xs : List α} : atI (x :: y :: z :: u :: v :: w :: xs) 5 = some w := Jax (n := 5) rfl
noncomputable def dH (a : Hd) : PyData := .tuple [.str a.1, .int a.2.1, .int a.2.2]
noncomputable def dR (r : RH) : PyData := .tuple [.str r.1.name, .int r.1.gap, .int r.1.len, .int r.1.due, .int r.1.late, .list (r.2.map dH)]
theorem Jxe {x : Str} (q : IsNm x) : PyData.canLay0 (.str x) = true := by
 simp only [PyData.canLay0]
 unfold PyData.strOk
 rw [<- Array.all_toList, List.all_eq_true]
 intro c hc
 have := q.2.2 c hc
 simp only [decide_eq_true_eq]
 omega
theorem J40 {hs : List Hd} (q : ∀ a ∈ hs, IsNm a.1) : PyData.canLayAll0 (hs.map dH) = true := by
 induction hs with
 | nil => rfl
 | cons a hs ih =>
  have e : PyData.canLay0 (dH a) = true := by
   have := Jxe (q a (List.mem_cons_self ..))
   simp only [dH, PyData.canLay0, PyData.canLayAll0] at this ⊢
   rw [this]
   rfl
  rw [List.map_cons, PyData.canLayAll0, e, ih λ b hb => q b (List.mem_cons_of_mem _ hb)]
  rfl
theorem J3y {rs : List RH} (q : ∀ r ∈ rs, IsNm r.1.name /\ ∀ a ∈ r.2, IsNm a.1) : PyData.canLayAll0 (rs.map dR) = true := by
 induction rs with
 | nil => rfl
 | cons r rs ih =>
  have e : PyData.canLay0 (dR r) = true := by
   have h1 := Jxe (q r (List.mem_cons_self ..)).1
   have h2 := J40 (q r (List.mem_cons_self ..)).2
   simp only [dR, PyData.canLay0, PyData.canLayAll0] at h1 ⊢
   rw [h1, h2]
   rfl
  rw [List.map_cons, PyData.canLayAll0, e, ih λ b hb => q b (List.mem_cons_of_mem _ hb)]
  rfl
theorem d_hs' {h : IH} {q n : Nat} {hs : List Hd} (e : h[q]? = some (.lst (hs.map tupH))) : toD h (n + 3) (.ref q) = some (.list (hs.map dH)) := by
 have : ∀ hs : List Hd, (hs.map tupH).mapM (toD h (n + 2)) = some (hs.map dH) := by
  intro hs
  induction hs with
  | nil => rfl
  | cons a r ih => rw [List.map_cons, List.mapM_cons, ih]; rfl
 rw [Jfl e, this]
 rfl
theorem d_row {h : IH} {lo : Nat} {ys : List IV} {rs : List RH} (w : RowT h lo ys rs) : ys.mapM (toD h 5) = some (rs.map dR) := by
 obtain ⟨wl, at_⟩ := w
 induction ys generalizing rs with
 | nil => cases rs with | nil => rfl | cons _ _ => simp at wl
 | cons y ys ih =>
  cases rs with
  | nil => simp at wl
  | cons r rs =>
   obtain ⟨q, e, _, g⟩ := at_ 0 y r rfl rfl
   have ed : toD h 5 y = some (dR r) := by
    rw [e]
    show ((IV.str r.1.name :: tp5 r q).mapM (toD h 4)).map PyData.tuple = some (dR r)
    simp only [List.mapM_cons, List.mapM_nil, d_hs' (n := 1) g]
    rfl
   rw [List.mapM_cons, ed, ih (rs := rs) (by simpa using wl) λ i y' r' a b => at_ (i + 1) y' r' a b]
   rfl
structure Cm where
 at_ : Nat
 come : Int
 late : Int
 len : Int
noncomputable abbrev tupC (c : Cm) : IV := .tup [.int c.at_, .int c.come, .int c.late, .int c.len]
structure COk (rs : List RH) (c : Cm) : Prop where
 at_ : c.at_ < rs.length
 come : 0 <= c.come
 l0 : 0 <= c.late
 l1 : c.late <= (rs[c.at_]).1.late
 n1 : 1 <= c.len
 n2 : c.len <= (rs[c.at_]).1.len
structure Legal (rs : List RH) (cs : List Cm) : Prop where
 ok : ∀ c ∈ cs, COk rs c
 far : ∀ (i j : Nat) (a b : Cm), i < j -> cs[i]? = some a -> cs[j]? = some b -> a.at_ = b.at_ -> ∀ r, rs[a.at_]? = some r -> a.come + r.1.gap <= b.come
structure Lst (kvs : List (Key × IV)) (cs : List Cm) : Prop where
 no : ∀ n : Nat, valI kvs (.inl (n : Int)) = none -> ∀ c ∈ cs, c.at_ ≠ n
 yes : ∀ (n : Nat) v, valI kvs (.inl (n : Int)) = some v -> ∃ x, v = .int x /\ 0 <= x /\ ∀ c ∈ cs, c.at_ = n -> c.come <= x
noncomputable def gOf (v : IV) : IV := match v with
 | .tup (_ :: g :: _) => g
 | _ => .non
theorem RowT.mapG {h : IH} {lo : Nat} {ys : List IV} {rs : List RH} (w : RowT h lo ys rs) {F : IV -> IV} {g : RH -> IV} (hf : ∀ r q, F (tp6 r q) = g r) : ys.map F = rs.map g := by
 have wl := w.len
 refine List.ext_getElem (by simp [wl]) λ i h1 h2 => ?_
 rw [List.length_map] at h1 h2
 rw [List.getElem_map, List.getElem_map]
 obtain ⟨q, e, _, _⟩ := w.at_ i _ _ (List.getElem?_eq_getElem h1) (List.getElem?_eq_getElem h2)
 rw [e]
 exact hf _ q
structure RI (h h' : IH) (cs : List Cm) (kvs : List (Key × IV)) : Prop where
 r : h'[h.length]? = some (.lst (cs.map tupC))
 d : h'[h.length + 1]? = some (.dct kvs)
 kp : Kp h h'
theorem RI.ex {h h1 h2 : IH} {cs : List Cm} {kvs : List (Key × IV)} (R : RI h h1 cs kvs) (x : Ex h1 h2) : RI h h2 cs kvs := ⟨x.get R.r, x.get R.d, R.kp.trans x.kp⟩
theorem J3i {h h' : IH} (k : Kp h h') : Ex h h' := by
 refine ⟨h'.drop h.length, List.ext_getElem? λ i => ?_⟩
 by_cases hi : i < h.length
 ·rw [List.getElem?_append_left hi, List.getElem?_eq_getElem hi]
  exact k i _ (List.getElem?_eq_getElem hi)
 ·rw [List.getElem?_append_right (by omega), List.getElem?_drop]
  congr 1
  omega
theorem RI.ex0 {h h1 : IH} {cs : List Cm} {kvs : List (Key × IV)} (R : RI h h1 cs kvs) : Ex h h1 := J3i R.kp
section
variable {k : Nat} {h : IH}
theorem Jso {S j lo : Nat} {ys : List IV} {rs : List RH} (hS : h[S]? = some (.lst ys)) (w : RowT h lo ys rs) (q : ∀ r ∈ rs, IsNm r.1.name /\ ∀ a ∈ r.2, IsNm a.1) (hj : h[j]? = some (.lst [])) : cEq (.ref S) (.ref j) h = .ok (.bl rs.isEmpty) h := by
 have e1 : toD h 6 (.ref S) = some (.list (rs.map dR)) := by rw [Jfl hS, d_row w]; rfl
 have e2 : toD h 6 (.ref j) = some (.list []) := by rw [Jfl hj]; rfl
 have e3 : Jie (.ref S) (.ref j) h = some rs.isEmpty := by
  unfold Jie
  rw [e1, e2]
  dsimp only
  rw [if_pos ⟨by rw [PyData.canLay0]; exact J3y q, by rw [PyData.canLay0, PyData.canLayAll0]⟩, PyData.eqv]
  cases rs with
  | nil => rw [List.map_nil, PyData.eqvAll]; rfl
  | cons a as => rw [List.map_cons, PyData.eqvAll]; rfl; all_goals intros; simp_all
 unfold cEq
 have e4 : Jjw (.ref S) (.ref j) = none := rfl
 rw [e4]
 dsimp only
 rw [e3]
theorem J1m {i : Nat} {ms : List Int} {Q : IV -> IH -> Prop} (hi : h[i]? = some (.lst (ms.map .int))) (hm : ms ≠ []) : WR (Juc (.ref i) h) Q = Q (.int (Jcf (λ i => ms.getD i 0) ms.length)) h := by
 unfold Juc
 simp only [hi, Jgf, hm, if_false]
 rfl
theorem pkW {l y1 y2 : Int} (f3 : 0 <= l) : ∃ x : Int, atI [IV.int l, IV.int 0, IV.int (y1 % (l + 1))] (y2 % 3) = some (.int x) /\ 0 <= x /\ x <= l := by
 have w1 := Int.emod_nonneg y1 (b := l + 1) (by omega)
 have w2 := Int.emod_lt_of_pos y1 (b := l + 1) (by omega)
 have : y2 % 3 = 0 ∨ y2 % 3 = 1 ∨ y2 % 3 = 2 := by omega
 rcases this with q | q | q <;> rw [q]
 ·exact ⟨_, Jfj, by omega, by omega⟩
 ·exact ⟨_, Jfk, by omega, by omega⟩
 ·exact ⟨_, Jh7, by omega, by omega⟩
theorem pkS {g y3 y4 : Int} (f : 0 < g) : ∃ x : Int, atI [IV.int 0, IV.int (y3 % g), IV.int (0 - y3 % g)] (y4 % 3) = some (.int x) /\ 0 - g < x /\ x < g := by
 have v1 := Int.emod_nonneg y3 (b := g) (by omega)
 have v2 := Int.emod_lt_of_pos y3 (b := g) (by omega)
 have : y4 % 3 = 0 ∨ y4 % 3 = 1 ∨ y4 % 3 = 2 := by omega
 rcases this with q | q | q <;> rw [q]
 ·exact ⟨_, Jfj, by omega, by omega⟩
 ·exact ⟨_, Jfk, by omega, by omega⟩
 ·exact ⟨_, Jh7, by omega, by omega⟩
theorem pkM {g y3 y4 : Int} (f : 0 < g) : ∃ x : Int, atI [IV.int 0, IV.int (y3 % (1 + g))] (y4 % 2) = some (.int x) /\ 0 <= x := by
 have v3 := Int.emod_nonneg y3 (b := 1 + g) (by omega)
 have : y4 % 2 = 0 ∨ y4 % 2 = 1 := by omega
 rcases this with q | q <;> rw [q]
 ·exact ⟨_, Jfj, by omega⟩
 ·exact ⟨_, Jfk, by omega⟩
theorem pkL {l y4 y5 : Int} (f : 1 <= l) : ∃ x : Int, atI [IV.int l, IV.int l, IV.int (1 + y5 % l)] (y4 / 6 % 3) = some (.int x) /\ 1 <= x /\ x <= l := by
 have s1 := Int.emod_nonneg y5 (b := l) (by omega)
 have s2 := Int.emod_lt_of_pos y5 (b := l) (by omega)
 have : y4 / 6 % 3 = 0 ∨ y4 / 6 % 3 = 1 ∨ y4 / 6 % 3 = 2 := by omega
 rcases this with q | q | q <;> rw [q]
 ·exact ⟨_, Jfj, by omega, by omega⟩
 ·exact ⟨_, Jfk, by omega, by omega⟩
 ·exact ⟨_, Jh7, by omega, by omega⟩
theorem J50 {S C lo : Nat} {cells : List Int} {ys : List IV} {rs : List RH} {c unit : Int} (hS : h[S]? = some (.lst ys)) (w : RowT h lo ys rs) (D : Dr c unit rs) (hr : rs.length <= 7) (hC : h[C]? = some (.lst (cells.map .int))) (hc : cells.length <= 64) :
  WR (Jii (k + 2) [.ref C, .ref S] h) λ v h' => ∃ R cs, v = .ref R /\ h.length <= R /\ h'[R]? = some (.lst (cs.map tupC)) /\ Legal rs cs /\ cs.length <= cells.length /\ Ex h h' := by
 have hb := Jd
 have wl := w.len
 have G := D.gd hr
 have nmq : ∀ r ∈ rs, IsNm r.1.name /\ ∀ a ∈ r.2, IsNm a.1 := λ r hr => ⟨(G.f r hr).nm, λ a ha => ((G.f r hr).ok.each a ha).1⟩
 rw [Jts]
 have x1 : Ex h (h ++ [L3.IO.lst []] ++ [L3.IO.dct []] ++ [L3.IO.lst []]) := (Ex.one _ _).trans ((Ex.one _ _).trans (.one _ _))
 simp! [Jh3, Jm9, Jnc, Jsw, List.length_nil, Nat.zero_le, Jso (x1.get hS) (w.kp x1.kp) nmq Jj]
 cases rs with
 | nil =>
  simp! [List.isEmpty_nil]
  exact ⟨_, [], rfl, Nat.le_refl _, grow (grow Jj), ⟨by simp, λ i j a b _ e => by simp at e⟩, by simp, x1⟩
 | cons r0 rs0 =>
 have ne : (r0 :: rs0).isEmpty = false := rfl
 have pos : 0 < (r0 :: rs0).length := by simp
 generalize r0 :: rs0 = rs at *
 simp! [ne, Jmv]
 have gm := w.mapG (F := gOf) (g := λ r => IV.int r.1.gap) λ r q => rfl
 have x1S := x1.get hS
 refine WR.mono (J9 (h := h ++ [L3.IO.lst []] ++ [L3.IO.dct []] ++ [L3.IO.lst []]) (xs := ys) (chk := λ h' => h'[S]? = some (.lst ys)) (f := gOf) ?_ (by omega) (λ h2 q => q _ _ x1S) ?_) ?_
 ·simp! [Jak, x1S]
 ·intro v hv h2 q
  obtain ⟨n, hn, rfl⟩ := List.mem_iff_getElem.mp hv
  obtain ⟨q, e, _, _⟩ := w.at_ n _ _ (List.getElem?_eq_getElem hn) (List.getElem?_eq_getElem (show n < rs.length by omega))
  rw [e]
  simp! [Jil]
  exact ⟨rfl, .refl _⟩
 rintro _ _ ⟨rfl, g, rfl⟩
 rw [gm]
 have em : rs.map (λ r => IV.int r.1.gap) = (rs.map λ r => r.1.gap).map IV.int := by simp
 rw [em]
 have hm : (rs.map λ r => r.1.gap) ≠ [] := λ e => by
  rw [List.map_eq_nil_iff] at e
  rw [e] at pos
  simp at pos
 have x2 : Ex (h ++ [L3.IO.lst []] ++ [L3.IO.dct []] ++ [L3.IO.lst []]) (h ++ [L3.IO.lst []] ++ [L3.IO.dct []] ++ [L3.IO.lst []] ++ L3.IO.lst ((rs.map λ r => r.1.gap).map IV.int) :: g) := .cons _ _ _
 rw [J1m Jp hm]
 have top : ∀ r ∈ rs, r.1.gap <= Jcf (λ i => (rs.map λ r => r.1.gap).getD i 0) (rs.map λ r => r.1.gap).length := λ r hr => by
  obtain ⟨j, hj, rfl⟩ := List.mem_iff_getElem.mp hr
  have := Jz7 (λ i => (rs.map λ r => r.1.gap).getD i 0) (rs.map λ r => r.1.gap).length j (by simpa using hj)
  have e : (rs.map λ r => r.1.gap).getD j 0 = (rs[j]).1.gap := by rw [List.getD_eq_getElem?_getD, List.getElem?_map, List.getElem?_eq_getElem hj]; rfl
  rw [<- e]
  exact this
 generalize Jcf (λ i => (rs.map λ r => r.1.gap).getD i 0) (rs.map λ r => r.1.gap).length = T at top
 have m3 : Jb1 3 T := .inl (by decide)
 have gR : (h ++ [L3.IO.lst []] ++ [L3.IO.dct []] ++ [L3.IO.lst []] ++ L3.IO.lst ((rs.map λ r => r.1.gap).map IV.int) :: g)[h.length]? = some (.lst []) := x2.get (grow (grow Jj))
 have gD : (h ++ [L3.IO.lst []] ++ [L3.IO.dct []] ++ [L3.IO.lst []] ++ L3.IO.lst ((rs.map λ r => r.1.gap).map IV.int) :: g)[(h ++ [L3.IO.lst []]).length]? = some (.dct []) := x2.get (grow Jj)
 have lD : (h ++ [L3.IO.lst []]).length = h.length + 1 := by simp
 rw [lD] at gD ⊢
 have k2 : Kp h (h ++ [L3.IO.lst []] ++ [L3.IO.dct []] ++ [L3.IO.lst []] ++ L3.IO.lst ((rs.map λ r => r.1.gap).map IV.int) :: g) := (x1.trans x2).kp
 generalize h ++ [L3.IO.lst []] ++ [L3.IO.dct []] ++ [L3.IO.lst []] ++ L3.IO.lst ((rs.map λ r => r.1.gap).map IV.int) :: g = hA at gR gD k2 ⊢
 have cl := Jbs hC
 have sl := Jbs hS
 simp! [m3, Jmz, Jak, k2 _ _ hC]
 refine Ja5 (λ n σ h' => ∃ cs kvs a5 a6 a7 a8 a9 a10 a11 a12 a13 a14 a15, RI h h' cs kvs /\ σ = [some (.ref C), some (.ref S), some (.ref h.length), some (.ref (h.length + 1)), some (.int (3 * T)), a5, a6, a7, a8, a9, a10, a11, a12, a13, a14, a15] /\ cs.length = n /\ kvs.length <= n /\ Legal rs cs /\ Lst kvs cs)
  (λ n σ h' ⟨_, _, _, _, _, _, _, _, _, _, _, _, _, R, _⟩ => R.kp _ _ hC) ?_ ?_ ⟨[], [], none, none, none, none, none, none, none, none, none, none, none, ⟨gR, gD, k2⟩, rfl, rfl, Nat.le_refl _, ⟨by simp, λ i j a b _ e => by simp at e⟩, ⟨by simp, λ n v e => by cases e⟩⟩
 ·rintro n hn _ h1 ⟨cs, kvs, a5, a6, a7, a8, a9, a10, a11, a12, a13, a14, a15, R, rfl, lc, lk, L, Z⟩
  rw [List.length_map] at hn
  simp only [List.getElem_map]
  generalize cells[n] = y
  simp! [Jk1]
  refine WR.mono (Jq0 (k := k) y 6 (by decide)) ?_
  rintro _ h2 ⟨X, xs, rfl, _, gX, lx, hx, e2⟩
  have R := R.ex e2
  match xs, lx, gX, hx with
  | [y0, y1, y2, y3, y4, y5], _, gX, hx =>
  have z1 := (hx y1 (by simp)).1
  have z3 := (hx y3 (by simp)).1
  have z4 := (hx y4 (by simp)).1
  have z5 := (hx y5 (by simp)).1
  clear hx
  simp only [List.map_cons, List.map_nil] at gX
  have pl' : (0 : Int) < (rs.length : Int) := by omega
  obtain ⟨m, em⟩ : ∃ m : Nat, y0 % (rs.length : Int) = m := ⟨(y0 % (rs.length : Int)).toNat, by have := Int.emod_nonneg y0 (b := (rs.length : Int)) (by omega); omega⟩
  have hm' : m < rs.length := by have := Int.emod_lt_of_pos y0 pl'; omega
  have er := List.getElem?_eq_getElem hm'
  have f := D.f _ (List.getElem_mem hm')
  have tg := top _ (List.getElem_mem hm')
  generalize hrr : rs[m] = r at er f tg
  obtain ⟨q, ey, _⟩ := w.get er
  have ay : atI ys (m : Int) = some (tp6 r q) := Jax ey
  have gS2 := R.kp _ _ hS
  have f1 := f.g1
  have f2 := f.l1
  have f3 := f.t1
  have f4 := f.t2
  have u1 := D.u1
  obtain ⟨wt, ew, wt1, wt2⟩ := pkW (y1 := y1) (y2 := y2) f3
  have g0 : 0 < r.1.gap := by omega
  obtain ⟨sh, es, sh1, sh2⟩ := pkS (y3 := y3) (y4 := y4) g0
  obtain ⟨mo, eo, mo1⟩ := pkM (y3 := y3) (y4 := y4) g0
  obtain ⟨ll, el, ll1, ll2⟩ := pkL (y4 := y4) (y5 := y5) f2
  have lg6 : (Int.natAbs 6).log2 < 9000 := by decide
  have gX1 : ∀ a, (h2 ++ a)[X]? = _ := λ a => grow gX
  have gX2 : ∀ a b, (h2 ++ a ++ b)[X]? = _ := λ a b => grow (gX1 a)
  -- the last steps: the dict, the row
  have last : ∀ (h3 : IH) (come : Int) (a13 : Option IV), Ex h2 h3 -> 0 <= come -> (∀ c ∈ cs, c.at_ = m -> c.come + r.1.gap <= come) -> ∀ Rr : IV -> IH -> Prop,
    WS (sSeq (sAsg (eVar 15) (gSbD (eVar 3) (eVar 7))) (Jgq (eDot (pg (k + 1)) "append" 1 (eVar 2) (Ja (eTup (Ja (eVar 7) (Ja (eVar 15) (Ja (eVar 14) (Ja (eBin opIx (eLst (Ja (eVar 10) (Ja (eVar 10) (Ja (eBin Jo (eC (.int 1)) (eBin Ju (eBin opIx (eVar 6) (eC (.int 5))) (eVar 10))) aNil)))) (eBin Ju (eBin Jaj (eBin opIx (eVar 6) (eC (.int 4))) (eC (.int 6))) (eC (.int 3)))) aNil))))) aNil)))
     [some (.ref C), some (.ref S), some (.ref h.length), some (.ref (h.length + 1)), some (.int (3 * T)), some (.int y), some (.ref X), some (.int (m : Int)), some (.str r.1.name), some (.int r.1.gap), some (.int r.1.len), some (.int r.1.due), some (.int r.1.late), a13, some (.int wt), some (.int come)] h3)
     (λ σ h' => ∃ cs kvs a5 a6 a7 a8 a9 a10 a11 a12 a13 a14 a15, RI h h' cs kvs /\ σ = [some (.ref C), some (.ref S), some (.ref h.length), some (.ref (h.length + 1)), some (.int (3 * T)), a5, a6, a7, a8, a9, a10, a11, a12, a13, a14, a15] /\ cs.length = n + 1 /\ kvs.length <= n + 1 /\ Legal rs cs /\ Lst kvs cs) Rr := by
   intro h3 come a13 x3 c0 cf Rr
   have R3 := R.ex x3
   have ld : h.length + 1 < h3.length := Jbs R3.d
   simp! [J22, Jyy R3.d (show kvs.length < sizeLine by omega)]
   generalize hh4 : h3.set (h.length + 1) (.dct (putD kvs (.inl (m : Int)) (.int come))) = h4
   have kd : KpB (h.length + 1) h3 h4 := λ j o hj z => by rw [<- hh4, List.getElem?_set_ne (Ne.symm hj)]; exact z
   have gd4 : h4[h.length + 1]? = some (.dct (putD kvs (.inl (m : Int)) (.int come))) := by rw [<- hh4, List.getElem?_set_self ld]
   have gr4 := kd _ _ (by omega) R3.r
   have lX := Jbs gX
   have gX4 : h4[X]? = some (.lst [.int y0, .int y1, .int y2, .int y3, .int y4, .int y5]) := by
    refine kd _ _ (λ z => ?_) (x3.get gX)
    have := x3.get gX
    rw [z, R3.d] at this
    cases this
   rw [Jo8 (i := h.length) (h1 := h4) rfl gr4 Jjr]
   simp! [Jbo, gX4, grow gX4, Jyq, Jj, lg6, show (0 : Int) < 6 by decide, show (0 : Int) < 3 by decide, show (0 : Int) < r.1.len by omega, el, List.length_cons, List.length_nil, Jjd, grow gr4, List.length_map]
   refine ⟨by omega, by omega, by omega, cs ++ [⟨m, come, wt, ll⟩], putD kvs (.inl (m : Int)) (.int come), _, _, _, _, _, _, _, _, _, _, _, ⟨?_, ?_, ?_⟩, rfl, by simp [lc], ?_, ⟨?_, ?_⟩, ⟨?_, ?_⟩⟩
   ·rw [List.getElem?_set_self (by rw [List.length_append]; have := Jbs gr4; omega)]
    simp
   ·rw [List.getElem?_set_ne (by omega)]
    exact grow gd4
   ·intro j o z
    have lj := Jbs z
    rw [List.getElem?_set_ne (by omega)]
    exact grow (kd _ _ (by omega) (R3.kp _ _ z))
   ·unfold putD
    split
    ·simp; omega
    ·simp; omega
   ·intro c' hc'
    rw [List.mem_append, List.mem_singleton] at hc'
    rcases hc' with hc' | rfl
    ·exact L.ok c' hc'
    ·exact ⟨hm', c0, wt1, by show wt <= (rs[m]).1.late; rw [hrr]; exact wt2, ll1, by show ll <= (rs[m]).1.len; rw [hrr]; exact ll2⟩
   ·intro i j a b hij ha hb' eab r' er'
    by_cases hj : j < cs.length
    ·rw [List.getElem?_append_left hj] at hb'
     rw [List.getElem?_append_left (by omega)] at ha
     exact L.far i j a b hij ha hb' eab r' er'
    ·have lj := (List.getElem?_eq_some_iff.mp hb').1
     rw [List.length_append, List.length_singleton] at lj
     obtain rfl : j = cs.length := by omega
     rw [List.getElem?_append_right (Nat.le_refl _), Nat.sub_self] at hb'
     cases hb'
     rw [List.getElem?_append_left (by omega)] at ha
     have : r' = r := by
      rw [eab] at er'
      have er' : rs[m]? = some r' := er'
      rw [er] at er'
      cases er'
      rfl
     rw [this]
     exact cf a (List.mem_of_getElem? ha) eab
   ·intro n' e c' hc'
    rw [Js0] at e
    split at e
    ·cases e
    ·rename_i hne
     rw [List.mem_append, List.mem_singleton] at hc'
     rcases hc' with hc' | rfl
     ·exact Z.no n' e c' hc'
     ·exact λ z => hne (by rw [show m = n' from z])
   ·intro n' v e
    rw [Js0] at e
    split at e
    ·rename_i heq
     cases e
     have en : (m : Int) = n' := Sum.inl.inj heq
     have en : m = n' := by omega
     refine ⟨come, rfl, c0, λ c' hc' ec => ?_⟩
     rw [List.mem_append, List.mem_singleton] at hc'
     rcases hc' with hc' | rfl
     ·have := cf c' hc' (by rw [ec, en])
      omega
     ·exact Int.le_refl _
    ·rename_i hne
     obtain ⟨x, e1, e2, e3⟩ := Z.yes n' v e
     refine ⟨x, e1, e2, λ c' hc' ec => ?_⟩
     rw [List.mem_append, List.mem_singleton] at hc'
     rcases hc' with hc' | rfl
     ·exact e3 c' hc' ec
     ·exact absurd (by rw [show m = n' from ec]) hne
  simp! [Jbo, gX, gX1, gX2, Jov, gS2, wl, pl', em, ay, Jxu, J2c, J16, List.length_cons, List.length_nil, show (0 : Int) < 3 by decide, show (0 : Int) < r.1.late + 1 by omega, show (0 : Int) < r.1.gap by omega, Jj, ew, es]
  refine ⟨by omega, by omega, ?_⟩
  have x5 : Ex h2 (h2 ++ [L3.IO.lst [IV.int r.1.late, IV.int 0, IV.int (y1 % (r.1.late + 1))]] ++ [L3.IO.lst [IV.int 0, IV.int (y3 % r.1.gap), IV.int (0 - y3 % r.1.gap)]]) := (Ex.one _ _).trans (.one _ _)
  generalize h2 ++ [L3.IO.lst [IV.int r.1.late, IV.int 0, IV.int (y1 % (r.1.late + 1))]] ++ [L3.IO.lst [IV.int 0, IV.int (y3 % r.1.gap), IV.int (0 - y3 % r.1.gap)]] = h5 at x5 ⊢
  have R5 := R.ex x5
  have gX5 := x5.get gX
  rw [J35 R5.d]
  simp! [true_and]
  cases ev : valI kvs (.inl (m : Int)) with
  | none =>
   have Lq := last h5 (3 * T - wt + sh) (some (.ref q)) x5 (by omega) (λ c' hc' z => absurd z (Z.no m ev c' hc'))
   refine ⟨(λ z => by cases z), λ _ => ?_⟩
   simp (implicitDefEqProofs := false) only [Jg8, Jez, Jc0, Jhd, Jnx, Jc3, Jcu, Jcq, Jgt, Jho, Jb3, Jgy, Jhf, Jdj, Je, Je8, Jvl, Jms, Jni, Jgz, Jn8, Jhn, Jn5, Jn4, Jc1, Jhh, Jcw, Jcr, Jau, Jc2, Ja7, Jgu, Jg6, Jc4, Jc5, Jnn, Jhs, Jg7, Ja9, Jbd, Jn3, Jg9, Jg1, Jg4, Jhq, Jhl, Jcx, Jg5, Jhm, Jcs, Jnz, Jnh, Jnv, Jnt, Jnu, Jno, Jhu, Jhc, Jhg, Jcz, Jhk, Jhx, Jn2, Jcc, Jg3, Jct, Jcv, Jhr, Jht, Jhv, Jha, Jba, Krz, Ksz, Kvz, Ktz, Kuz] at Lq
   exact Lq _
  | some v =>
   obtain ⟨x, rfl, x0, xc⟩ := Z.yes m v ev
   refine ⟨λ _ => ?_, (λ z => by cases z)⟩
   rw [J5t R5.d ev]
   simp! [Jbo, gX5, grow gX5, Jj, show (0 : Int) < 1 + r.1.gap by omega, show (0 : Int) < 2 by decide, eo, List.length_cons, List.length_nil]
   refine ⟨by omega, ?_⟩
   have Lq := last (h5 ++ [L3.IO.lst [IV.int 0, IV.int (y3 % (1 + r.1.gap))]]) (x + r.1.gap + mo) (some (.ref q)) (x5.trans (.one _ _)) (by omega) (λ c' hc' z => by have := xc c' hc' z; omega)
   simp (implicitDefEqProofs := false) only [Jg8, Jez, Jc0, Jhd, Jnx, Jc3, Jcu, Jcq, Jgt, Jho, Jb3, Jgy, Jhf, Jdj, Je, Je8, Jvl, Jms, Jni, Jgz, Jn8, Jhn, Jn5, Jn4, Jc1, Jhh, Jcw, Jcr, Jau, Jc2, Ja7, Jgu, Jg6, Jc4, Jc5, Jnn, Jhs, Jg7, Ja9, Jbd, Jn3, Jg9, Jg1, Jg4, Jhq, Jhl, Jcx, Jg5, Jhm, Jcs, Jnz, Jnh, Jnv, Jnt, Jnu, Jno, Jhu, Jhc, Jhg, Jcz, Jhk, Jhx, Jn2, Jcc, Jg3, Jct, Jcv, Jhr, Jht, Jhv, Jha, Jba, Krz, Ksz, Kvz, Ktz, Kuz] at Lq
   exact Lq _
 ·rintro _ h1 ⟨cs, kvs, a5, a6, a7, a8, a9, a10, a11, a12, a13, a14, a15, R, rfl, lc, lk, L, Z⟩
  rw [List.length_map] at lc
  simp! [Jmt]
  exact ⟨_, cs, rfl, Nat.le_refl _, R.r, L, by omega, R.ex0⟩
end
end LW
namespace LW
open PySem L2 L3 L4
theorem Jvw {x : Str} (q : IsNm x) : PyData.canLay0 (.str x) = true := by
 rw [PyData.canLay0]
 unfold PyData.strOk
 rw [<- Array.all_toList, List.all_eq_true]
 intro c hc
 have := q.2.2 c hc
 simp only [decide_eq_true_eq]
 omega
noncomputable def dS (v : IV) : PyData := match v with
 | .str x => .str x
 | _ => .none
section
variable {k : Nat} {h : IH}
theorem J2e {i : Nat} {zs : List Str} {x : Str} (hi : h[i]? = some (.lst (zs.map .str))) (hz : ∀ z ∈ zs, IsNm z) (hx : IsNm x) : cIn (.str x) (.ref i) h = .ok (.bl (zs.any λ a => decide (a = x))) h := by
 have e1 : toD h 6 (.ref i) = some (.list ((zs.map IV.str).map dS)) := by
  rw [Jfl hi, Jpx (g := dS) λ v hv => ?_]
  ·rfl
  ·obtain ⟨z, _, rfl⟩ := List.mem_map.mp hv
   rfl
 have e2 : toD h 6 (.str x) = some (.str x) := rfl
 have c1 : PyData.canLayAll0 ((zs.map IV.str).map dS) = true := Jw3 λ v hv => by
  obtain ⟨z, q, rfl⟩ := List.mem_map.mp hv
  exact Jvw (hz z q)
 have e3 : inI (.str x) (.ref i) h = some (zs.any λ a => decide (a = x)) := by
  unfold inI
  rw [e1, e2]
  dsimp only
  rw [if_pos ⟨c1, Jvw hx⟩]
  clear c1 e1 hi hz
  congr 1
  induction zs with
  | nil => rfl
  | cons z zs ih =>
   rw [List.map_cons, List.map_cons, List.any_cons, List.any_cons, ih]
   rfl
 unfold cIn
 rw [e3]
end
noncomputable def actv (d : Int) (a : Hd) : Bool := decide (a.2.1 < d) && decide (d < a.2.2)
noncomputable def act (hs : List Hd) (d : Int) : List Str := (hs.filter (actv d)).map (·.1)
noncomputable def avV (d : Int) (v : IV) : Bool := match v with
 | .tup [.str _, .int s, .int e] => decide (s < d) && decide (d < e)
 | _ => false
noncomputable def frs (v : IV) : IV := match v with
 | .tup (x :: _) => x
 | _ => .non
theorem Jsr (d : Int) : ∀ hs : List Hd, ((hs.map tupH).filter (avV d)).map frs = (act hs d).map IV.str
 | [] => rfl
 | a :: hs => by
  have ih := Jsr d hs
  unfold act at *
  rw [List.map_cons]
  by_cases q : actv d a = true
  ·have q' : avV d (tupH a) = true := q
   rw [List.filter_cons_of_pos q', List.filter_cons_of_pos q, List.map_cons, List.map_cons, List.map_cons, ih]
   rfl
  ·have q' : ¬ avV d (tupH a) = true := q
   rw [List.filter_cons_of_neg q', List.filter_cons_of_neg q, ih]
theorem Jvd (hs : List Hd) (d : Int) : (act hs d).length <= hs.length := by
 unfold act
 rw [List.length_map]
 exact List.length_filter_le ..
theorem Jsl {hs : List Hd} {d : Int} {x : Str} (h : x ∈ act hs d) : ∃ a ∈ hs, a.1 = x := by
 unfold act at h
 obtain ⟨a, ha, rfl⟩ := List.mem_map.mp h
 exact ⟨a, (List.mem_filter.mp ha).1, rfl⟩
theorem Jvm (f : Nat -> Int) : ∀ (n j : Nat), j < n -> Je4 f n <= f j
 | 0, j, h => by omega
 | 1, j, h => by
  have : j = 0 := by omega
  subst this
  exact Int.le_refl _
 | n + 2, j, h => by
  rw [Jkc f (by omega : 0 < n + 1)]
  by_cases e : j = n + 1
  ·subst e
   split <;> omega
  ·have := Jvm f (n + 1) j (by omega)
   split <;> omega
theorem J0j (f : Nat -> Int) (b : Int) : ∀ (n : Nat), 0 < n -> (∀ j, j < n -> b <= f j) -> b <= Je4 f n
 | 0, h, _ => by omega
 | 1, _, q => q 0 (by omega)
 | n + 2, _, q => by
  rw [Jkc f (by omega : 0 < n + 1)]
  have := J0j f b (n + 1) (by omega) λ j hj => q j (by omega)
  have := q (n + 1) (by omega)
  split <;> omega
noncomputable def hit (zs : List Str) (hs : List Hd) : Bool := hs.any λ b => zs.any λ z => decide (z = b.1)
noncomputable def Jc7 (hss : List (List Hd)) (zs : List Str) (a n : Nat) : Nat := match (hss.take n).findIdx? (hit zs) with
 | some k => k
 | none => a
noncomputable def fZ (hss : List (List Hd)) (x : Str) : Int := match fstK hss x with
 | some j => (j : Int)
 | none => 0
noncomputable def rkNs (hss : List (List Hd)) (zs : List Str) (a : Nat) : List Int := (a : Int) :: zs.map (fZ hss)
noncomputable def rk (hss : List (List Hd)) (zs : List Str) (a : Nat) : Int := Je4 (λ i => (rkNs hss zs a).getD i 0) (rkNs hss zs a).length
theorem Jy4 {l : List Int} {i : Nat} (h : i < l.length) : l.getD i 0 ∈ l := by
 rw [List.getD_eq_getElem?_getD, List.getElem?_eq_getElem h]
 exact List.getElem_mem h
theorem rk_eq {hss : List (List Hd)} {zs : List Str} {a : Nat} (ha : a < hss.length) (hz : ∀ z ∈ zs, has z hss[a] = true) : rk hss zs a = (Jc7 hss zs a a : Int) := by
 have h0 : 0 < (rkNs hss zs a).length := by simp [rkNs]
 -- the first of a thing
 have first : ∀ z ∈ zs, ∃ j, fstK hss z = some j /\ j <= a /\ ∃ hj : j < hss.length, has z hss[j] = true := λ z q => by
  cases e : fstK hss z with
  | none =>
   unfold fstK at e
   rw [List.findIdx?_eq_none_iff] at e
   exact absurd (hz z q) (by rw [e _ (List.getElem_mem ha)]; exact Bool.false_ne_true)
  | some j =>
   have e' := e
   unfold fstK at e'
   rw [List.findIdx?_eq_some_iff_getElem] at e'
   obtain ⟨hj, p, no⟩ := e'
   refine ⟨j, rfl, ?_, hj, p⟩
   by_cases q2 : j <= a
   ·exact q2
   ·exact absurd (hz z q) (no a (by omega))
 have hitat : ∀ z ∈ zs, ∀ j (hj : j < hss.length), has z hss[j] = true -> hit zs hss[j] = true := λ z q j hj p => by
  unfold has at p
  unfold hit
  rw [List.any_eq_true] at p ⊢
  obtain ⟨b, hb, e⟩ := p
  refine ⟨b, hb, ?_⟩
  rw [List.any_eq_true]
  exact ⟨z, q, by rw [decide_eq_true_eq] at e ⊢; exact e.symm⟩
 refine Int.le_antisymm ?_ ?_
 ·-- some item is at most the least
  unfold Jc7
  cases e : (hss.take a).findIdx? (hit zs) with
  | none => exact Jvm _ _ 0 h0
  | some k =>
   rw [List.findIdx?_eq_some_iff_getElem] at e
   obtain ⟨hk, p, _⟩ := e
   rw [List.getElem_take] at p
   have hk2 : k < hss.length := by rw [List.length_take] at hk; omega
   unfold hit at p
   rw [List.any_eq_true] at p
   obtain ⟨b, hb, q⟩ := p
   rw [List.any_eq_true] at q
   obtain ⟨z, hzz, ez⟩ := q
   rw [decide_eq_true_eq] at ez
   obtain ⟨j, ej, _, hj, pj⟩ := first z hzz
   have jk : j <= k := by
    have e2 := ej
    unfold fstK at e2
    rw [List.findIdx?_eq_some_iff_getElem] at e2
    obtain ⟨_, _, no⟩ := e2
    by_cases q2 : j <= k
    ·exact q2
    ·have := no k (by omega)
     have hk3 : has z hss[k] = true := by
      unfold has
      rw [List.any_eq_true]
      exact ⟨b, hb, by rw [decide_eq_true_eq]; exact ez.symm⟩
     exact absurd hk3 this
   obtain ⟨i, hi, ei⟩ := List.mem_iff_getElem.mp hzz
   have hi2 : i + 1 < (rkNs hss zs a).length := by simp [rkNs]; exact hi
   have := Jvm (λ i => (rkNs hss zs a).getD i 0) _ (i + 1) hi2
   have ev : (rkNs hss zs a).getD (i + 1) 0 = (j : Int) := by
    rw [List.getD_eq_getElem?_getD]
    show ((zs.map (fZ hss))[i]?).getD 0 = _
    rw [List.getElem?_map, List.getElem?_eq_getElem hi, ei]
    show fZ hss z = _
    unfold fZ
    rw [ej]
   have this : rk hss zs a <= (rkNs hss zs a).getD (i + 1) 0 := this
   rw [ev] at this
   show rk hss zs a <= ((k : Nat) : Int)
   omega
 ·refine J0j _ _ _ h0 λ i hi => ?_
  have m := Jy4 hi
  generalize hv : (rkNs hss zs a).getD i 0 = v at m
  have la : Jc7 hss zs a a <= a := by
   unfold Jc7
   cases e : (hss.take a).findIdx? (hit zs) with
   | none => exact Nat.le_refl _
   | some k =>
    rw [List.findIdx?_eq_some_iff_getElem] at e
    obtain ⟨hk, _, _⟩ := e
    rw [List.length_take] at hk
    show k <= a
    omega
  rcases List.mem_cons.mp m with rfl | m
  ·omega
  ·obtain ⟨z, hzz, rfl⟩ := List.mem_map.mp m
   obtain ⟨j, ej, ja, hj, pj⟩ := first z hzz
   have ef : fZ hss z = (j : Int) := by unfold fZ; rw [ej]
   rw [ef]
   by_cases ja2 : j < a
   ·unfold Jc7
    have hh := hitat z hzz j hj pj
    cases e : (hss.take a).findIdx? (hit zs) with
    | none =>
     rw [List.findIdx?_eq_none_iff] at e
     have : hss[j] ∈ hss.take a := by
      rw [List.mem_iff_getElem]
      exact ⟨j, by rw [List.length_take]; omega, by rw [List.getElem_take]⟩
     exact absurd hh (by rw [e _ this]; exact Bool.false_ne_true)
    | some k =>
     rw [List.findIdx?_eq_some_iff_getElem] at e
     obtain ⟨hk, _, no⟩ := e
     show ((k : Nat) : Int) <= j
     by_cases q2 : k <= j
     ·omega
     ·have := no j (by omega)
      rw [List.getElem_take] at this
      exact absurd hh this
   ·omega
noncomputable def fstV (hss : List (List Hd)) (v : IV) : IV := match v with
 | .str t => .int (fZ hss t)
 | _ => .non
noncomputable def stT (v : IV) : ISt := match v with
 | .tup [x, y, z] => [some x, some y, some z]
 | _ => [none, none, none]
noncomputable def inV (zs : List Str) (v : IV) : Bool := match v with
 | .tup (.str x :: _) => zs.any λ a => decide (a = x)
 | _ => false
theorem J0f (zs : List Str) : ∀ hs : List Hd, ((hs.map tupH).filter (inV zs)).map id = (hs.filter λ b => zs.any λ a => decide (a = b.1)).map tupH
 | [] => rfl
 | a :: hs => by
  have ih := J0f zs hs
  rw [List.map_cons]
  by_cases q : (zs.any λ x => decide (x = a.1)) = true
  ·have q' : inV zs (tupH a) = true := q
   rw [List.filter_cons_of_pos q', List.filter_cons_of_pos (p := λ b : Hd => zs.any λ x => decide (x = b.1)) q, List.map_cons, List.map_cons, ih]
   rfl
  ·have q' : ¬ inV zs (tupH a) = true := q
   rw [List.filter_cons_of_neg q', List.filter_cons_of_neg (p := λ b : Hd => zs.any λ x => decide (x = b.1)) q, ih]
theorem J4z (zs : List Str) (hs : List Hd) : hit zs hs = !(hs.filter λ b => zs.any λ a => decide (a = b.1)).isEmpty := by
 unfold hit
 induction hs with
 | nil => rfl
 | cons a hs ih =>
  rw [List.any_cons]
  by_cases q : (zs.any λ x => decide (x = a.1)) = true
  ·rw [List.filter_cons_of_pos (p := λ b : Hd => zs.any λ x => decide (x = b.1)) q, q]; rfl
  ·rw [List.filter_cons_of_neg (p := λ b : Hd => zs.any λ x => decide (x = b.1)) q, <- ih]
   rw [Bool.eq_false_iff.mpr q]; rfl
section
variable {k : Nat} {h : IH}
theorem J1y {i : Nat} {ns : List Int} {Q : IV -> IH -> Prop} (hi : h[i]? = some (.lst (ns.map .int))) (hn : ns ≠ []) : WR (Jun (.ref i) h) Q = Q (.int (Je4 (λ i => ns.getD i 0) ns.length)) h := by
 unfold Jun
 simp only [hi, Jgf]
 rw [if_neg hn]
 rfl
theorem J1o {i : Nat} {kvs : List (Key × IV)} {x : Str} {v : IV} {Q : IV -> IH -> Prop} (hi : h[i]? = some (.dct kvs)) (e : valI kvs (.inr x) = some v) : WR (Jox (.ref i) (.str x) h) Q = Q v h := by
 unfold Jox
 simp only [hi, keyI, e]
 rfl
theorem Jrf {name : Str} {gap len due late d : Int} {hs : List Hd} {w : Nat} (hw : h[w]? = some (.ins "Work" (wfs name gap len due late (hs.map tupH)))) (l6 : hs.length <= 6) :
  WR (Jas (k + 2) [.ref w, .int d] h) λ v h' => ∃ i, v = .ref i /\ h.length <= i /\ h'[i]? = some (.lst ((act hs d).map .str)) /\ Ex h h' := by
 have hb := Jd
 rw [Jnl]
 simp! [Jb9]
 refine WR.mono (Jl7 (h := h ++ [L3.IO.lst (hs.map tupH)]) (xs := hs.map tupH) (chk := λ h' => h'[h.length]? = some (.lst (hs.map tupH))) (p := avV d) (f := frs) ?_ (by rw [List.length_map]; omega) (λ h2 q => q _ _ Jj) ?_ ?_) ?_
 ·rw [Jcc, Jaa (i := w) (h1 := h) rfl hw flh (Je6 _)]
  simp! [Jmu hw, Jak, Jj]
 ·intro v hv h2 q
  obtain ⟨a, _, rfl⟩ := List.mem_map.mp hv
  simp only [List.map_cons, List.map_nil, List.getElem?_cons_succ, List.getElem?_cons_zero, Option.join_some]
  simp! [Jdf, tupH, avV, decide_eq_true_eq, decide_eq_false_iff_not]
  exact ⟨λ z => ⟨by simp [z], .refl _⟩, λ z => ⟨by simp [z], .refl _⟩⟩
 ·intro v hv _ h2 q
  obtain ⟨a, _, rfl⟩ := List.mem_map.mp hv
  simp! [Jda, tupH, frs]
  exact .refl _
 ·rintro _ _ ⟨rfl, g, rfl⟩
  rw [Jsr]
  exact ⟨_, rfl, by rw [List.length_append]; omega, Jp, (Ex.one _ _).trans (.cons _ _ _)⟩
end
end LW
namespace LW
open PySem L2 L3 L4
section
variable {k : Nat} {h : IH}
theorem Jv8 {a i t : Nat} {zs : List Str} {hss : List (List Hd)} {kvs : List (Key × IV)} (gi : h[i]? = some (.lst (zs.map .str))) (gt : h[t]? = some (.dct kvs)) (tv : ∀ x, (valI kvs (.inr x)).getD .non = fV (fstK hss x)) (hz : ∀ z ∈ zs, fstK hss z ≠ none) (la : zs.length <= 6) :
  WR (Jlq (k + 1) [.int (a : Int), .ref i, .ref t] h) λ v h' => v = .int (rk hss zs a) /\ Ex h h' := by
 have hb := Jd
 rw [Jwh]
 simp! [Jkl, List.length_cons, List.length_nil]
 refine ⟨by omega, ?_⟩
 have x3 : Ex h (h ++ [L3.IO.lst [IV.int (a : Int)]]) := .one _ _
 have gA : (h ++ [L3.IO.lst [IV.int (a : Int)]])[h.length]? = some (.lst ([(a : Int)].map IV.int)) := Jj
 generalize h.length = A at gA
 generalize h ++ [L3.IO.lst [IV.int (a : Int)]] = h3 at x3 gA
 refine WR.mono (J9 (h := h3) (xs := zs.map IV.str) (chk := λ h' => h'[i]? = some (.lst (zs.map IV.str))) (f := fstV hss) ?_ (by rw [List.length_map]; omega) (λ h4 q => q _ _ (x3.get gi)) ?_) ?_
 ·simp! [Jak, x3.get gi]
 ·intro v hv h4 q
  obtain ⟨x, hx, rfl⟩ := List.mem_map.mp hv
  have e1 := tv x
  have ne := hz x hx
  cases ef : fstK hss x with
  | none => exact absurd ef ne
  | some jj =>
   rw [ef] at e1
   have e2 : valI kvs (.inr x) = some (.int (jj : Int)) := by
    cases ev : valI kvs (.inr x) with
    | none => rw [ev] at e1; cases e1
    | some v => rw [ev] at e1; rw [show v = .int (jj : Int) from e1]
   simp only [List.map_cons, List.map_nil, List.getElem?_cons_succ, List.getElem?_cons_zero, Option.join_some]
   simp! [Jkv]
   rw [J1o (q _ _ (x3.get gt)) e2]
   exact ⟨by simp only [fstV, fZ, ef], .refl _⟩
 ·rintro _ _ ⟨rfl, g, rfl⟩
  have em : (zs.map IV.str).map (fstV hss) = (zs.map (fZ hss)).map IV.int := by
   rw [List.map_map, List.map_map]
   rfl
  rw [em]
  have x4 : Ex h3 (h3 ++ L3.IO.lst ((zs.map (fZ hss)).map IV.int) :: g) := .cons _ _ _
  simp! [Jsh, x4.get gA, Jp, List.length_map, List.length_cons, List.length_nil]
  refine ⟨by omega, ?_⟩
  rw [<- List.map_append]
  rw [show [(a : Int)] ++ zs.map (fZ hss) = rkNs hss zs a from rfl, J1y (ns := rkNs hss zs a) Jj (by simp [rkNs])]
  exact ⟨rfl, (x3.trans x4).trans (.one _ _)⟩
theorem J1e {rs : List RH} {a : Nat} (ha : a < rs.length) {d : Int} : ∀ z ∈ act (rs[a]).2 d, fstK (rs.map (·.2)) z ≠ none := λ z q => by
 obtain ⟨b, hb', rfl⟩ := Jsl q
 intro e
 unfold fstK at e
 rw [List.findIdx?_eq_none_iff] at e
 have := e (rs[a]).2 (List.mem_map.mpr ⟨rs[a], List.getElem_mem ha, rfl⟩)
 unfold has at this
 have t2 : ((rs[a]).2.any λ x => decide (x.1 = b.1)) = true := List.any_eq_true.mpr ⟨b, hb', by simp⟩
 rw [t2] at this
 cases this
noncomputable abbrev ofs (D T : Nat) : List (Str × IV) := [("duty", .ref D), ("tops", .ref T)]
noncomputable abbrev ofs1 (D : Nat) : List (Str × IV) := [("duty", .ref D)]
theorem op0 {a : IV} : putI "duty" a ([] : List (Str × IV)) = ([("duty", a)] : List (Str × IV)) := by kernel_rfl
theorem op1 {a b : IV} : putI "tops" b ([("duty", a)] : List (Str × IV)) = ([("duty", a), ("tops", b)] : List (Str × IV)) := by kernel_rfl
theorem ol0 {D T : Nat} : (ofs D T).lookup ("duty" : Str) = some (.ref D) := by kernel_rfl
theorem ol1 {D T : Nat} : (ofs D T).lookup ("tops" : Str) = some (.ref T) := by kernel_rfl
theorem olr {D T : Nat} : (ofs D T).lookup ("rank_of" : Str) = none := by kernel_rfl
theorem olh {D T : Nat} : (ofs D T).lookup ("holds" : Str) = none := by kernel_rfl
theorem ql0 {D : Nat} : (ofs1 D).lookup ("duty" : Str) = some (.ref D) := by kernel_rfl
theorem qlr {D : Nat} : (ofs1 D).lookup ("rank_of" : Str) = none := by kernel_rfl
theorem qlh {D : Nat} : (ofs1 D).lookup ("holds" : Str) = none := by kernel_rfl
noncomputable def IsOr (h : IH) (kind : Int) (O : Nat) (rs : List RH) : Prop := ∃ D, IsDu h D rs /\ ((kind = 1 /\ h[O]? = some (.ins "ByDue" (ofs1 D))) ∨ (kind = 2 /\ h[O]? = some (.ins "ByComing" (ofs1 D))) ∨
 (kind = 0 /\ ∃ T kvs, h[O]? = some (.ins "ByRank" (ofs D T)) /\ h[T]? = some (.dct kvs) /\ ∀ x, (valI kvs (.inr x)).getD .non = fV (fstK (rs.map (·.2)) x)))
theorem IsOr.kp {h h' : IH} {kind : Int} {O : Nat} {rs : List RH} (k : Kp h h') (o : IsOr h kind O rs) : IsOr h' kind O rs := by
 obtain ⟨D, d, o⟩ := o
 refine ⟨D, d.kp k, o.imp (λ ⟨a, b⟩ => ⟨a, k _ _ b⟩) (Or.imp (λ ⟨a, b⟩ => ⟨a, k _ _ b⟩) λ ⟨a, T, kvs, b, c, d⟩ => ⟨a, T, kvs, k _ _ b, k _ _ c, d⟩)⟩
theorem Jkj {c : Str} {O D : Nat} (hO : h[O]? = some (.ins c [])) : Jal (k + 1) [.ref O, .ref D] h = .ok .non (h.set O (.ins c (ofs1 D))) := by
 refine Jdn ?_
 rw [Jo5]
 simp! [Jcp, Jm8]
 refine ⟨_, _, _, rfl, hO, by decide, ?_⟩
 rw [op0]
theorem J2i {i : Nat} {kvs : List (Key × IV)} {Q : IV -> IH -> Prop} (hi : h[i]? = some (.dct kvs)) : WR (Jul (.ref i) h) Q = Q (.int kvs.length) h := by
 unfold Jul
 simp only [hi]
 rfl
theorem Jp1 {D : Nat} {rs : List RH} (d : IsDu h D rs) (hl : rs.length <= 12) (no : ∀ r ∈ rs, r.2 = []) : WR (Jby (k + 2) [.ref D] h) λ v h' => ∃ i, v = .ref i /\ h'[i]? = some (.dct []) /\ Ex h h' := by
 have hb := Jd
 obtain ⟨vs, gD, w⟩ := d
 have wl := w.len
 rw [Jmn]
 simp! +ground [Jck, Jgd, Jsw]
 rw [Jaa (i := D) (h1 := h ++ [.dct []]) rfl (grow gD) dls (Jk5 _)]
 simp! +ground [Jpz (grow gD)]
 refine ⟨by omega, ?_⟩
 refine Ja5 (λ n σ h' => ∃ a b, Ex (h ++ [.dct []]) h' /\ σ = [some (.ref D), some (.ref h.length), a, b]) (λ _ _ _ _ => trivial) ?_ ?_ ⟨none, none, .refl _, rfl⟩
 ·rintro n hn _ h1 ⟨a, b, x1, rfl⟩
  rw [Jgx]
  rw [Jac] at hn
  have hn' : n < rs.length := by omega
  obtain ⟨j, ej, gj⟩ := w.get (List.getElem?_eq_getElem hn')
  rw [show (0 : Int) + (n : Int) = (n : Int) by omega]
  have av : atI vs (n : Int) = some (.ref j) := Jax ej
  have gD1 := x1.get (grow gD)
  have gj1 := x1.get (grow gj)
  have e0 := no _ (List.getElem_mem hn')
  generalize hσ : ([some (.ref D), some (.ref h.length), some (.int (n : Int)), b] : ISt) = σ
  have e1 : eDot (pg (k + 1)) "work" 1 (eVar 0) (Ja (eVar 2) aNil) σ h1 = .ok (.ref j) h1 := by
   subst hσ
   refine Jdn ?_
   rw [Jaa (i := D) (h1 := h1) rfl gD1 dlw (Jbi _)]
   simp! +ground [Jf3 gD1 av]
  dsimp! [hσ, Jel]
  rw [Jaa (i := j) (h1 := h1) e1 gj1 flh (Je6 _)]
  simp! +ground [Jmu gj1, e0, List.map_nil, Jak, Jj]
  rw [<- hσ]
  simp only [Jgp]
  rw [if_pos Jj, Jb3]
  exact ⟨_, _, x1.trans (.one _ _), rfl⟩
 ·rintro _ h1 ⟨a, b, x1, rfl⟩
  simp! +ground [Jfy]
  exact ⟨x1.get Jj, (Ex.one _ _).trans x1⟩
theorem Jm2 {D : Nat} {rs : List RH} (d : IsDu h D rs) (hl : rs.length <= 12) (no : ∀ r ∈ rs, r.2 = []) : WR (Jae (k + 3) [.ref D] h) λ v h' => v = .non /\ Ex h h' := by
 rw [Jna]
 simp! [Jbk]
 refine WR.mono (Jp1 (k := k) d hl no) ?_
 rintro _ h1 ⟨i, rfl, gi, x1⟩
 rw [J2i gi]
 simp! [List.length_nil]
 refine ⟨λ q => ?_, λ _ => x1⟩
 simp at q
theorem Jzl {kind : Int} {D : Nat} {rs : List RH} (d : IsDu h D rs) (hl : rs.length <= 12) (no : ∀ r ∈ rs, r.2 = []) : WR (Jci (k + 4) [.ref h.length, .ref D] (h ++ [.ins "ByDue" []])) λ v h' => v = .non /\ Ex h h' /\ IsOr h' 1 h.length rs := by
 rw [Jo1]
 simp! [Jco, Jhe]
 refine WR.mono (Jm2 (k := k) (d.kp (Ex.one h _).kp) hl no) ?_
 rintro _ _ ⟨rfl, g, rfl⟩
 have gO : (h ++ [L3.IO.ins "ByDue" []] ++ g)[h.length]? = some (.ins "ByDue" []) := grow Jj
 rw [Jkj (k := k + 2) gO]
 simp! [true_and]
 have e : (h ++ [L3.IO.ins "ByDue" []] ++ g).set h.length (.ins "ByDue" (ofs1 D)) = h ++ .ins "ByDue" (ofs1 D) :: g := by
  rw [List.append_assoc, List.cons_append, List.nil_append, Jh8]
 rw [e]
 exact ⟨.cons _ _ _, D, d.kp (Ex.cons _ _ _).kp, .inl ⟨rfl, Jp⟩⟩
theorem Jsq {D : Nat} {rs : List RH} (d : IsDu h D rs) (hl : rs.length <= 12) (no : ∀ r ∈ rs, r.2 = []) : WR (Jam (k + 4) [.ref h.length, .ref D] (h ++ [.ins "ByComing" []])) λ v h' => v = .non /\ Ex h h' /\ IsOr h' 2 h.length rs := by
 rw [Jln]
 simp! [Ja6, Jde]
 refine WR.mono (Jm2 (k := k) (d.kp (Ex.one h _).kp) hl no) ?_
 rintro _ _ ⟨rfl, g, rfl⟩
 have gO : (h ++ [L3.IO.ins "ByComing" []] ++ g)[h.length]? = some (.ins "ByComing" []) := grow Jj
 rw [Jkj (k := k + 2) gO]
 simp! [true_and]
 have e : (h ++ [L3.IO.ins "ByComing" []] ++ g).set h.length (.ins "ByComing" (ofs1 D)) = h ++ .ins "ByComing" (ofs1 D) :: g := by
  rw [List.append_assoc, List.cons_append, List.nil_append, Jh8]
 rw [e]
 exact ⟨.cons _ _ _, D, d.kp (Ex.cons _ _ _).kp, .inr (.inl ⟨rfl, Jp⟩)⟩
theorem Jvi {D : Nat} {rs : List RH} (d : IsDu h D rs) (hl : rs.length <= 12) (h6 : ∀ r ∈ rs, r.2.length <= 6) : WR (Jbu (k + 4) [.ref h.length, .ref D] (h ++ [.ins "ByRank" []])) λ v h' => v = .non /\ Ex h h' /\ IsOr h' 0 h.length rs := by
 rw [Jnd]
 simp! [Jb8, Jfm, Jkj (k := k + 2) (h := h ++ [.ins "ByRank" []]) Jj, Joy, Jm8]
 have x1 : Ex h (h ++ [L3.IO.ins "ByRank" (ofs1 D)]) := .one _ _
 have d1 := d.kp x1.kp
 obtain ⟨vs, gD, w⟩ := id d1
 refine WR.mono (Jsg (k := k + 1) gD w hl h6) ?_
 rintro _ _ ⟨t, kvs, rfl, gt, tv, g, rfl⟩
 refine ⟨_, _, _, rfl, grow Jj, by show (1 : Nat) < 1000; decide, ?_⟩
 rw [op1]
 have e : (h ++ [L3.IO.ins "ByRank" (ofs1 D)] ++ g).set h.length (.ins "ByRank" (ofs D t)) = h ++ .ins "ByRank" (ofs D t) :: g := by
  rw [List.append_assoc, List.cons_append, List.nil_append, Jh8]
 rw [e]
 have kb : KpB h.length (h ++ [L3.IO.ins "ByRank" (ofs1 D)] ++ g) (h ++ L3.IO.ins "ByRank" (ofs D t) :: g) := λ j o hj z => by
  rw [<- e, List.getElem?_set_ne (Ne.symm hj)]
  exact z
 have ht : t ≠ h.length := λ z => by
  rw [z] at gt
  have : (h ++ [L3.IO.ins "ByRank" (ofs1 D)] ++ g)[h.length]? = some (.ins "ByRank" (ofs1 D)) := grow Jj
  rw [this] at gt
  cases gt
 exact ⟨.cons _ _ _, D, d.kp (Ex.cons _ _ _).kp, .inr (.inr ⟨rfl, t, kvs, Jp, kb _ _ ht gt, tv⟩)⟩
end
end LW
namespace LW
open PySem L2 L3 L4
theorem J20 {hss : List (List Hd)} {zs : List Str} {a n : Nat} (hn : n < hss.length) (na : n < a) : Jc7 hss zs a (n + 1) = if Jc7 hss zs a n = a then (if hit zs hss[n] = true then n else a) else Jc7 hss zs a n := by
 have tk : hss.take (n + 1) = hss.take n ++ [hss[n]] := List.take_succ_eq_append_getElem hn
 have ln : (hss.take n).length = n := by rw [List.length_take]; omega
 unfold Jc7
 rw [tk, List.findIdx?_append]
 cases e : (hss.take n).findIdx? (hit zs) with
 | some k =>
  have hk : k < n := by
   rw [List.findIdx?_eq_some_iff_getElem] at e
   obtain ⟨hk, _⟩ := e
   omega
  show k = if k = a then _ else k
  rw [if_neg (by omega)]
 | none =>
  show (match (Option.map (λ i => i + (hss.take n).length) (List.findIdx? (hit zs) [hss[n]])) with | some k => k | none => a) = if a = a then (if hit zs hss[n] = true then n else a) else a
  rw [if_pos rfl]
  by_cases q : hit zs hss[n] = true
  ·rw [if_pos q]
   simp [List.findIdx?_cons, q, ln]
  ·rw [if_neg q]
   simp [List.findIdx?_cons, q]
noncomputable def gHd (v : IV) : PyData := match v with
 | .tup [.str x, .int a, .int b] => .tuple [.str x, .int a, .int b]
 | _ => .none
section
variable {k : Nat} {h : IH}
theorem Jxm {i j : Nat} {hs : List Hd} (hi : h[i]? = some (.lst (hs.map tupH))) (hj : h[j]? = some (.lst [])) (nm : ∀ a ∈ hs, IsNm a.1) : cNe (.ref i) (.ref j) h = .ok (.bl (!hs.isEmpty)) h := by
 have e1 : toD h 6 (.ref i) = some (.list ((hs.map tupH).map gHd)) := by
  rw [Jfl hi, Jpx (g := gHd) λ x hx => ?_]
  ·rfl
  ·obtain ⟨r, _, rfl⟩ := List.mem_map.mp hx
   rfl
 have e2 : toD h 6 (.ref j) = some (.list []) := by rw [Jfl hj]; rfl
 have c1 : PyData.canLayAll0 ((hs.map tupH).map gHd) = true := Jw3 λ x hx => by
  obtain ⟨r, hr, rfl⟩ := List.mem_map.mp hx
  simp only [tupH, gHd, PyData.canLay0, PyData.canLayAll0]
  have := Jvw (nm r hr)
  rw [PyData.canLay0] at this
  rw [this]
  rfl
 have e3 : Jie (.ref i) (.ref j) h = some hs.isEmpty := by
  unfold Jie
  rw [e1, e2]
  dsimp only
  rw [if_pos ⟨by rw [PyData.canLay0]; exact c1, by rw [PyData.canLay0, PyData.canLayAll0]⟩, PyData.eqv]
  cases hs with
  | nil => rw [List.map_nil, List.map_nil, PyData.eqvAll]; rfl
  | cons a as => rw [List.map_cons, List.map_cons, PyData.eqvAll]; rfl; all_goals intros; simp_all
 unfold cNe
 have e4 : Jjw (.ref i) (.ref j) = none := rfl
 rw [e4]
 dsimp only
 rw [e3]
theorem compE {h h0 : IH} {it : I1} {e : E1} {js : List Nat} {σ : ISt} {xs : List IV} {chk : IH -> Prop} (D : IV -> IV -> IH -> Prop) (hit : WR (it σ h0) λ J h1 => J.xs = xs /\ J.chk = chk /\ h1 = h) (hl : xs.length < sizeLine)
  (mono : ∀ x y h2 h3, KpB h.length h2 h3 -> D x y h2 -> D x y h3) (hc : ∀ h2 : IH, Kp h h2 -> chk h2)
  (he : ∀ x ∈ xs, ∀ h2 : IH, Kp h h2 -> h.length < h2.length -> WR (e (some x :: js.map λ j => (σ[j]?).join) h2) λ v h3 => Ex h2 h3 /\ D x v h3) :
  ∃ v h3, Jy it 1 js (gNm 0) Ja2 e σ h0 = .ok v h3 /\ v = .ref h.length /\ ∃ ys, h3[h.length]? = some (.lst ys) /\ ys.length = xs.length /\ Kp h h3 /\ ∀ (i : Nat) x y, xs[i]? = some x -> ys[i]? = some y -> D x y h3 :=
 (Jyf D hit hl mono hc he).eq
noncomputable def DW (h1 : IH) (x y : IV) (h' : IH) : Prop := ∀ (r : RH) (q : Nat), x = tp6 r q -> h1[q]? = some (.lst (r.2.map tupH)) -> ∃ w : Nat, y = IV.ref w /\ w ≠ h1.length /\ h'[w]? = some (wo r)
theorem Jx1 {S lo : Nat} {ys : List IV} {rs : List RH} {unit : Int} {a0 a2 : Option IV} (G : Gd unit rs) (gS : h[S]? = some (.lst ys)) (w : RowT h lo ys rs) :
  ∃ h', Jy (iAny (eVar 1)) 1 [] (gNm 0) Ja2 (J2 (k + 5)) [a0, some (.ref S), a2] h = .ok (.ref h.length) h' /\ ∃ vs, h'[h.length]? = some (.lst vs) /\ AllH h' vs rs /\ Kp h h' := by
 have hb := Jd
 have few := G.few
 have wl := w.len
 have X := @compE h h (iAny (eVar 1)) (J2 (k + 5)) [] [a0, some (.ref S), a2] ys (λ h' => h'[S]? = some (.lst ys)) (DW h)
  (by simp! [Jak, gS]) (by omega) (by
   intro x y h2 h3 kb dd r q e g
   obtain ⟨w, e1, e2, e3⟩ := dd r q e g
   exact ⟨w, e1, e2, kb _ _ e2 e3⟩) (λ h2 q => q _ _ gS) (by
   intro x hx h2 k2 l2
   obtain ⟨n, hn, rfl⟩ := List.mem_iff_getElem.mp hx
   have hn' : n < rs.length := by omega
   obtain ⟨q, ey, _, gq⟩ := w.at_ n _ _ (List.getElem?_eq_getElem hn) (List.getElem?_eq_getElem hn')
   have f8 := G.f _ (List.getElem_mem hn')
   have u1 := G.u1
   rw [ey]
   generalize rs[n] = r at gq f8
   have f1 := f8.g1
   have gq2 := k2 _ _ gq
   have a5 : atI (IV.str r.1.name :: tp5 r q) 5 = some (.ref q) := Jyq
   simp! [J2, Jx3, gq2, a5]
   generalize hs' : r.2.map tupH = hs
   refine WR.mono (J1h (k := k) (hs := hs) f8.nm (by omega) f8.l1 f8.t1 (λ h1 => Jt0 f8.d1 f8.d2) λ h1 z => hs' ▸ Jrn (z _ _ (by rw [hs']; exact Jj)) f8.ok) ?_
   rintro _ h3 ⟨rfl, g, rfl⟩
   refine ⟨rfl, (Ex.one _ _).trans (.cons _ _ _), λ r' q' e' g' => ⟨_, rfl, by rw [List.length_append]; omega, ?_⟩⟩
   have e' : tp6 r q = tp6 r' q' := e'
   simp only [tp6, tp5, IV.tup.injEq, List.cons.injEq, IV.str.injEq, IV.int.injEq, IV.ref.injEq, and_true] at e'
   obtain ⟨e1, e2, e3, e4, e5, rfl⟩ := e'
   rw [gq] at g'
   have g' : r.2.map tupH = r'.2.map tupH := by simpa using g'
   rw [<- hs', g']
   unfold wo
   rw [<- e1, <- e2, <- e3, <- e4, <- e5]
   exact Jp)
 obtain ⟨v, h3, ev, rfl, vs, gv, lv, k3, dv⟩ := X
 refine ⟨h3, ev, vs, gv, ⟨by omega, λ i v r a b => ?_⟩, k3⟩
 obtain ⟨q, ey, gq⟩ := w.get b
 obtain ⟨W, e1, _, e3⟩ := dv i _ _ ey a r q rfl gq
 exact ⟨W, e1, e3⟩
theorem Jx5 {S lo : Nat} {ys : List IV} {rs : List RH} {c unit kind : Int} (gS : h[S]? = some (.lst ys)) (w : RowT h lo ys rs) (D : Dr c unit rs) (hr : rs.length <= 7) (hk : kind = 0 ∨ kind = 1 ∨ kind = 2) (no : kind ≠ 0 -> ∀ r ∈ rs, r.2 = []) :
  WR (Jdw (k + 6) [.int kind, .ref S] h) λ v h' => ∃ O, v = .ref O /\ Ex h h' /\ IsOr h' kind O rs := by
 have G := D.gd hr
 rw [Jq6]
 simp! [Jd1]
 have Y := @Jx1 k h S lo ys rs unit (some (.int kind)) none G gS w
 generalize Jy (iAny (eVar 1)) 1 [] (gNm 0) Ja2 (J2 (k + 5)) [some (.int kind), some (.ref S), none] h = rc at Y ⊢
 obtain ⟨h3, ev, vs, gv, wA, k3⟩ := Y
 rw [ev, Je8]
 clear ev
 refine WR.mono (duty8 (k := k + 2) gv wA G) ?_
 rintro _ h4 ⟨rfl, x4, d4⟩
 refine ⟨rfl, ?_⟩
 have x3 := J3i k3
 generalize h3.length = DD at d4 ⊢
 rcases hk with rfl | rfl | rfl
 ·simp! [Jbw, Jeh, Jjz, show ¬ (0 : Int) = 1 by decide, show ¬ (0 : Int) = 2 by decide, decide_false]
  refine WR.mono (Jvi (k := k + 1) d4 (by omega) λ r hr => (G.f r hr).ok.few) ?_
  rintro _ h5 ⟨rfl, x5, o⟩
  exact ⟨rfl, (x3.trans x4).trans x5, o⟩
 ·simp! [Jbw, decide_true]
  refine WR.mono (Jzl (k := k + 1) (kind := 1) d4 (by omega) (no (by decide))) ?_
  rintro _ h5 ⟨rfl, x5, o⟩
  exact ⟨rfl, (x3.trans x4).trans x5, o⟩
 ·simp! [Jbw, Jeh, show ¬ (2 : Int) = 1 by decide, decide_false, decide_true]
  refine WR.mono (Jsq (k := k + 1) d4 (by omega) (no (by decide))) ?_
  rintro _ h5 ⟨rfl, x5, o⟩
  exact ⟨rfl, (x3.trans x4).trans x5, o⟩
theorem Jvg {O D T : Nat} {rs : List RH} {kvs : List (Key × IV)} {c : Cm} {d : Int} (hd : IsDu h D rs) (gO : h[O]? = some (.ins "ByRank" (ofs D T))) (gT : h[T]? = some (.dct kvs)) (tv : ∀ x, (valI kvs (.inr x)).getD .non = fV (fstK (rs.map (·.2)) x)) (ha : c.at_ < rs.length) (l6 : ∀ r ∈ rs, r.2.length <= 6) :
  WR (Jag (k + 3) [.ref O, tupC c, .int d] h) λ v h' => v = .int (rk (rs.map (·.2)) (act (rs[c.at_]).2 d) c.at_) /\ Ex h h' := by
 obtain ⟨vs, gD, w⟩ := hd
 obtain ⟨j, ej, gj⟩ := w.get (List.getElem?_eq_getElem ha)
 have av : atI vs (c.at_ : Int) = some (.ref j) := Jax ej
 have hz := J1e ha (d := d)
 have l := l6 _ (List.getElem_mem ha)
 generalize rs[c.at_] = r at gj hz l
 rw [Jkh]
 have fd : WR (eFld "duty" (eVar 0) [some (.ref O), some (tupC c), some (.int d)] h) λ v h' => v = .ref D /\ h' = h := by
  simp! [Jv gO, ol0]
 simp! [Jar]
 rw [Jaa (i := D) (h1 := h) (Jdn fd) gD dlw (Jbi _)]
 simp! [Jf3 gD av]
 refine WR.mono (Jrf (k := k) gj l) ?_
 rintro _ h1 ⟨i, rfl, li, gi, x1⟩
 simp! [Jv (x1.get gO), ol1]
 have la := Jvd r.2 d
 refine WR.mono (Jv8 (k := k + 1) gi (x1.get gT) tv hz (by omega)) ?_
 rintro _ h2 ⟨rfl, x2⟩
 exact ⟨rfl, x1.trans x2⟩
theorem Jp3 {O D T : Nat} {rs : List RH} {c : Cm} {d : Int} (hd : IsDu h D rs) (gO : h[O]? = some (.ins "ByRank" (ofs D T))) (ha : c.at_ < rs.length) (l6 : ∀ r ∈ rs, r.2.length <= 6) :
  WR (Jbc (k + 3) [.ref O, tupC c, .int d] h) λ v h' => v = .bl (!(act (rs[c.at_]).2 d).isEmpty) /\ Ex h h' := by
 obtain ⟨vs, gD, w⟩ := hd
 obtain ⟨j, ej, gj⟩ := w.get (List.getElem?_eq_getElem ha)
 have av : atI vs (c.at_ : Int) = some (.ref j) := Jax ej
 have l := l6 _ (List.getElem_mem ha)
 generalize rs[c.at_] = r at gj l
 rw [Jmj]
 have fd : WR (eFld "duty" (eVar 0) [some (.ref O), some (tupC c), some (.int d)] h) λ v h' => v = .ref D /\ h' = h := by
  simp! [Jv gO, ol0]
 simp! [Jbm]
 rw [Jaa (i := D) (h1 := h) (Jdn fd) gD dlw (Jbi _)]
 simp! [Jf3 gD av]
 refine WR.mono (Jrf (k := k) gj l) ?_
 rintro _ h1 ⟨i, rfl, li, gi, x1⟩
 simp! [Jov, gi, List.length_map]
 refine ⟨?_, x1⟩
 cases act r.2 d <;> simp
theorem Jyg {O D : Nat} {rs : List RH} {c : Cm} {d : Int} (hd : IsDu h D rs) (gO : h[O]? = some (.ins "ByDue" (ofs1 D))) (ha : c.at_ < rs.length) : Jan (k + 3) [.ref O, tupC c, .int d] h = .ok (.int (c.come + (rs[c.at_]).1.due)) h := by
 obtain ⟨vs, gD, w⟩ := hd
 obtain ⟨j, ej, gj⟩ := w.get (List.getElem?_eq_getElem ha)
 have av : atI vs (c.at_ : Int) = some (.ref j) := Jax ej
 generalize rs[c.at_] = r at gj
 refine Jdn ?_
 rw [Jlh]
 simp! [Ja0, Jv gO, ql0]
 rw [Jxa]
 simp! [Jkf]
 rw [Jaa (i := D) (h1 := h) rfl gD dlw (Jbi _)]
 simp! [Jf3 gD av, Jv gj, fl3]
theorem Jsx {O : Nat} {c : Cm} {d : Int} : J0 (k + 1) [.ref O, tupC c, .int d] h = .ok (.int c.come) h := by
 refine Jdn ?_
 rw [Jh6]
 simp! [Jab]
theorem Jmg {v w : IV} {O : Nat} : Jaq (k + 1) [.ref O, v, w] h = .ok (.bl false) h := by
 refine Jdn ?_
 rw [Jn0]
 simp! [Jcb]
noncomputable def J3b (kind : Int) (rs : List RH) (c : Cm) (d : Int) : Int := if kind = 1 then c.come + (rs.getD c.at_ rd).1.due else if kind = 2 then c.come else (Jc7 (rs.map (·.2)) (act (rs.getD c.at_ rd).2 d) c.at_ c.at_ : Int)
noncomputable def J3a (kind : Int) (rs : List RH) (c : Cm) (d : Int) : Bool := if kind = 1 then false else if kind = 2 then false else !(act (rs.getD c.at_ rd).2 d).isEmpty
theorem Joz {rs : List RH} {n : Nat} (hn : n < rs.length) : rs.getD n rd = rs[n] := by rw [List.getD_eq_getElem?_getD, List.getElem?_eq_getElem hn]; rfl
theorem Jyp {rs : List RH} {c : Cm} {d : Int} (ha : c.at_ < rs.length) : rk (rs.map (·.2)) (act (rs[c.at_]).2 d) c.at_ = (Jc7 (rs.map (·.2)) (act (rs[c.at_]).2 d) c.at_ c.at_ : Int) := by
 refine rk_eq (by rw [List.length_map]; exact ha) λ z hz => ?_
 rw [List.getElem_map]
 obtain ⟨b, hb', rfl⟩ := Jsl hz
 exact List.any_eq_true.mpr ⟨b, hb', by simp⟩
theorem Jtz {kind : Int} {O : Nat} {rs : List RH} {c : Cm} {d : Int} {oe e1 e2 : E1} {σ : ISt} (o : IsOr h kind O rs) (ho : oe σ h = .ok (.ref O) h) (h1 : e1 σ h = .ok (tupC c) h) (h2 : e2 σ h = .ok (.int d) h) (ha : c.at_ < rs.length) (l6 : ∀ r ∈ rs, r.2.length <= 6) :
  WR (eDot (pg (k + 3)) "rank_of" 2 oe (Ja e1 (Ja e2 aNil)) σ h) λ v h' => v = .int (J3b kind rs c d) /\ Ex h h' := by
 obtain ⟨D, hd, ⟨rfl, gO⟩ | ⟨rfl, gO⟩ | ⟨rfl, T, kvs, gO, gT, tv⟩⟩ := o
 ·rw [Jaa (i := O) (h1 := h) ho gO qlr (Jlm _)]
  dsimp! [h1, h2, Jyg hd gO ha]
  exact ⟨by rw [J3b, if_pos rfl, Joz ha], .refl _⟩
 ·rw [Jaa (i := O) (h1 := h) ho gO qlr (Jh0 _)]
  dsimp! [h1, h2, Jsx]
  exact ⟨by rw [J3b, if_neg (by decide), if_pos rfl], .refl _⟩
 ·rw [Jaa (i := O) (h1 := h) ho gO olr (Jkd _)]
  dsimp! [h1, h2]
  refine WR.mono (Jvg (k := k) hd gO gT tv ha l6) ?_
  rintro _ h3 ⟨rfl, x3⟩
  exact ⟨by rw [J3b, if_neg (by decide), if_neg (by decide), Joz ha, Jyp ha], x3⟩
theorem Jr1 {kind : Int} {O : Nat} {rs : List RH} {c : Cm} {d : Int} {oe e1 e2 : E1} {σ : ISt} (o : IsOr h kind O rs) (ho : oe σ h = .ok (.ref O) h) (h1 : e1 σ h = .ok (tupC c) h) (h2 : e2 σ h = .ok (.int d) h) (ha : c.at_ < rs.length) (l6 : ∀ r ∈ rs, r.2.length <= 6) :
  WR (eDot (pg (k + 3)) "holds" 2 oe (Ja e1 (Ja e2 aNil)) σ h) λ v h' => v = .bl (J3a kind rs c d) /\ Ex h h' := by
 obtain ⟨D, hd, ⟨rfl, gO⟩ | ⟨rfl, gO⟩ | ⟨rfl, T, kvs, gO, gT, tv⟩⟩ := o
 ·rw [Jaa (i := O) (h1 := h) ho gO qlh (Jnr _)]
  dsimp! [h1, h2, Jmg]
  exact ⟨by rw [J3a, if_pos rfl], .refl _⟩
 ·rw [Jaa (i := O) (h1 := h) ho gO qlh (Jka _)]
  dsimp! [h1, h2, Jmg]
  exact ⟨by rw [J3a, if_neg (by decide), if_pos rfl], .refl _⟩
 ·rw [Jaa (i := O) (h1 := h) ho gO olh (Jma _)]
  dsimp! [h1, h2]
  refine WR.mono (Jp3 (k := k) hd gO ha l6) ?_
  rintro _ h3 ⟨rfl, x3⟩
  exact ⟨by rw [J3a, if_neg (by decide), if_neg (by decide), Joz ha], x3⟩
seal WS in
theorem J3l {kind d : Int} {S lo : Nat} {ys : List IV} {rs : List RH} {c : Cm} (hk : kind = 0 ∨ kind = 1 ∨ kind = 2) (hS : h[S]? = some (.lst ys)) (w : RowT h lo ys rs) (hl : rs.length <= 12) (six : ∀ r ∈ rs, r.2.length <= 6 /\ ∀ x ∈ r.2, IsNm x.1) (ha : c.at_ < rs.length) :
  WR (Ji9 (k + 1) [.int kind, .ref S, tupC c, .int d] h) λ v h' => v = .tup [.int (J3b kind rs c d), .bl (J3a kind rs c d)] /\ Ex h h' := by
 have hb := Jd
 have wl := w.len
 have get : ∀ (n : Nat) (hn : n < rs.length), ∃ q, atI ys (n : Int) = some (tp6 rs[n] q) /\ h[q]? = some (.lst ((rs[n]).2.map tupH)) := λ n hn => by
  obtain ⟨q, e, g⟩ := w.get (List.getElem?_eq_getElem hn)
  exact ⟨q, Jax e, g⟩
 obtain ⟨q, ea, gq⟩ := get c.at_ ha
 obtain ⟨l6, nmr⟩ := six _ (List.getElem_mem ha)
 have eR := λ (kd : Int) => J3b.eq_1 kd rs c d
 have eH := λ (kd : Int) => J3a.eq_1 kd rs c d
 rw [Joz ha] at eR eH
 generalize hr : rs[c.at_] = r at ea gq l6 nmr eR eH
 rw [Jur]
 rcases hk with rfl | rfl | rfl
 case inr.inl =>
  simp! +ground [Jb2, decide_true, Jbo, hS, ea, List.length_cons, List.length_nil]
  exact ⟨by omega, by simp [eR, eH], .refl _⟩
 case inr.inr =>
  simp! +ground [Jb2, Jhz, show ¬ (2 : Int) = 1 by decide, decide_false, decide_true, List.length_cons, List.length_nil]
  exact ⟨by omega, by simp [eR, eH], .refl _⟩
 have a5 : ∀ (r : RH) (q : Nat), atI (IV.str r.1.name :: tp5 r q) 5 = some (.ref q) := λ r q => Jyq
 simp! +ground [Jb2, Jhz, Jlz, Jl3, show ¬ (0 : Int) = 1 by decide, show ¬ (0 : Int) = 2 by decide, decide_false]
 refine WR.mono (Jzm (h := h) (n := 3) (st := stT) (xs := r.2.map tupH) (chk := λ h' => h'[q]? = some (.lst (r.2.map tupH))) (p := avV d) (f := frs) ?_ (by rw [List.length_map]; omega) (λ h2 kk => kk _ _ gq) ?_ ?_ ?_) ?_
 ·simp! +ground [Jbo, hS, ea, a5, Jak, gq]
 ·intro x hx ls h2 hls
  obtain ⟨b, _, rfl⟩ := List.mem_map.mp hx
  match ls, hls with
  | [l0, l1, l2], _ => exact ⟨rfl, rfl⟩
 ·intro x hx h2 kk
  obtain ⟨b, _, rfl⟩ := List.mem_map.mp hx
  simp only [List.map_cons, List.map_nil, List.getElem?_cons_succ, List.getElem?_cons_zero, Option.join_some]
  simp! +ground [Jj3, stT, tupH, avV, decide_eq_true_eq, decide_eq_false_iff_not]
  exact ⟨λ z => ⟨by simp [z], .refl _⟩, λ z => ⟨by simp [z], .refl _⟩⟩
 ·intro x hx _ h2 kk
  obtain ⟨b, _, rfl⟩ := List.mem_map.mp hx
  simp! +ground [Jir, stT, tupH, frs]
  exact .refl _
 rintro _ _ ⟨rfl, g, rfl⟩
 rw [Jsr]
 have la := Jvd r.2 d
 have nms : ∀ x ∈ act r.2 d, IsNm x := λ x hx => by
  obtain ⟨b, hb', rfl⟩ := Jsl hx
  exact nmr b hb'
 have x1 : Ex h (h ++ L3.IO.lst ((act r.2 d).map IV.str) :: g) := .cons _ _ _
 have gT : (h ++ L3.IO.lst ((act r.2 d).map IV.str) :: g)[h.length]? = some (.lst ((act r.2 d).map IV.str)) := Jp
 generalize act r.2 d = ts at gT nms la eR eH x1
 generalize h ++ L3.IO.lst (ts.map IV.str) :: g = h1 at x1 gT ⊢
 generalize h.length = T at gT ⊢
 simp! +ground [Jmh]
 refine ⟨by omega, ?_⟩
 refine Ja5 (λ n σ h' => Ex h1 h' /\ ∃ b, σ = [some (.int 0), some (.ref S), some (tupC c), some (.int d), some (.int (Jc7 (rs.map (·.2)) ts c.at_ n : Int)), some (.ref T), b]) (λ _ _ _ _ => trivial) ?_ ?_ ⟨.refl _, none, rfl⟩
 ·rintro n hn _ h2 ⟨x2, b, rfl⟩
  rw [Jgx]
  rw [Jac] at hn
  have na : n < c.at_ := by omega
  have hnr : n < rs.length := by omega
  have en : (0 : Int) + (n : Int) = n := by omega
  have x12 := x1.trans x2
  obtain ⟨q2, ea2, gq2⟩ := get n hnr
  obtain ⟨l62, nm2⟩ := six _ (List.getElem_mem hnr)
  have fs := J20 (hss := rs.map (·.2)) (zs := ts) (a := c.at_) (n := n) (by rw [List.length_map]; exact hnr) na
  rw [List.getElem_map] at fs
  rw [fs]
  generalize rs[n] = r2 at ea2 gq2 l62 nm2
  simp! +ground [en, Jk2, decide_eq_true_eq, decide_eq_false_iff_not]
  refine ⟨λ e => ?_, λ e => ?_⟩
  ·have e' : Jc7 (rs.map (·.2)) ts c.at_ n = c.at_ := by omega
   rw [if_pos e']
   refine WR.mono (Jl7 (h := h2) (xs := r2.2.map tupH) (chk := λ h' => h'[q2]? = some (.lst (r2.2.map tupH))) (p := inV ts) (f := id) ?_ (by rw [List.length_map]; omega) (λ h3 kk => kk _ _ (x12.get gq2)) ?_ ?_) ?_
   ·simp! +ground [Jbo, x12.get hS, ea2, a5, Jak, x12.get gq2]
   ·intro x hx h3 kk
    obtain ⟨b, hb', rfl⟩ := List.mem_map.mp hx
    simp only [List.map_cons, List.map_nil, List.getElem?_cons_succ, List.getElem?_cons_zero, Option.join_some]
    simp! +ground [Jj0, tupH]
    rw [J2e (kk _ _ (x2.get gT)) nms (nm2 b hb')]
    simp! +ground [true_and]
    exact ⟨rfl, .refl _⟩
   ·intro x hx _ h3 kk
    simp! +ground [Jig]
    exact ⟨rfl, .refl _⟩
   ·rintro _ _ ⟨rfl, g2, rfl⟩
    rw [J0f]
    have hh := J4z ts r2.2
    have nmf : ∀ x ∈ r2.2.filter (λ b => ts.any λ a => decide (a = b.1)), IsNm x.1 := λ x hx => nm2 x (List.mem_filter.mp hx).1
    generalize r2.2.filter (λ b => ts.any λ a => decide (a = b.1)) = fs' at hh nmf
    simp! +ground [List.length_nil, Nat.zero_le]
    rw [Jxm (grow Jp) Jj nmf, <- hh]
    have x3 : Ex h1 (h2 ++ L3.IO.lst (fs'.map tupH) :: g2 ++ [L3.IO.lst []]) := (x2.trans (.cons _ _ _)).trans (.one _ _)
    simp! +ground [true_and]
    refine ⟨λ q => ⟨x3, _, by rw [if_pos q]⟩, λ q => ⟨x3, _, by rw [if_neg (by rw [q]; exact Bool.false_ne_true), e']⟩⟩
  ·rw [if_neg (by omega)]
   exact ⟨x2, _, rfl⟩
 ·rintro _ h2 ⟨x2, b, rfl⟩
  rw [Jac]
  have gT2 := x2.get gT
  simp! +ground [Jm6, List.length_cons, List.length_nil, Nat.zero_le, Jl2 (grow gT2) nms Jj]
  rw [show ((c.at_ : Int) - 0).toNat = c.at_ by omega]
  exact ⟨by omega, by simp [eR, eH], (x1.trans x2).trans (.one _ _)⟩
theorem Jzo {c : Cm} {z : Int} {q : Nat} {hs : List Hd} (gq : h[q]? = some (.lst (hs.map tupH))) (l6 : hs.length <= 6) (n1 : 1 <= c.len) :
  WR (Jdz (k + 1) [tupC c, .ref q, .int z] h) λ v h' => ∃ (i : Nat) (zs : List Int), v = .ref i /\ h'[i]? = some (.lst (zs.map .int)) /\ zs.length <= 100 /\ Ex h h' := by
 have hb := Jd
 rw [Jp4]
 simp! [Jdu, Jjk, Jak, grow gq, List.length_cons, List.length_nil, show (0 : Int) < c.len by omega]
 refine ⟨by omega, ?_⟩
 refine Ja5 (λ n σ h' => ∃ (i : Nat) (zs : List Int) (b c' d : Option IV), h'[i]? = some (.lst (zs.map .int)) /\ zs.length = 3 + 5 * n /\ Ex h h' /\ σ = [some (tupC c), some (.ref q), some (.int z), some (.ref i), b, c', d]) (λ _ _ _ w => by obtain ⟨_, _, _, _, _, _, _, x, _⟩ := w; exact x.get gq) ?_ ?_ ⟨h.length, [0, c.len - 1, z % c.len], none, none, none, Jj, rfl, .one _ _, rfl⟩
 ·rintro n hn _ h2 ⟨i, zs, b, c', d, gi, lz, x2, rfl⟩
  have hn' : n < hs.length := by simpa using hn
  rw [List.getElem_map]
  generalize hs[n] = a
  simp! [Jxu, J2c, J16, Jgv, tupH, Jsh, Jj, grow gi, List.length_map, List.length_cons, List.length_nil]
  refine ⟨by omega, by omega, _, zs ++ [a.2.1, a.2.1 + 1, a.2.2 - 1, a.2.2, a.2.2 + 1], _, _, _, ?_, by simp [lz]; omega, (x2.trans (.one _ _)).trans (.one _ _), rfl⟩
  rw [List.map_append]
  exact Jj
 ·rintro _ h2 ⟨i, zs, b, c', d, gi, lz, x2, rfl⟩
  rw [List.length_map] at lz
  simp! [Jji]
  refine WR.mono (Jl7 (h := h2) (xs := zs.map IV.int) (chk := λ h' => h'[i]? = some (.lst (zs.map IV.int))) (p := λ v => match v with | .int x => decide (x < c.len) | _ => false) (f := id) ?_ (by rw [List.length_map]; omega) (λ h3 kk => kk _ _ gi) ?_ ?_) ?_
  ·simp! [Jak, gi]
  ·intro x hx h3 kk
   obtain ⟨y, _, rfl⟩ := List.mem_map.mp hx
   simp only [List.map_cons, List.map_nil, List.getElem?_cons_succ, List.getElem?_cons_zero, Option.join_some]
   simp! [Jfn]
   exact .refl _
  ·intro x hx _ h3 kk
   simp! [Jfg]
   exact ⟨rfl, .refl _⟩
  ·rintro _ _ ⟨rfl, g2, rfl⟩
   refine ⟨_, zs.filter λ x => decide (x < c.len), rfl, ?_, Nat.le_trans (List.length_filter_le _ _) (by omega), x2.trans (.cons _ _ _)⟩
   rw [Jp, List.map_id, List.filter_map]
   rfl
end
end LW
namespace LW
open PySem L2 L3 L4
section
variable {k : Nat} {h : IH}
theorem J1z {x : Int} {b : Bool} : cNe (.tup [.int x, .bl b]) (.tup [.int x, .bl b]) h = .ok (.bl false) h := by
 unfold cNe
 have e4 : Jjw (.tup [.int x, .bl b]) (.tup [.int x, .bl b]) = none := rfl
 have e1 : toD h 6 (.tup [.int x, .bl b]) = some (.tuple [.int x, .bool b]) := rfl
 have e3 : Jie (.tup [.int x, .bl b]) (.tup [.int x, .bl b]) h = some true := by
  unfold Jie
  rw [e1]
  dsimp only
  have q : PyData.canLay0 (.tuple [.int x, .bool b]) = true := rfl
  rw [if_pos ⟨q, q⟩, Js9 _ q]
 rw [e4]
 dsimp only
 rw [e3]
 rfl
structure Sit (h : IH) (kind : Int) (S R O lo : Nat) (ys : List IV) (rs : List RH) (cs : List Cm) : Prop where
 s : h[S]? = some (.lst ys)
 w : RowT h lo ys rs
 r : h[R]? = some (.lst (cs.map tupC))
 o : IsOr h kind O rs
theorem Sit.kp {h h' : IH} {kind : Int} {S R O lo : Nat} {ys : List IV} {rs : List RH} {cs : List Cm} (x : Kp h h') (q : Sit h kind S R O lo ys rs cs) : Sit h' kind S R O lo ys rs cs := ⟨x _ _ q.s, q.w.kp x, x _ _ q.r, q.o.kp x⟩
noncomputable abbrev sg (ns : List Int) (kind : Int) (S R O : Nat) (a5 a6 a7 a8 a9 : Option IV) : ISt := [some (.rol (ns.map .int)), some (.int kind), some (.ref S), some (.ref R), some (.ref O), a5, a6, a7, a8, a9]
seal WS in
theorem J27 {ns : List Int} {kind d : Int} {S R O lo : Nat} {ys : List IV} {rs : List RH} {cs : List Cm} {c : Cm} {a5 a8 a9 : Option IV} (q : Sit h kind S R O lo ys rs cs) (hk : kind = 0 ∨ kind = 1 ∨ kind = 2) (hl : rs.length <= 12) (six : ∀ r ∈ rs, r.2.length <= 6 /\ ∀ x ∈ r.2, IsNm x.1) (ha : c.at_ < rs.length) {N : ISt -> IH -> Prop} {Rr : IV -> IH -> Prop}
  (fin : ∀ h', Ex h h' -> ∀ a8 a9, N (sg ns kind S R O a5 (some (tupC c)) (some (.int d)) a8 a9) h') :
  WS (Jpu (k + 3) (sg ns kind S R O a5 (some (tupC c)) (some (.int d)) a8 a9) h) N Rr := by
 have l6 := λ r hr => (six r hr).1
 dsimp! [Jpu]
 refine WR.mono (Jtz (k := k) (c := c) (d := d) q.o rfl rfl rfl ha l6) ?_
 rintro _ h1 ⟨rfl, x1⟩
 have q1 := q.kp x1.kp
 try simp (implicitDefEqProofs := false) only [Jg8, Jez, Jc0, Jhd, Jnx, Jc3, Jcu, Jcq, Jgt, Jho, Jb3, Jgy, Jhf, Jdj, Je, Je8, Jvl, Jms, Jni, Jgz, Jn8, Jhn, Jn5, Jn4, Jc1, Jhh, Jcw, Jcr, Jau, Jc2, Ja7, Jgu, Jg6, Jc4, Jc5, Jnn, Jhs, Jg7, Ja9, Jbd, Jn3, Jg9, Jg1, Jg4, Jhq, Jhl, Jcx, Jg5, Jhm, Jcs, Jnz, Jnh, Jnv, Jnt, Jnu, Jno, Jhu, Jhc, Jhg, Jcz, Jhk, Jhx, Jn2, Jcc, Jg3, Jct, Jcv, Jhr, Jht, Jhv, Jha, Jba, Krz, Ksz, Kvz, Ktz, Kuz]
 refine WR.mono (Jr1 (k := k) (c := c) (d := d) q1.o rfl rfl rfl ha l6) ?_
 rintro _ h2 ⟨rfl, x2⟩
 have q2 := q1.kp x2.kp
 simp! [List.length_cons, List.length_nil]
 have hb := Jd
 refine ⟨by omega, ?_⟩
 refine WR.mono (J3l (k := k + 2) (d := d) hk q2.s q2.w hl six ha) ?_
 rintro _ h3 ⟨rfl, x3⟩
 simp! [J1z]
 exact fin h3 ((x1.trans x2).trans x3) _ _
seal WS in
theorem Jvb {ns : List Int} {kind : Int} {S R O lo : Nat} {ys : List IV} {rs : List RH} {cs : List Cm} {c : Cm} {a5 a7 a8 a9 : Option IV} (q : Sit h kind S R O lo ys rs cs) (hk : kind = 0 ∨ kind = 1 ∨ kind = 2) (hl : rs.length <= 12) (six : ∀ r ∈ rs, r.2.length <= 6 /\ ∀ x ∈ r.2, IsNm x.1) (ok : COk rs c) {N : ISt -> IH -> Prop} {Rr : IV -> IH -> Prop}
  (fin : ∀ h', Ex h h' -> ∀ a7 a8 a9, N (sg ns kind S R O a5 (some (tupC c)) a7 a8 a9) h') :
  WS (Jo9 (k + 3) (sg ns kind S R O a5 (some (tupC c)) a7 a8 a9) h) N Rr := by
 have hb := Jd
 have c7 := λ (h : IH) => Jly (k := k + 2) (h := h) ns 7 (by decide)
 generalize ns.getD (Int.toNat 7) 0 = x7 at c7
 have l3 : (Int.natAbs 3).log2 < 9000 := by decide
 have at_ := ok.at_
 obtain ⟨qq, e, g⟩ := q.w.get (List.getElem?_eq_getElem at_)
 have ea : atI ys (c.at_ : Int) = some (tp6 rs[c.at_] qq) := Jax e
 have a5' : atI (IV.str (rs[c.at_]).1.name :: tp5 rs[c.at_] qq) 5 = some (.ref qq) := Jyq
 simp! [Jo9, Jbo, q.s, ea, a5', c7, l3, show (0 : Int) < 3 by decide]
 refine WR.mono (Jzo (k := k + 2) g (six _ (List.getElem_mem ok.at_)).1 ok.n1) ?_
 rintro _ h1 ⟨i, zs, rfl, gi, lz, x1⟩
 have q1 := q.kp x1.kp
 simp only [Jak, gi, exists_eq_left, exists_eq_left', IV.bl.injEq, IV.int.injEq, IV.ref.injEq, IV.str.injEq, IO.lst.injEq, IV.tup.injEq, Option.some.injEq, Bool.not_true, Bool.not_false, reduceCtorEq, eq_self, true_implies, false_implies, implies_true, and_true, true_and, and_false, false_and, Option.bind_some, Bool.true_eq_false, Bool.false_eq_true, Jkt, Jfu, Jk0, Jqc, Jk6, Jks, Je1, Jaz, Jgc, Jbl, Jfp, Jju, Jkz, Jfj, Jfk, Jh7, Jle, Joo, Jfi, Jgb, Jfr]
 refine Ja5 (λ n σ h' => Ex h1 h' /\ ∃ a7 a8 a9, σ = sg ns kind S R O a5 (some (tupC c)) a7 a8 a9) (λ n σ h' ⟨x, _⟩ => x.get gi) ?_ ?_ ⟨.refl _, _, _, _, rfl⟩
 ·rintro n hn _ h2 ⟨x2, a7, a8, a9, rfl⟩
  rw [List.getElem_map]
  try simp (implicitDefEqProofs := false) only [Jg8, Jez, Jc0, Jhd, Jnx, Jc3, Jcu, Jcq, Jgt, Jho, Jb3, Jgy, Jhf, Jdj, Je, Je8, Jvl, Jms, Jni, Jgz, Jn8, Jhn, Jn5, Jn4, Jc1, Jhh, Jcw, Jcr, Jau, Jc2, Ja7, Jgu, Jg6, Jc4, Jc5, Jnn, Jhs, Jg7, Ja9, Jbd, Jn3, Jg9, Jg1, Jg4, Jhq, Jhl, Jcx, Jg5, Jhm, Jcs, Jnz, Jnh, Jnv, Jnt, Jnu, Jno, Jhu, Jhc, Jhg, Jcz, Jhk, Jhx, Jn2, Jcc, Jg3, Jct, Jcv, Jhr, Jht, Jhv, Jha, Jba, Krz, Ksz, Kvz, Ktz, Kuz]
  exact J27 (k := k) (q1.kp x2.kp) hk hl six ok.at_ λ h' x a8 a9 => ⟨x2.trans x, _, _, _, rfl⟩
 ·rintro _ h2 ⟨x2, a7, a8, a9, rfl⟩
  exact fin h2 (x1.trans x2) _ _ _
seal WS in
theorem J4t {ns : List Int} {kind : Int} {S R O lo : Nat} {ys : List IV} {rs : List RH} {cs : List Cm} {a5 a6 a7 a8 a9 : Option IV} (q : Sit h kind S R O lo ys rs cs) (hk : kind = 0 ∨ kind = 1 ∨ kind = 2) (hl : rs.length <= 12) (six : ∀ r ∈ rs, r.2.length <= 6 /\ ∀ x ∈ r.2, IsNm x.1) (L : Legal rs cs) {N : ISt -> IH -> Prop} {Rr : IV -> IH -> Prop}
  (fin : ∀ h', Ex h h' -> ∀ a6 a7 a8 a9, N (sg ns kind S R O a5 a6 a7 a8 a9) h') :
  WS (Jpa (k + 3) (sg ns kind S R O a5 a6 a7 a8 a9) h) N Rr := by
 simp! [Jpa, Jak, q.r]
 refine Ja5 (λ n σ h' => Ex h h' /\ ∃ a6 a7 a8 a9, σ = sg ns kind S R O a5 a6 a7 a8 a9) (λ n σ h' ⟨x, _⟩ => x.get q.r) ?_ ?_ ⟨.refl _, _, _, _, _, rfl⟩
 ·rintro n hn _ h2 ⟨x2, a6, a7, a8, a9, rfl⟩
  rw [List.length_map] at hn
  rw [List.getElem_map]
  try simp (implicitDefEqProofs := false) only [Jg8, Jez, Jc0, Jhd, Jnx, Jc3, Jcu, Jcq, Jgt, Jho, Jb3, Jgy, Jhf, Jdj, Je, Je8, Jvl, Jms, Jni, Jgz, Jn8, Jhn, Jn5, Jn4, Jc1, Jhh, Jcw, Jcr, Jau, Jc2, Ja7, Jgu, Jg6, Jc4, Jc5, Jnn, Jhs, Jg7, Ja9, Jbd, Jn3, Jg9, Jg1, Jg4, Jhq, Jhl, Jcx, Jg5, Jhm, Jcs, Jnz, Jnh, Jnv, Jnt, Jnu, Jno, Jhu, Jhc, Jhg, Jcz, Jhk, Jhx, Jn2, Jcc, Jg3, Jct, Jcv, Jhr, Jht, Jhv, Jha, Jba, Krz, Ksz, Kvz, Ktz, Kuz]
  exact Jvb (k := k) (q.kp x2.kp) hk hl six (L.ok _ (List.getElem_mem hn)) λ h' x a7 a8 a9 => ⟨x2.trans x, _, _, _, _, rfl⟩
 ·rintro _ h2 ⟨x2, a6, a7, a8, a9, rfl⟩
  exact fin h2 x2 _ _ _ _
seal WS in
theorem Jx7 (ns : List Int) (hl : ns.length <= 63) : ∃ h', Jsj 16 [.rol (ns.map IV.int)] [] = .ok (.bl true) h' := by
 suffices h : WR (Jsj 16 [.rol (ns.map IV.int)] []) λ v _ => v = .bl true by
  obtain ⟨v, h', e, rfl⟩ := h.eq
  exact ⟨h', e⟩
 have hb := Jd
 rw [J3q]
 have c7 := λ (h : IH) => Jly (k := 14) (h := h) ns 7 (by decide)
 generalize ns.getD (Int.toNat 7) 0 = x7 at c7
 simp! [Jsn, Ju4, c7, show (0 : Int) < 3 by decide]
 have hk : x7 % 3 = 0 ∨ x7 % 3 = 1 ∨ x7 % 3 = 2 := by omega
 generalize x7 % 3 = kind at hk
 refine WR.mono (J2y (k := 11) ns (decide (kind = 0))) ?_
 rintro _ h1 ⟨x1, S, lo, ys, rs, c, unit, rfl, _, gS, w, D, lr, no⟩
 simp! [Ju6]
 have ec : cutI (ns.map IV.int) (some 8) (some 22) = ((ns.drop 8).take 14).map IV.int := by
  rw [show (some (8 : Int)) = some ((8 : Nat) : Int) from rfl, show (some (22 : Int)) = some ((22 : Nat) : Int) from rfl, J1q]
  rw [List.map_take, List.map_drop, List.drop_take]
 rw [ec]
 have x2 : Ex h1 (h1 ++ [L3.IO.lst (((ns.drop 8).take 14).map IV.int)]) := .one _ _
 refine WR.mono (J50 (k := 13) (x2.get gS) (w.kp x2.kp) D (by omega) Jj (by rw [List.length_take]; omega)) ?_
 rintro _ h3 ⟨R, cs, rfl, _, gR, L, _, x3⟩
 have x23 := x2.trans x3
 simp! [Jxj]
 refine WR.mono (Jx5 (k := 9) (x23.get gS) (w.kp x23.kp) D (by omega) hk λ ne => no (decide_eq_false ne)) ?_
 rintro _ h4 ⟨O, rfl, x4, o⟩
 have x24 := x23.trans x4
 have q : Sit h4 kind S R O lo ys rs cs := ⟨x24.get gS, w.kp x24.kp, x4.get gR, o⟩
 have G := D.gd (show rs.length <= 7 by omega)
 have six : ∀ r ∈ rs, r.2.length <= 6 /\ ∀ x ∈ r.2, IsNm x.1 := λ r hr => ⟨(G.f r hr).ok.few, λ a ha => ((G.f r hr).ok.each a ha).1⟩
 simp! [Jxc]
 refine ⟨by omega, ?_⟩
 refine Ja5 (λ n σ h' => Ex h4 h' /\ ∃ a5 a6 a7 a8 a9, σ = sg ns kind S R O a5 a6 a7 a8 a9) (λ _ _ _ _ => trivial) ?_ ?_ ⟨.refl _, _, _, _, _, _, rfl⟩
 ·rintro n hn _ h5 ⟨x5, a5, a6, a7, a8, a9, rfl⟩
  try simp (implicitDefEqProofs := false) only [Jg8, Jez, Jc0, Jhd, Jnx, Jc3, Jcu, Jcq, Jgt, Jho, Jb3, Jgy, Jhf, Jdj, Je, Je8, Jvl, Jms, Jni, Jgz, Jn8, Jhn, Jn5, Jn4, Jc1, Jhh, Jcw, Jcr, Jau, Jc2, Ja7, Jgu, Jg6, Jc4, Jc5, Jnn, Jhs, Jg7, Ja9, Jbd, Jn3, Jg9, Jg1, Jg4, Jhq, Jhl, Jcx, Jg5, Jhm, Jcs, Jnz, Jnh, Jnv, Jnt, Jnu, Jno, Jhu, Jhc, Jhg, Jcz, Jhk, Jhx, Jn2, Jcc, Jg3, Jct, Jcv, Jhr, Jht, Jhv, Jha, Jba, Krz, Ksz, Kvz, Ktz, Kuz]
  exact J4t (k := 12) (q.kp x5.kp) hk (by omega) six L λ h' x a6 a7 a8 a9 => ⟨x5.trans x, _, _, _, _, _, rfl⟩
 ·rintro _ h5 ⟨x5, a5, a6, a7, a8, a9, rfl⟩
  simp! [Jwa]
end
end LW
end
namespace LW
open PySem L2 L3 L4
section
variable {K : W.Frag} {h : Heap} {mg : Str -> Option Value} {a : Addr} {oc kV dc pm cd ct : Value} {od an : Option Addr} {sl : Array (Option Value)}
theorem Jsv : FnB "is_whole" "is_whole" Jgh := ⟨scOk.of (by decide +kernel), rfl, rfl, λ _ _ _ _ _ _ => len1 (λ _ => rfl)⟩
theorem Jlk : FnB "is_whole_from" "is_whole_from" Jat := ⟨scOk.of (by decide +kernel), rfl, rfl, λ _ _ _ _ _ _ => len2 (λ _ _ => rfl)⟩
theorem Jrd : FnB "rounds_up" "rounds_up" Jdo := ⟨scOk.of (by decide +kernel), rfl, rfl, λ _ _ _ _ _ _ => len2 (λ _ _ => rfl)⟩
theorem Jvj : FnB "due_at" "due_at" Jlt := ⟨scOk.of (by decide +kernel), rfl, rfl, λ _ _ _ _ _ _ => len2 (λ _ _ => rfl)⟩
theorem Jt3 : FnB "is_name" "is_name" Jih := ⟨scOk.of (by decide +kernel), rfl, rfl, λ _ _ _ _ _ _ => len1 (λ _ => rfl)⟩
theorem Jug : FnB "is_hold" "is_hold" Jjy := ⟨scOk.of (by decide +kernel), rfl, rfl, λ _ _ _ _ _ _ => len2 (λ _ _ => rfl)⟩
theorem Jqn : FnB "lie_apart" "lie_apart" Jem := ⟨scOk.of (by decide +kernel), rfl, rfl, λ _ _ _ _ _ _ => len2 (λ _ _ => rfl)⟩
theorem Juk : FnB "lies_in" "lies_in" Jip := ⟨scOk.of (by decide +kernel), rfl, rfl, λ _ _ _ _ _ _ => len2 (λ _ _ => rfl)⟩
theorem Jne : FnB "go_together" "go_together" Jbq := ⟨scOk.of (by decide +kernel), rfl, rfl, λ _ _ _ _ _ _ => len2 (λ _ _ => rfl)⟩
theorem Jjc : FnB "all_go_together" "all_go_together" J7 := ⟨scOk.of (by decide +kernel), rfl, rfl, λ _ _ _ _ _ _ => len1 (λ _ => rfl)⟩
theorem Jrk : FnB "own_holds" "own_holds" Jd9 := ⟨scOk.of (by decide +kernel), rfl, rfl, λ _ _ _ _ _ _ => len2 (λ _ _ => rfl)⟩
theorem Jtt : FnB "own_due" "own_due" Ji6 := ⟨scOk.of (by decide +kernel), rfl, rfl, λ _ _ _ _ _ _ => len2 (λ _ _ => rfl)⟩
theorem Jqq : FnScope Jk.N Jk.ps (Ji Jk.st) := scOk.of (by decide +kernel)
theorem Jqy {C : Addr} {T : Addr} {ox : Value} {oy : Option Addr} {nx : Nat} {sx : Array (Option Value)} {tk1 : Tok} (ha : W.findIn K (.ref C) "__init__" = some (some (.ref a))) (hi : W.isFn K (.ref a) = true) (hl : K.lookup a = some ⟨oc, od, .func (W.fnOf "__init__" "Work.__init__" (Ja1 Jk.st) (J4 Jk.st) (Ji Jk.st) (.ref T) kV dc pm an cd ct), sl⟩) (hc : W.codeIn K cd "Work.__init__" = true) (hk : W.keepIn K (.ref a) = true) (hd : K.lookup T = some ⟨ox, oy, .seq #[.none, .int 0 tk1, .none] nx, sx⟩) (hm : W.makesIn K C = true) (hq : W.keepIn K (.ref C) = true) : ∃ fa fd, Mk K C fa /\ DefOk K "__init__" Jk fa fd :=
 ⟨a, _, ⟨hm, ha, hi, hq⟩, ⟨⟨_, ⟨oc, od, kV, dc, pm, an, cd, ct, sl, rfl, hl, hc⟩, hk⟩, Jqq, (by intro j hj; rcases upto3 j (show j <= 3 from hj) with rfl | rfl | rfl | rfl; exact ⟨[.none, .int 0 tk1, .none], λ s us Y hl => len4 (P := λ us => BindsTo s _ ⟨us, []⟩ (Jk.ps.zip (us ++ [.none, .int 0 tk1, .none]))) (λ _ _ _ _ => .of_defaults rfl (Y T _ hd) rfl rfl rfl) us (show us.length = 4 by rw [List.length_append] at hl; exact Nat.add_right_cancel (m := 3) hl), rfl, [V.non, V.int 0, V.non], .cons rfl (.cons ⟨_, rfl⟩ (.cons rfl (.nil))), λ _ _ => ⟨_, _, rfl, rfl, ⟨_, _, rfl, rfl, ⟨_, _, rfl, rfl, rfl⟩⟩⟩⟩; exact ⟨[.int 0 tk1, .none], λ s us Y hl => len5 (P := λ us => BindsTo s _ ⟨us, []⟩ (Jk.ps.zip (us ++ [.int 0 tk1, .none]))) (λ _ _ _ _ _ => .of_defaults rfl (Y T _ hd) rfl rfl rfl) us (show us.length = 5 by rw [List.length_append] at hl; exact Nat.add_right_cancel (m := 2) hl), rfl, [V.int 0, V.non], .cons ⟨_, rfl⟩ (.cons rfl (.nil)), λ _ _ => ⟨_, _, rfl, rfl, ⟨_, _, rfl, rfl, rfl⟩⟩⟩; exact ⟨[.none], λ s us Y hl => len6 (P := λ us => BindsTo s _ ⟨us, []⟩ (Jk.ps.zip (us ++ [.none]))) (λ _ _ _ _ _ _ => .of_defaults rfl (Y T _ hd) rfl rfl rfl) us (show us.length = 6 by rw [List.length_append] at hl; exact Nat.add_right_cancel (m := 1) hl), rfl, [V.non], .cons rfl (.nil), λ _ _ => ⟨_, _, rfl, rfl, rfl⟩⟩; exact ⟨[], λ s us Y hl => len7 (P := λ us => BindsTo s _ ⟨us, []⟩ (Jk.ps.zip (us ++ []))) (λ _ _ _ _ _ _ _ => .of_defaults rfl (Y T _ hd) rfl rfl rfl) us (show us.length = 7 by rw [List.length_append] at hl; exact Nat.add_right_cancel (m := 0) hl), rfl, [], .nil, λ _ _ => rfl⟩)⟩⟩
theorem Jrv : FnB "held" "Work.held" Jei := ⟨scOk.of (by decide +kernel), rfl, rfl, λ _ _ _ _ _ _ => len1 (λ _ => rfl)⟩
theorem Jst : FnB "ceilings" "ceilings" Jgm := ⟨scOk.of (by decide +kernel), rfl, rfl, λ _ _ _ _ _ _ => len1 (λ _ => rfl)⟩
theorem Jmo : FnB "refuse_holds" "refuse_holds" Jbb := ⟨scOk.of (by decide +kernel), rfl, rfl, λ _ _ _ _ _ _ => len1 (λ _ => rfl)⟩
theorem Jns : FnB "things_held" "things_held" Jbr := ⟨scOk.of (by decide +kernel), rfl, rfl, λ _ _ _ _ _ _ => len2 (λ _ _ => rfl)⟩
theorem Jv0 : FnB "lifted" "lifted" Jlw := ⟨scOk.of (by decide +kernel), rfl, rfl, λ _ _ _ _ _ _ => len3 (λ _ _ _ => rfl)⟩
theorem Jpe : FnB "__init__" "Order.__init__" Jch := ⟨scOk.of (by decide +kernel), rfl, rfl, λ _ _ _ _ _ _ => len2 (λ _ _ => rfl)⟩
theorem Jlg : FnB "rank_of" "Order.rank_of" Jb0 := ⟨scOk.of (by decide +kernel), rfl, rfl, λ _ _ _ _ _ _ => len3 (λ _ _ _ => rfl)⟩
theorem Jcn : FnB "holds" "Order.holds" Jr := ⟨scOk.of (by decide +kernel), rfl, rfl, λ _ _ _ _ _ _ => len3 (λ _ _ _ => rfl)⟩
theorem Joa : FnB "__init__" "ByRank.__init__" Jbv := ⟨scOk.of (by decide +kernel), rfl, rfl, λ _ _ _ _ _ _ => len2 (λ _ _ => rfl)⟩
theorem Jki : FnB "rank_of" "ByRank.rank_of" Jah := ⟨scOk.of (by decide +kernel), rfl, rfl, λ _ _ _ _ _ _ => len3 (λ _ _ _ => rfl)⟩
theorem Jl9 : FnB "holds" "ByRank.holds" Ja8 := ⟨scOk.of (by decide +kernel), rfl, rfl, λ _ _ _ _ _ _ => len3 (λ _ _ _ => rfl)⟩
theorem Jos : FnB "__init__" "ByDue.__init__" Jcl := ⟨scOk.of (by decide +kernel), rfl, rfl, λ _ _ _ _ _ _ => len2 (λ _ _ => rfl)⟩
theorem Jlj : FnB "rank_of" "ByDue.rank_of" Jao := ⟨scOk.of (by decide +kernel), rfl, rfl, λ _ _ _ _ _ _ => len3 (λ _ _ _ => rfl)⟩
theorem Jlf : FnB "__init__" "ByComing.__init__" Jap := ⟨scOk.of (by decide +kernel), rfl, rfl, λ _ _ _ _ _ _ => len2 (λ _ _ => rfl)⟩
theorem Jh9 : FnB "rank_of" "ByComing.rank_of" J1 := ⟨scOk.of (by decide +kernel), rfl, rfl, λ _ _ _ _ _ _ => len3 (λ _ _ _ => rfl)⟩
theorem Jro : FnB "own_works" "own_works" Jdy := ⟨scOk.of (by decide +kernel), rfl, rfl, λ _ _ _ _ _ _ => len1 (λ _ => rfl)⟩
theorem Jr7 : FnB "crowd_of" "crowd_of" Jgo := ⟨scOk.of (by decide +kernel), rfl, rfl, λ _ _ _ _ _ _ => len1 (λ _ => rfl)⟩
theorem Jql : FnB "__init__" "Duty.__init__" Jew := ⟨scOk.of (by decide +kernel), rfl, rfl, λ _ _ _ _ _ _ => len2 (λ _ _ => rfl)⟩
theorem Jrh : FnB "size" "Duty.size" Jea := ⟨scOk.of (by decide +kernel), rfl, rfl, λ _ _ _ _ _ _ => len1 (λ _ => rfl)⟩
theorem Jqg : FnB "work" "Duty.work" Jev := ⟨scOk.of (by decide +kernel), rfl, rfl, λ _ _ _ _ _ _ => len2 (λ _ _ => rfl)⟩
theorem Jot : FnB "crowd" "Duty.crowd" Jfw := ⟨scOk.of (by decide +kernel), rfl, rfl, λ _ _ _ _ _ _ => len1 (λ _ => rfl)⟩
theorem Jnm : FnB "_law_cell_at" "_law_cell_at" Jbx := ⟨scOk.of (by decide +kernel), rfl, rfl, λ _ _ _ _ _ _ => len2 (λ _ _ => rfl)⟩
theorem Joq : FnB "_law_stream" "_law_stream" Jcj := ⟨scOk.of (by decide +kernel), rfl, rfl, λ _ _ _ _ _ _ => len2 (λ _ _ => rfl)⟩
theorem Jss : FnB "_law_word" "_law_word" Jgg := ⟨scOk.of (by decide +kernel), rfl, rfl, λ _ _ _ _ _ _ => len2 (λ _ _ => rfl)⟩
theorem Jrr : FnB "_law_holds" "_law_holds" Jd5 := ⟨scOk.of (by decide +kernel), rfl, rfl, λ _ _ _ _ _ _ => len3 (λ _ _ _ => rfl)⟩
theorem Jq1 : FnB "_law_plain" "_law_plain" Jef := ⟨scOk.of (by decide +kernel), rfl, rfl, λ _ _ _ _ _ _ => len3 (λ _ _ _ => rfl)⟩
theorem Jr9 : FnB "_law_some" "_law_some" Jge := ⟨scOk.of (by decide +kernel), rfl, rfl, λ _ _ _ _ _ _ => len2 (λ _ _ => rfl)⟩
theorem Jtn : FnB "_law_row" "_law_row" Jjn := ⟨scOk.of (by decide +kernel), rfl, rfl, λ _ _ _ _ _ _ => len2 (λ _ _ => rfl)⟩
theorem Jri : FnB "_law_order" "_law_order" Jec := ⟨scOk.of (by decide +kernel), rfl, rfl, λ _ _ _ _ _ _ => len2 (λ _ _ => rfl)⟩
theorem Jqp : FnB "_law_dones" "_law_dones" Jed := ⟨scOk.of (by decide +kernel), rfl, rfl, λ _ _ _ _ _ _ => len3 (λ _ _ _ => rfl)⟩
theorem Jum : FnB "_law_due" "_law_due" Jiu := ⟨scOk.of (by decide +kernel), rfl, rfl, λ _ _ _ _ _ _ => len4 (λ _ _ _ _ => rfl)⟩
theorem J5y : FnScope Jm4.N Jm4.ps (Ji Jm4.st) := scOk.of (by decide +kernel)
theorem J4r (X : K.In h) (G : h.Ns mainGlobals mg) (ha : W.nsIn K mainGlobals "law" = some (some (.ref a))) (hl : K.lookup a = some ⟨oc, od, .func (W.fnOf "law" "law" (Ja1 Jm4.st) (J4 Jm4.st) (Ji Jm4.st) .none kV dc pm an cd ct), sl⟩) (hc : W.codeIn K cd "law" = true) (hk : W.keepIn K (.ref a) = true) : ∃ fa fd, mg "law" = some (.ref fa) /\ DefOk K "law" Jm4 fa fd /\ ∀ (s : Shared) (v : Value), BindsTo s fd ⟨[v], []⟩ [("_law_script", v)] :=
 ⟨a, _, W.mg_of X G ha, Jz2 (d := Jm4) hl hc hk J5y rfl (len1 (λ _ => rfl)), λ s v => .of_eq rfl⟩
theorem Jgi {C : Addr} (pg : W.plainGet K C Str.empty = true) (hd : W.hasDictIn K C = true) (po : W.plainOver K C = true) (sa : W.findIn K (.ref C) "__setattr__" = some (some (.builtin "object.__setattr__"))) (h1 : W.findIn K (.ref C) "__class__" = some (some (.builtin "object.__class__"))) (h2 : W.specialIn K (.builtin "object.__class__") "__get__" = some (some (.builtin "getset_descriptor.__get__"))) (h3 : W.takesIn K (.builtin "object.__class__") = some true) (h4 : W.mroIn K C (.type "object") = some true) (n0 : W.findIn K (.ref C) "append" = some none) (n1 : W.findIn K (.ref C) "due" = some none) (n2 : W.findIn K (.ref C) "duty" = some none) (n3 : W.findIn K (.ref C) "gap" = some none) (n4 : W.findIn K (.ref C) "hold_tuples" = some none) (n5 : W.findIn K (.ref C) "join" = some none) (n6 : W.findIn K (.ref C) "late" = some none) (n7 : W.findIn K (.ref C) "length" = some none) (n8 : W.findIn K (.ref C) "name" = some none) (n9 : W.findIn K (.ref C) "setdefault" = some none) (n10 : W.findIn K (.ref C) "tops" = some none) (n11 : W.findIn K (.ref C) "works" = some none) : ClsI K C /\ All (λ f => Jc8 K C f) T.flds :=
 ⟨⟨⟨pg, hd, po, sa⟩, h1, h2, h3, h4⟩, .cons n0 (.cons n1 (.cons n2 (.cons n3 (.cons n4 (.cons n5 (.cons n6 (.cons n7 (.cons n8 (.cons n9 (.cons n10 (.cons n11 (.nil))))))))))))⟩
theorem J48 {C a : Addr} (sp : W.specialIn K (.ref C) "__getattribute__" = some (some (.builtin "type.__getattribute__"))) (rd : W.readsIn K C (.type "type") = true) (fi : W.findIn K (.ref C) "__init__" = some (some (.ref a))) (fc : W.findCls K (.ref C) (.type "type") "__init__" = some (.val (.ref a))) (kp : W.keepIn K (.ref a) = true) : BasK K C := ⟨sp, rd, a, fi, fc, kp⟩
theorem fin {prog : Program} {w : World} {fa : Addr} (X : K.In h) (G : h.Ns mainGlobals mg) (hfa : mg "law" = some (.ref fa)) {C_Work : Addr} {C_Order : Addr} {C_ByRank : Addr} {C_ByDue : Addr} {C_ByComing : Addr} {C_Duty : Addr} {tk_AT : Tok} {tk_COME : Tok} {tk_MOST_LETTERS : Tok} {tk_MOST_HOLDS : Tok} {tk_THING : Tok} {tk_START : Tok} {tk_END : Tok} {tk_MOST_WORKS : Tok} {tk_MOST_CROWD : Tok}
  (aC_Work : W.nsIn K mainGlobals "Work" = some (some (.ref C_Work)))
  (aC_Order : W.nsIn K mainGlobals "Order" = some (some (.ref C_Order)))
  (aC_ByRank : W.nsIn K mainGlobals "ByRank" = some (some (.ref C_ByRank)))
  (aC_ByDue : W.nsIn K mainGlobals "ByDue" = some (some (.ref C_ByDue)))
  (aC_ByComing : W.nsIn K mainGlobals "ByComing" = some (some (.ref C_ByComing)))
  (aC_Duty : W.nsIn K mainGlobals "Duty" = some (some (.ref C_Duty)))
  (f_is_whole : ∃ fa fd, mg "is_whole" = some (.ref fa) /\ DefOk K "is_whole" Jgh fa fd)
  (f_is_whole_from : ∃ fa fd, mg "is_whole_from" = some (.ref fa) /\ DefOk K "is_whole_from" Jat fa fd)
  (f_rounds_up : ∃ fa fd, mg "rounds_up" = some (.ref fa) /\ DefOk K "rounds_up" Jdo fa fd)
  (f_due_at : ∃ fa fd, mg "due_at" = some (.ref fa) /\ DefOk K "due_at" Jlt fa fd)
  (f_is_name : ∃ fa fd, mg "is_name" = some (.ref fa) /\ DefOk K "is_name" Jih fa fd)
  (f_is_hold : ∃ fa fd, mg "is_hold" = some (.ref fa) /\ DefOk K "is_hold" Jjy fa fd)
  (f_lie_apart : ∃ fa fd, mg "lie_apart" = some (.ref fa) /\ DefOk K "lie_apart" Jem fa fd)
  (f_lies_in : ∃ fa fd, mg "lies_in" = some (.ref fa) /\ DefOk K "lies_in" Jip fa fd)
  (f_go_together : ∃ fa fd, mg "go_together" = some (.ref fa) /\ DefOk K "go_together" Jbq fa fd)
  (f_all_go_together : ∃ fa fd, mg "all_go_together" = some (.ref fa) /\ DefOk K "all_go_together" J7 fa fd)
  (f_own_holds : ∃ fa fd, mg "own_holds" = some (.ref fa) /\ DefOk K "own_holds" Jd9 fa fd)
  (f_own_due : ∃ fa fd, mg "own_due" = some (.ref fa) /\ DefOk K "own_due" Ji6 fa fd)
  (f_ceilings : ∃ fa fd, mg "ceilings" = some (.ref fa) /\ DefOk K "ceilings" Jgm fa fd)
  (f_refuse_holds : ∃ fa fd, mg "refuse_holds" = some (.ref fa) /\ DefOk K "refuse_holds" Jbb fa fd)
  (f_things_held : ∃ fa fd, mg "things_held" = some (.ref fa) /\ DefOk K "things_held" Jbr fa fd)
  (f_lifted : ∃ fa fd, mg "lifted" = some (.ref fa) /\ DefOk K "lifted" Jlw fa fd)
  (f_own_works : ∃ fa fd, mg "own_works" = some (.ref fa) /\ DefOk K "own_works" Jdy fa fd)
  (f_crowd_of : ∃ fa fd, mg "crowd_of" = some (.ref fa) /\ DefOk K "crowd_of" Jgo fa fd)
  (f_law_cell_at : ∃ fa fd, mg "_law_cell_at" = some (.ref fa) /\ DefOk K "_law_cell_at" Jbx fa fd)
  (f_law_stream : ∃ fa fd, mg "_law_stream" = some (.ref fa) /\ DefOk K "_law_stream" Jcj fa fd)
  (f_law_word : ∃ fa fd, mg "_law_word" = some (.ref fa) /\ DefOk K "_law_word" Jgg fa fd)
  (f_law_holds : ∃ fa fd, mg "_law_holds" = some (.ref fa) /\ DefOk K "_law_holds" Jd5 fa fd)
  (f_law_plain : ∃ fa fd, mg "_law_plain" = some (.ref fa) /\ DefOk K "_law_plain" Jef fa fd)
  (f_law_some : ∃ fa fd, mg "_law_some" = some (.ref fa) /\ DefOk K "_law_some" Jge fa fd)
  (f_law_row : ∃ fa fd, mg "_law_row" = some (.ref fa) /\ DefOk K "_law_row" Jjn fa fd)
  (f_law_order : ∃ fa fd, mg "_law_order" = some (.ref fa) /\ DefOk K "_law_order" Jec fa fd)
  (f_law_dones : ∃ fa fd, mg "_law_dones" = some (.ref fa) /\ DefOk K "_law_dones" Jed fa fd)
  (f_law_due : ∃ fa fd, mg "_law_due" = some (.ref fa) /\ DefOk K "_law_due" Jiu fa fd)
  (f_law : ∃ fa fd, mg "law" = some (.ref fa) /\ DefOk K "law" Jm4 fa fd /\ ∀ (s : Shared) (v : Value), BindsTo s fd ⟨[v], []⟩ [("_law_script", v)])
  (i_Work : ∃ fa fd, Mk K C_Work fa /\ DefOk K "__init__" Jk fa fd)
  (m_Work_held : ∃ fa fd, Meth K C_Work "held" fa /\ DefOk K "held" Jei fa fd)
  (c_Work : ClsI K C_Work /\ All (λ f => Jc8 K C_Work f) T.flds)
  (i_Order : ∃ fa fd, Mk K C_Order fa /\ DefOk K "__init__" Jch fa fd)
  (m_Order_rank_of : ∃ fa fd, Meth K C_Order "rank_of" fa /\ DefOk K "rank_of" Jb0 fa fd)
  (m_Order_holds : ∃ fa fd, Meth K C_Order "holds" fa /\ DefOk K "holds" Jr fa fd)
  (c_Order : ClsI K C_Order /\ All (λ f => Jc8 K C_Order f) T.flds)
  (i_ByRank : ∃ fa fd, Mk K C_ByRank fa /\ DefOk K "__init__" Jbv fa fd)
  (m_ByRank_rank_of : ∃ fa fd, Meth K C_ByRank "rank_of" fa /\ DefOk K "rank_of" Jah fa fd)
  (m_ByRank_holds : ∃ fa fd, Meth K C_ByRank "holds" fa /\ DefOk K "holds" Ja8 fa fd)
  (c_ByRank : ClsI K C_ByRank /\ All (λ f => Jc8 K C_ByRank f) T.flds)
  (i_ByDue : ∃ fa fd, Mk K C_ByDue fa /\ DefOk K "__init__" Jcl fa fd)
  (m_ByDue_rank_of : ∃ fa fd, Meth K C_ByDue "rank_of" fa /\ DefOk K "rank_of" Jao fa fd)
  (m_ByDue_holds : ∃ fa fd, Meth K C_ByDue "holds" fa /\ DefOk K "holds" Jr fa fd)
  (c_ByDue : ClsI K C_ByDue /\ All (λ f => Jc8 K C_ByDue f) T.flds)
  (i_ByComing : ∃ fa fd, Mk K C_ByComing fa /\ DefOk K "__init__" Jap fa fd)
  (m_ByComing_rank_of : ∃ fa fd, Meth K C_ByComing "rank_of" fa /\ DefOk K "rank_of" J1 fa fd)
  (m_ByComing_holds : ∃ fa fd, Meth K C_ByComing "holds" fa /\ DefOk K "holds" Jr fa fd)
  (c_ByComing : ClsI K C_ByComing /\ All (λ f => Jc8 K C_ByComing f) T.flds)
  (i_Duty : ∃ fa fd, Mk K C_Duty fa /\ DefOk K "__init__" Jew fa fd)
  (m_Duty_size : ∃ fa fd, Meth K C_Duty "size" fa /\ DefOk K "size" Jea fa fd)
  (m_Duty_work : ∃ fa fd, Meth K C_Duty "work" fa /\ DefOk K "work" Jev fa fd)
  (m_Duty_crowd : ∃ fa fd, Meth K C_Duty "crowd" fa /\ DefOk K "crowd" Jfw fa fd)
  (c_Duty : ClsI K C_Duty /\ All (λ f => Jc8 K C_Duty f) T.flds)
  (g_AT : W.nsIn K mainGlobals "AT" = some (some (.int 0 tk_AT)))
  (g_COME : W.nsIn K mainGlobals "COME" = some (some (.int 1 tk_COME)))
  (g_MOST_LETTERS : W.nsIn K mainGlobals "MOST_LETTERS" = some (some (.int 8 tk_MOST_LETTERS)))
  (g_MOST_HOLDS : W.nsIn K mainGlobals "MOST_HOLDS" = some (some (.int 6 tk_MOST_HOLDS)))
  (g_THING : W.nsIn K mainGlobals "THING" = some (some (.int 0 tk_THING)))
  (g_START : W.nsIn K mainGlobals "START" = some (some (.int 1 tk_START)))
  (g_END : W.nsIn K mainGlobals "END" = some (some (.int 2 tk_END)))
  (g_MOST_WORKS : W.nsIn K mainGlobals "MOST_WORKS" = some (some (.int 12 tk_MOST_WORKS)))
  (g_MOST_CROWD : W.nsIn K mainGlobals "MOST_CROWD" = some (some (.int 80 tk_MOST_CROWD)))
  (k_Work_NoneType : W.kitOne K (.type "NoneType") (.ref C_Work) = some false)
  (k_Work_bool : W.kitOne K (.type "bool") (.ref C_Work) = some false)
  (k_Work_int : W.kitOne K (.type "int") (.ref C_Work) = some false)
  (k_Work_str : W.kitOne K (.type "str") (.ref C_Work) = some false)
  (k_Work_list : W.kitOne K (.type "list") (.ref C_Work) = some false)
  (k_Work_tuple : W.kitOne K (.type "tuple") (.ref C_Work) = some false)
  (k_Work_dict : W.kitOne K (.type "dict") (.ref C_Work) = some false)
  (k_Work_Work : W.kitOne K (.ref C_Work) (.ref C_Work) = some (memS "Work" ["Work"]))
  (k_Work_Order : W.kitOne K (.ref C_Order) (.ref C_Work) = some (memS "Order" ["Work"]))
  (k_Work_ByRank : W.kitOne K (.ref C_ByRank) (.ref C_Work) = some (memS "ByRank" ["Work"]))
  (k_Work_ByDue : W.kitOne K (.ref C_ByDue) (.ref C_Work) = some (memS "ByDue" ["Work"]))
  (k_Work_ByComing : W.kitOne K (.ref C_ByComing) (.ref C_Work) = some (memS "ByComing" ["Work"]))
  (k_Work_Duty : W.kitOne K (.ref C_Duty) (.ref C_Work) = some (memS "Duty" ["Work"]))
  (z_all : W.nsIn K mainGlobals "all" = some none)
  (z_bool : W.nsIn K mainGlobals "bool" = some none)
  (z_enumerate : W.nsIn K mainGlobals "enumerate" = some none)
  (z_int : W.nsIn K mainGlobals "int" = some none)
  (z_isinstance : W.nsIn K mainGlobals "isinstance" = some none)
  (z_len : W.nsIn K mainGlobals "len" = some none)
  (z_list : W.nsIn K mainGlobals "list" = some none)
  (z_max : W.nsIn K mainGlobals "max" = some none)
  (z_min : W.nsIn K mainGlobals "min" = some none)
  (z_range : W.nsIn K mainGlobals "range" = some none)
  (z_set : W.nsIn K mainGlobals "set" = some none)
  (z_sorted : W.nsIn K mainGlobals "sorted" = some none)
  (z_str : W.nsIn K mainGlobals "str" = some none)
  (z_sum : W.nsIn K mainGlobals "sum" = some none)
  (z_tuple : W.nsIn K mainGlobals "tuple" = some none)
  (bs_Order : BasK K C_Order)
  : ∃ fd : FuncData, (∀ (s : Shared) (v : Value), BindsTo s fd ⟨[v], []⟩ [("_law_script", v)]) /\ ∀ base : Heap, K.In base -> base.Ns mainGlobals mg -> FnOk prog w K mg base (CXI prog w) 64 fa fd ["_law_script"] (Juy K "_law_script" (Jsj 16)) := by
 obtain ⟨fa', fd, hm, ok, hb⟩ := f_law
 have e := hfa.symm.trans hm
 cases e
 have O : TabOk (ceOf [("Work", C_Work), ("Order", C_Order), ("ByRank", C_ByRank), ("ByDue", C_ByDue), ("ByComing", C_ByComing), ("Duty", C_Duty)]) T K mg := J5k _
  (.cons (f_is_whole) (.cons (f_is_whole_from) (.cons (f_rounds_up) (.cons (f_due_at) (.cons (f_is_name) (.cons (f_is_hold) (.cons (f_lie_apart) (.cons (f_lies_in) (.cons (f_go_together) (.cons (f_all_go_together) (.cons (f_own_holds) (.cons (f_own_due) (.cons (f_ceilings) (.cons (f_refuse_holds) (.cons (f_things_held) (.cons (f_lifted) (.cons (f_own_works) (.cons (f_crowd_of) (.cons (f_law_cell_at) (.cons (f_law_stream) (.cons (f_law_word) (.cons (f_law_holds) (.cons (f_law_plain) (.cons (f_law_some) (.cons (f_law_row) (.cons (f_law_order) (.cons (f_law_dones) (.cons (f_law_due) (.cons (⟨_, _, hm, ok⟩) (.nil))))))))))))))))))))))))))))))
  (.cons ((let ⟨fa, fd, p, q⟩ := i_Work; ⟨C_Work, fa, fd, W.mg_of X G aC_Work, by kernel_rfl, p, q⟩)) (.cons ((let ⟨fa, fd, p, q⟩ := i_Order; ⟨C_Order, fa, fd, W.mg_of X G aC_Order, by kernel_rfl, p, q⟩)) (.cons ((let ⟨fa, fd, p, q⟩ := i_ByRank; ⟨C_ByRank, fa, fd, W.mg_of X G aC_ByRank, by kernel_rfl, p, q⟩)) (.cons ((let ⟨fa, fd, p, q⟩ := i_ByDue; ⟨C_ByDue, fa, fd, W.mg_of X G aC_ByDue, by kernel_rfl, p, q⟩)) (.cons ((let ⟨fa, fd, p, q⟩ := i_ByComing; ⟨C_ByComing, fa, fd, W.mg_of X G aC_ByComing, by kernel_rfl, p, q⟩)) (.cons ((let ⟨fa, fd, p, q⟩ := i_Duty; ⟨C_Duty, fa, fd, W.mg_of X G aC_Duty, by kernel_rfl, p, q⟩)) (.nil)))))))
  (.cons (⟨C_Work, by kernel_rfl, .cons (m_Work_held) (.nil)⟩) (.cons (⟨C_Order, by kernel_rfl, .cons (m_Order_rank_of) (.cons (m_Order_holds) (.nil))⟩) (.cons (⟨C_ByRank, by kernel_rfl, .cons (m_ByRank_rank_of) (.cons (m_ByRank_holds) (.nil))⟩) (.cons (⟨C_ByDue, by kernel_rfl, .cons (m_ByDue_rank_of) (.cons (m_ByDue_holds) (.nil))⟩) (.cons (⟨C_ByComing, by kernel_rfl, .cons (m_ByComing_rank_of) (.cons (m_ByComing_holds) (.nil))⟩) (.cons (⟨C_Duty, by kernel_rfl, .cons (m_Duty_size) (.cons (m_Duty_work) (.cons (m_Duty_crowd) (.nil)))⟩) (.nil)))))))
  (.cons (⟨_, .int 0, W.mg_of X G g_AT, ⟨tk_AT, rfl⟩, λ _ _ => rfl⟩) (.cons (⟨_, .int 1, W.mg_of X G g_COME, ⟨tk_COME, rfl⟩, λ _ _ => rfl⟩) (.cons (⟨_, .int 8, W.mg_of X G g_MOST_LETTERS, ⟨tk_MOST_LETTERS, rfl⟩, λ _ _ => rfl⟩) (.cons (⟨_, .int 6, W.mg_of X G g_MOST_HOLDS, ⟨tk_MOST_HOLDS, rfl⟩, λ _ _ => rfl⟩) (.cons (⟨_, .int 0, W.mg_of X G g_THING, ⟨tk_THING, rfl⟩, λ _ _ => rfl⟩) (.cons (⟨_, .int 1, W.mg_of X G g_START, ⟨tk_START, rfl⟩, λ _ _ => rfl⟩) (.cons (⟨_, .int 2, W.mg_of X G g_END, ⟨tk_END, rfl⟩, λ _ _ => rfl⟩) (.cons (⟨_, .int 12, W.mg_of X G g_MOST_WORKS, ⟨tk_MOST_WORKS, rfl⟩, λ _ _ => rfl⟩) (.cons (⟨_, .int 80, W.mg_of X G g_MOST_CROWD, ⟨tk_MOST_CROWD, rfl⟩, λ _ _ => rfl⟩) (.nil))))))))))
  (.cons (c_Work) (.cons (c_Order) (.cons (c_ByRank) (.cons (c_ByDue) (.cons (c_ByComing) (.cons (c_Duty) (.nil)))))))
  (.cons (⟨C_Work, W.mg_of X G aC_Work, k_Work_NoneType, k_Work_bool, k_Work_int, k_Work_str, k_Work_list, k_Work_tuple, k_Work_dict, .cons (k_Work_Work) (.cons (k_Work_Order) (.cons (k_Work_ByRank) (.cons (k_Work_ByDue) (.cons (k_Work_ByComing) (.cons (k_Work_Duty) (.nil))))))⟩) (.nil))
  (.cons (W.mg_none_of X G z_all) (.cons (W.mg_none_of X G z_bool) (.cons (W.mg_none_of X G z_enumerate) (.cons (W.mg_none_of X G z_int) (.cons (W.mg_none_of X G z_isinstance) (.cons (W.mg_none_of X G z_len) (.cons (W.mg_none_of X G z_list) (.cons (W.mg_none_of X G z_max) (.cons (W.mg_none_of X G z_min) (.cons (W.mg_none_of X G z_range) (.cons (W.mg_none_of X G z_set) (.cons (W.mg_none_of X G z_sorted) (.cons (W.mg_none_of X G z_str) (.cons (W.mg_none_of X G z_sum) (.cons (W.mg_none_of X G z_tuple) (.nil))))))))))))))))
  .nil .nil
  (.cons (⟨C_Order, W.mg_of X G aC_Order, bs_Order⟩) (.nil))
 exact ⟨fd, hb, λ base _ _ => J17 O (λ h => absurd rfl h) 16 rfl ok⟩
end
end LW
open PySem L2
theorem LW.walk {l : W.OpenLaw} {q : Program} {loose : List Str} {XP : (Str -> Option Value) -> Heap -> Prop} {YP : World -> Heap -> Prop} {d : DefRec} {K : Params -> W.Frag} (hn : l.most = some 63) (hdf : d.params.defaults = [])
  (hY : ∀ (w : World) (h : Heap), YP w h -> (K w.params).In h)
  (F : ∀ (w : World) (mg : Str -> Option Value) (fa : Addr) (h : Heap), (K w.params).In h -> h.Ns mainGlobals mg -> mg d.name = some (.ref fa) ->
   ∃ fd : FuncData, (∀ (s : Shared) (u : Value), BindsTo s fd ⟨[u], []⟩ [("_law_script", u)]) /\ ∀ base : Heap, (K w.params).In base -> base.Ns mainGlobals mg -> FnOk l.prog w (K w.params) mg base (L3.CXI l.prog w) 64 fa fd ["_law_script"] (L3.Juy (K w.params) "_law_script" (LW.Jsj 16))) :
  W.WalkO q loose XP YP l.row.toRowW d [] (λ f vs => PySem.call f vs) :=
 L2.J2u (n := 63) (k := 64) (x := "_law_script") (CX := λ w => L3.CXI l.prog w) (sp := λ w => L3.Juy (K w.params) "_law_script" (LW.Jsj 16)) hn (by decide) hdf ⟨rfl, by decide, by decide⟩ hY F (λ _ _ a ns hl hO hS => L3.Jw6 hO hS (LW.Jx7 ns hl)) λ _ _ _ _ _ z => z.elim λ _ y => y.2.2.2.2
open PySem PySem.W PyProof.Rows
noncomputable def PySem.W.Fast.tw2567635733056904028 : Unit := ()
noncomputable def PySem.W.Fast.tw13970179796630458437 : Unit := ()
noncomputable def PySem.W.Fast.tw5435225595263409875 : Unit := ()
noncomputable def PySem.W.Fast.tw9569061821925845781 : Unit := ()
noncomputable def PySem.W.Fast.tw3612259033262366430 : Unit := ()
noncomputable def PySem.W.Fast.tw12226420767996513358 : Unit := ()
noncomputable def PySem.W.Fast.tw6543732430752138001 : Unit := ()
noncomputable def PySem.W.Fast.tw1685647119252622818 : Unit := ()
noncomputable def PySem.W.Fast.tw17747111069188814009 : Unit := ()
noncomputable def PySem.W.Fast.tw3179920569776961156 : Unit := ()
noncomputable def PySem.W.Fast.tw15614835579090751639 : Unit := ()
noncomputable def PySem.W.Fast.tw10815869309368735655 : Unit := ()
noncomputable def PySem.W.Fast.tw10224158886959519553 : Unit := ()
noncomputable def PySem.W.Fast.tw5885870939209088929 : Unit := ()
noncomputable def PySem.W.Fast.tw6708319616094152727 : Unit := ()
noncomputable def PySem.W.Fast.tw13117018212494926505 : Unit := ()
noncomputable def PySem.W.Fast.tw16517835023709339256 : Unit := ()
noncomputable def PySem.W.Fast.tw11177000689363269725 : Unit := ()
noncomputable def PySem.W.Fast.tw8596846869046622228 : Unit := ()
set_option maxRecDepth 100000 in
set_option maxHeartbeats 0 in
theorem PySem.Challenge.cw_dutyproof_k31_ranks_by_orders_holds : PySem.Challenge.rw_dutyproof_k31_ranks_by_orders.Holds := by
 w_on; o_law; k_head; (case hw => w_witness2)
 k_fill
 refine LW.walk (l := PySem.Challenge.rw_dutyproof_k31_ranks_by_orders) rfl rfl (λ w h Y => W.kIn_of Y) ?F
 case F =>
  intro w mg fa h KX G hmg
  refine' LW.fin KX G hmg ?Uqa ?Uqb ?Uqc ?Uqd ?Uqe ?Uqf ?Uqg ?Uqh ?Uqi ?Uqj ?Uqk ?Uql ?Uqm ?Uqn ?Uqo ?Uqp ?Uqq ?Uqr ?Uqs ?Uqt ?Uqu ?Uqv ?Uqw ?Uqx ?Uqy ?Uqz ?Uq0 ?Uq1 ?Uq2 ?Uq3 ?Uq4 ?Uq5 ?Uq6 ?Uq7 ?Uq8 ?Uq9 ?Uqaa ?Uqab ?Uqac ?Uqad ?Uqae ?Uqaf ?Uqag ?Uqah ?Uqai ?Uqaj ?Uqak ?Uqal ?Uqam ?Uqan ?Uqao ?Uqap ?Uqaq ?Uqar ?Uqas ?Uqat ?Uqau ?Uqav ?Uqaw ?Uqax ?Uqay ?Uqaz ?Uqa0 ?Uqa1 ?Uqa2 ?Uqa3 ?Uqa4 ?Uqa5 ?Uqa6 ?Uqa7 ?Uqa8 ?Uqa9 ?Uqba ?Uqbb ?Uqbc ?Uqbd ?Uqbe ?Uqbf ?Uqbg ?Uqbh ?Uqbi ?Uqbj ?Uqbk ?Uqbl ?Uqbm ?Uqbn ?Uqbo ?Uqbp ?Uqbq ?Uqbr ?Uqbs ?Uqbt ?Uqbu ?Uqbv ?Uqbw ?Uqbx ?Uqby
  (case Uqa => k_is)
  (case Uqb => k_is)
  (case Uqc => k_is)
  (case Uqd => k_is)
  (case Uqe => k_is)
  (case Uqf => k_is)
  (case Uqg => exact L4.Jaw KX G LW.Jsv (by k_is) (by k_is) (by k_is) (by k_is))
  (case Uqh => exact L4.Jaw KX G LW.Jlk (by k_is) (by k_is) (by k_is) (by k_is))
  (case Uqi => exact L4.Jaw KX G LW.Jrd (by k_is) (by k_is) (by k_is) (by k_is))
  (case Uqj => exact L4.Jaw KX G LW.Jvj (by k_is) (by k_is) (by k_is) (by k_is))
  (case Uqk => exact L4.Jaw KX G LW.Jt3 (by k_is) (by k_is) (by k_is) (by k_is))
  (case Uql => exact L4.Jaw KX G LW.Jug (by k_is) (by k_is) (by k_is) (by k_is))
  (case Uqm => exact L4.Jaw KX G LW.Jqn (by k_is) (by k_is) (by k_is) (by k_is))
  (case Uqn => exact L4.Jaw KX G LW.Juk (by k_is) (by k_is) (by k_is) (by k_is))
  (case Uqo => exact L4.Jaw KX G LW.Jne (by k_is) (by k_is) (by k_is) (by k_is))
  (case Uqp => exact L4.Jaw KX G LW.Jjc (by k_is) (by k_is) (by k_is) (by k_is))
  (case Uqq => exact L4.Jaw KX G LW.Jrk (by k_is) (by k_is) (by k_is) (by k_is))
  (case Uqr => exact L4.Jaw KX G LW.Jtt (by k_is) (by k_is) (by k_is) (by k_is))
  (case Uqs => exact L4.Jaw KX G LW.Jst (by k_is) (by k_is) (by k_is) (by k_is))
  (case Uqt => exact L4.Jaw KX G LW.Jmo (by k_is) (by k_is) (by k_is) (by k_is))
  (case Uqu => exact L4.Jaw KX G LW.Jns (by k_is) (by k_is) (by k_is) (by k_is))
  (case Uqv => exact L4.Jaw KX G LW.Jv0 (by k_is) (by k_is) (by k_is) (by k_is))
  (case Uqw => exact L4.Jaw KX G LW.Jro (by k_is) (by k_is) (by k_is) (by k_is))
  (case Uqx => exact L4.Jaw KX G LW.Jr7 (by k_is) (by k_is) (by k_is) (by k_is))
  (case Uqy => exact L4.Jaw KX G LW.Jnm (by k_is) (by k_is) (by k_is) (by k_is))
  (case Uqz => exact L4.Jaw KX G LW.Joq (by k_is) (by k_is) (by k_is) (by k_is))
  (case Uq0 => exact L4.Jaw KX G LW.Jss (by k_is) (by k_is) (by k_is) (by k_is))
  (case Uq1 => exact L4.Jaw KX G LW.Jrr (by k_is) (by k_is) (by k_is) (by k_is))
  (case Uq2 => exact L4.Jaw KX G LW.Jq1 (by k_is) (by k_is) (by k_is) (by k_is))
  (case Uq3 => exact L4.Jaw KX G LW.Jr9 (by k_is) (by k_is) (by k_is) (by k_is))
  (case Uq4 => exact L4.Jaw KX G LW.Jtn (by k_is) (by k_is) (by k_is) (by k_is))
  (case Uq5 => exact L4.Jaw KX G LW.Jri (by k_is) (by k_is) (by k_is) (by k_is))
  (case Uq6 => exact L4.Jaw KX G LW.Jqp (by k_is) (by k_is) (by k_is) (by k_is))
  (case Uq7 => exact L4.Jaw KX G LW.Jum (by k_is) (by k_is) (by k_is) (by k_is))
  (case Uq8 => (refine' LW.J4r KX G ?Uqbz ?Uqb0 ?Uqb1 ?Uqb2; (case Uqbz => k_is); (case Uqb0 => k_is); (case Uqb1 => k_is); (case Uqb2 => k_is)))
  (case Uq9 => (refine' LW.Jqy ?Uqb3 ?Uqb4 ?Uqb5 ?Uqb6 ?Uqb7 ?Uqb8 ?Uqb9 ?Uqca; (case Uqb3 => k_is); (case Uqb4 => k_is); (case Uqb5 => k_is); (case Uqb6 => k_is); (case Uqb7 => k_is); (case Uqb8 => k_is); (case Uqb9 => k_is); (case Uqca => k_is)))
  (case Uqaa => exact L4.Jli LW.Jrv (by k_is) (by k_is) (by k_is) (by k_is) (by k_is))
  (case Uqab => (refine' LW.Jgi ?Uqcb ?Uqcc ?Uqcd ?Uqce ?Uqcf ?Uqcg ?Uqch ?Uqci ?Uqcj ?Uqck ?Uqcl ?Uqcm ?Uqcn ?Uqco ?Uqcp ?Uqcq ?Uqcr ?Uqcs ?Uqct ?Uqcu; (case Uqcb => k_is); (case Uqcc => k_is); (case Uqcd => k_is); (case Uqce => k_is); (case Uqcf => k_is); (case Uqcg => k_is); (case Uqch => k_is); (case Uqci => k_is); (case Uqcj => k_is); (case Uqck => k_is); (case Uqcl => k_is); (case Uqcm => k_is); (case Uqcn => k_is); (case Uqco => k_is); (case Uqcp => k_is); (case Uqcq => k_is); (case Uqcr => k_is); (case Uqcs => k_is); (case Uqct => k_is); (case Uqcu => k_is)))
  (case Uqac => exact L4.Jvy LW.Jpe (by k_is) (by k_is) (by k_is) (by k_is) (by k_is) (by k_is) (by k_is))
  (case Uqad => exact L4.Jli LW.Jlg (by k_is) (by k_is) (by k_is) (by k_is) (by k_is))
  (case Uqae => exact L4.Jli LW.Jcn (by k_is) (by k_is) (by k_is) (by k_is) (by k_is))
  (case Uqaf => (refine' LW.Jgi ?Uqcv ?Uqcw ?Uqcx ?Uqcy ?Uqcz ?Uqc0 ?Uqc1 ?Uqc2 ?Uqc3 ?Uqc4 ?Uqc5 ?Uqc6 ?Uqc7 ?Uqc8 ?Uqc9 ?Uqda ?Uqdb ?Uqdc ?Uqdd ?Uqde; (case Uqcv => k_is); (case Uqcw => k_is); (case Uqcx => k_is); (case Uqcy => k_is); (case Uqcz => k_is); (case Uqc0 => k_is); (case Uqc1 => k_is); (case Uqc2 => k_is); (case Uqc3 => k_is); (case Uqc4 => k_is); (case Uqc5 => k_is); (case Uqc6 => k_is); (case Uqc7 => k_is); (case Uqc8 => k_is); (case Uqc9 => k_is); (case Uqda => k_is); (case Uqdb => k_is); (case Uqdc => k_is); (case Uqdd => k_is); (case Uqde => k_is)))
  (case Uqag => exact L4.Jvy LW.Joa (by k_is) (by k_is) (by k_is) (by k_is) (by k_is) (by k_is) (by k_is))
  (case Uqah => exact L4.Jli LW.Jki (by k_is) (by k_is) (by k_is) (by k_is) (by k_is))
  (case Uqai => exact L4.Jli LW.Jl9 (by k_is) (by k_is) (by k_is) (by k_is) (by k_is))
  (case Uqaj => (refine' LW.Jgi ?Uqdf ?Uqdg ?Uqdh ?Uqdi ?Uqdj ?Uqdk ?Uqdl ?Uqdm ?Uqdn ?Uqdo ?Uqdp ?Uqdq ?Uqdr ?Uqds ?Uqdt ?Uqdu ?Uqdv ?Uqdw ?Uqdx ?Uqdy; (case Uqdf => k_is); (case Uqdg => k_is); (case Uqdh => k_is); (case Uqdi => k_is); (case Uqdj => k_is); (case Uqdk => k_is); (case Uqdl => k_is); (case Uqdm => k_is); (case Uqdn => k_is); (case Uqdo => k_is); (case Uqdp => k_is); (case Uqdq => k_is); (case Uqdr => k_is); (case Uqds => k_is); (case Uqdt => k_is); (case Uqdu => k_is); (case Uqdv => k_is); (case Uqdw => k_is); (case Uqdx => k_is); (case Uqdy => k_is)))
  (case Uqak => exact L4.Jvy LW.Jos (by k_is) (by k_is) (by k_is) (by k_is) (by k_is) (by k_is) (by k_is))
  (case Uqal => exact L4.Jli LW.Jlj (by k_is) (by k_is) (by k_is) (by k_is) (by k_is))
  (case Uqam => exact L4.Jli LW.Jcn (by k_is) (by k_is) (by k_is) (by k_is) (by k_is))
  (case Uqan => (refine' LW.Jgi ?Uqdz ?Uqd0 ?Uqd1 ?Uqd2 ?Uqd3 ?Uqd4 ?Uqd5 ?Uqd6 ?Uqd7 ?Uqd8 ?Uqd9 ?Uqea ?Uqeb ?Uqec ?Uqed ?Uqee ?Uqef ?Uqeg ?Uqeh ?Uqei; (case Uqdz => k_is); (case Uqd0 => k_is); (case Uqd1 => k_is); (case Uqd2 => k_is); (case Uqd3 => k_is); (case Uqd4 => k_is); (case Uqd5 => k_is); (case Uqd6 => k_is); (case Uqd7 => k_is); (case Uqd8 => k_is); (case Uqd9 => k_is); (case Uqea => k_is); (case Uqeb => k_is); (case Uqec => k_is); (case Uqed => k_is); (case Uqee => k_is); (case Uqef => k_is); (case Uqeg => k_is); (case Uqeh => k_is); (case Uqei => k_is)))
  (case Uqao => exact L4.Jvy LW.Jlf (by k_is) (by k_is) (by k_is) (by k_is) (by k_is) (by k_is) (by k_is))
  (case Uqap => exact L4.Jli LW.Jh9 (by k_is) (by k_is) (by k_is) (by k_is) (by k_is))
  (case Uqaq => exact L4.Jli LW.Jcn (by k_is) (by k_is) (by k_is) (by k_is) (by k_is))
  (case Uqar => (refine' LW.Jgi ?Uqej ?Uqek ?Uqel ?Uqem ?Uqen ?Uqeo ?Uqep ?Uqeq ?Uqer ?Uqes ?Uqet ?Uqeu ?Uqev ?Uqew ?Uqex ?Uqey ?Uqez ?Uqe0 ?Uqe1 ?Uqe2; (case Uqej => k_is); (case Uqek => k_is); (case Uqel => k_is); (case Uqem => k_is); (case Uqen => k_is); (case Uqeo => k_is); (case Uqep => k_is); (case Uqeq => k_is); (case Uqer => k_is); (case Uqes => k_is); (case Uqet => k_is); (case Uqeu => k_is); (case Uqev => k_is); (case Uqew => k_is); (case Uqex => k_is); (case Uqey => k_is); (case Uqez => k_is); (case Uqe0 => k_is); (case Uqe1 => k_is); (case Uqe2 => k_is)))
  (case Uqas => exact L4.Jvy LW.Jql (by k_is) (by k_is) (by k_is) (by k_is) (by k_is) (by k_is) (by k_is))
  (case Uqat => exact L4.Jli LW.Jrh (by k_is) (by k_is) (by k_is) (by k_is) (by k_is))
  (case Uqau => exact L4.Jli LW.Jqg (by k_is) (by k_is) (by k_is) (by k_is) (by k_is))
  (case Uqav => exact L4.Jli LW.Jot (by k_is) (by k_is) (by k_is) (by k_is) (by k_is))
  (case Uqaw => (refine' LW.Jgi ?Uqe3 ?Uqe4 ?Uqe5 ?Uqe6 ?Uqe7 ?Uqe8 ?Uqe9 ?Uqfa ?Uqfb ?Uqfc ?Uqfd ?Uqfe ?Uqff ?Uqfg ?Uqfh ?Uqfi ?Uqfj ?Uqfk ?Uqfl ?Uqfm; (case Uqe3 => k_is); (case Uqe4 => k_is); (case Uqe5 => k_is); (case Uqe6 => k_is); (case Uqe7 => k_is); (case Uqe8 => k_is); (case Uqe9 => k_is); (case Uqfa => k_is); (case Uqfb => k_is); (case Uqfc => k_is); (case Uqfd => k_is); (case Uqfe => k_is); (case Uqff => k_is); (case Uqfg => k_is); (case Uqfh => k_is); (case Uqfi => k_is); (case Uqfj => k_is); (case Uqfk => k_is); (case Uqfl => k_is); (case Uqfm => k_is)))
  (case Uqax => k_is)
  (case Uqay => k_is)
  (case Uqaz => k_is)
  (case Uqa0 => k_is)
  (case Uqa1 => k_is)
  (case Uqa2 => k_is)
  (case Uqa3 => k_is)
  (case Uqa4 => k_is)
  (case Uqa5 => k_is)
  (case Uqa6 => kernel_rfl)
  (case Uqa7 => kernel_rfl)
  (case Uqa8 => kernel_rfl)
  (case Uqa9 => kernel_rfl)
  (case Uqba => kernel_rfl)
  (case Uqbb => kernel_rfl)
  (case Uqbc => kernel_rfl)
  (case Uqbd => kernel_rfl)
  (case Uqbe => kernel_rfl)
  (case Uqbf => kernel_rfl)
  (case Uqbg => kernel_rfl)
  (case Uqbh => kernel_rfl)
  (case Uqbi => kernel_rfl)
  (case Uqbj => k_is)
  (case Uqbk => k_is)
  (case Uqbl => k_is)
  (case Uqbm => k_is)
  (case Uqbn => k_is)
  (case Uqbo => k_is)
  (case Uqbp => k_is)
  (case Uqbq => k_is)
  (case Uqbr => k_is)
  (case Uqbs => k_is)
  (case Uqbt => k_is)
  (case Uqbu => k_is)
  (case Uqbv => k_is)
  (case Uqbw => k_is)
  (case Uqbx => k_is)
  (case Uqby => (refine' LW.J48 ?vbs_Order_sp ?vbs_Order_rd ?vbs_Order_fi ?vbs_Order_fc ?vbs_Order_kp; (case vbs_Order_sp => k_is); (case vbs_Order_rd => k_is); (case vbs_Order_fi => k_is); (case vbs_Order_fc => k_is); (case vbs_Order_kp => k_is)))
