import PyProof.Rows.All
import Wide.All
import OpenK.AllK
import Wide.FinOn
import Lean
import PyProof.EqAt
import PyProof.EqKinds
import PyProof.TupleCall
import PyProof.ExcBaseAll.ValueError
import PyProof.ExcAttrAll.ValueError
import PyProof.NsDelKeeps
import PySem.Challenge.RW_dutyproof_k04_a_duty
set_option Elab.async false
set_option linter.all false
set_option maxRecDepth 100000
theorem Zf {p : Prop} (h : False) : p := h.elim
namespace L2
open PySem PySem.Spec PyProof.Rows
noncomputable abbrev Key := Sum Int Str
noncomputable def Jst : Key -> Value -> Bool
 | .inl k, v => Value.isInt k v
 | .inr x, v => Value.isStrOf x v
noncomputable def keyH (w : World) : Key -> Int
 | .inl k => hashInt k
 | .inr x => hashStr w x
theorem Jas : ∀ {k : Key} {v : Value}, Jst k v = true -> (∃ i t, k = Sum.inl i /\ v = Value.int i t) ∨ (∃ x t, k = Sum.inr x /\ v = Value.str x t)
 | .inl i, v, h => by
  obtain ⟨t, e⟩ := Value.isInt_shape (k := i) (v := v) h
  exact .inl ⟨i, t, rfl, e⟩
 | .inr x, v, h => by
  obtain ⟨t, e⟩ := Value.isStrOf_shape (x := x) (v := v) h
  exact .inr ⟨x, t, rfl, e⟩
theorem Jt4 (i : Int) (t : Tok) : Jst (.inl i) (.int i t) = true := by simp [Jst, Value.isInt]
theorem Juq (x : Str) (t : Tok) : Jst (.inr x) (.str x t) = true := by simp [Jst, Value.isStrOf]
theorem J1j (a b : Int) : decide ((Sum.inl a : Key) = Sum.inl b) = (a == b) := by
 by_cases e : a = b
 ·subst e; simp
 ·have h : ¬ (Sum.inl a : Key) = Sum.inl b := fun q => e (Sum.inl.inj q)
  rw [decide_eq_false h]
  exact (beq_eq_false_iff_ne.mpr e).symm
theorem J1k (a b : Str) : decide ((Sum.inr a : Key) = Sum.inr b) = decide (a = b) := by
 by_cases e : a = b
 ·subst e; simp
 ·have h : ¬ (Sum.inr a : Key) = Sum.inr b := fun q => e (Sum.inr.inj q)
  rw [decide_eq_false h, decide_eq_false e]
theorem J0z (a : Int) (b : Str) : decide ((Sum.inl a : Key) = Sum.inr b) = false := decide_eq_false (fun q => nomatch q)
theorem J1i (a : Str) (b : Int) : decide ((Sum.inr a : Key) = Sum.inl b) = false := decide_eq_false (fun q => nomatch q)
noncomputable def Jfi (prog : Program) (w : World) : PySem.KeyKind prog w Key where
 is := Jst
 hash := keyH w
 inj := fun v a b ha hb => by
  rcases Jas ha with ⟨i, t, rfl, rfl⟩ | ⟨x, t, rfl, rfl⟩
  ·rcases Jas hb with ⟨j, u, rfl, e⟩ | ⟨y, u, rfl, e⟩
   ·injection e with e1 _; rw [e1]
   ·exact nomatch e
  ·rcases Jas hb with ⟨j, u, rfl, e⟩ | ⟨y, u, rfl, e⟩
   ·exact nomatch e
   ·injection e with e1 _; rw [e1]
 byValue := fun k v h => by
  rcases Jas h with ⟨i, t, rfl, rfl⟩ | ⟨x, t, rfl, rfl⟩ <;> rfl
 pyHash := fun hv h => by
  rcases Jas hv with ⟨i, t, rfl, rfl⟩ | ⟨x, t, rfl, rfl⟩
  ·exact wpAny_pyHash_int h
  ·exact wpAny_pyHash_str h
 eqBool := fun hu hv h => by
  rcases Jas hu with ⟨i, t, rfl, rfl⟩ | ⟨x, t, rfl, rfl⟩
  ·rcases Jas hv with ⟨j, u, rfl, rfl⟩ | ⟨y, u, rfl, rfl⟩
   ·rw [J1j] at h; exact wpAny_eqBool_int h
   ·rw [J0z] at h; exact SeqAt.EqAt.int_str i t y u _ _ _ _ h
  ·rcases Jas hv with ⟨j, u, rfl, rfl⟩ | ⟨y, u, rfl, rfl⟩
   ·rw [J1i] at h; exact SeqAt.EqAt.str_int x t j u _ _ _ _ h
   ·rw [J1k] at h; exact wpAny_eqBool_str h
 «strs» := fun k x t v h => by
  rcases Jas h with ⟨i, u, rfl, e⟩ | ⟨y, u, rfl, e⟩
  ·exact nomatch e
  ·injection e with e1 _
   subst e1
   cases v <;> rfl
theorem Jp8 (prog : Program) (w : World) (i : Int) (t : Tok) : (Jfi prog w).is (.inl i) (.int i t) = true := Jt4 i t
theorem Jp6 (prog : Program) (w : World) (x : Str) (t : Tok) : (Jfi prog w).is (.inr x) (.str x t) = true := Juq x t
end L2
namespace L2
open PySem PySem.Spec PyProof.Rows
inductive V where
 | non | bl (b : Bool) | int (i : Int) | str (x : Str) | byt (b : Array UInt8) | flt (b : UInt64) | ref (a : Addr) | ty (n : String)
 deriving DecidableEq
noncomputable def RelV : V -> Value -> Prop
 | .non, u => u = Value.none
 | .bl b, u => u = Value.bool b
 | .int i, u => ∃ t, u = Value.int i t
 | .str x, u => ∃ t, u = Value.str x t
 | .byt b, u => ∃ t, u = Value.bytes b t
 | .flt b, u => ∃ t, u = Value.float b t
 | .ref a, u => u = Value.ref a
 | .ty n, u => u = Value.type n
noncomputable abbrev Vals : List V -> List Value -> Prop := Paired RelV
theorem Vals.length {xs : List V} {us : List Value} (r : Vals xs us) : xs.length = us.length := Paired.length r
theorem Vals.get : ∀ {xs : List V} {us : List Value} {i : Nat} {x : V}, Vals xs us -> xs[i]? = some x -> ∃ u, us[i]? = some u /\ RelV x u
 | _, _, _, _, .nil, e => by simp at e
 | _, _, 0, _, .cons r _, e => by simp at e; subst e; exact ⟨_, rfl, r⟩
 | _, _, i + 1, x, .cons _ t, e => by
  obtain ⟨u, h1, h2⟩ := Vals.get (i := i) (x := x) t (by simpa using e)
  exact ⟨u, by simpa using h1, h2⟩
theorem Vals.set {x : V} {u : Value} (r : RelV x u) : ∀ {xs : List V} {us : List Value} (i : Nat), Vals xs us -> Vals (xs.set i x) (us.set i u)
 | _, _, _, .nil => .nil
 | _, _, 0, .cons _ t => .cons r t
 | _, _, i + 1, .cons q t => .cons q (Vals.set r i t)
theorem Vals.append : ∀ {xs ys : List V} {us ws : List Value}, Vals xs us -> Vals ys ws -> Vals (xs ++ ys) (us ++ ws)
 | _, _, _, _, .nil, s => s
 | _, _, _, _, .cons r t, s => .cons r (Vals.append t s)
theorem Vals.take : ∀ {xs : List V} {us : List Value} (n : Nat), Vals xs us -> Vals (xs.take n) (us.take n)
 | _, _, 0, _ => .nil
 | _, _, _ + 1, .nil => .nil
 | _, _, n + 1, .cons r t => .cons r (Vals.take n t)
theorem Vals.drop : ∀ {xs : List V} {us : List Value} (n : Nat), Vals xs us -> Vals (xs.drop n) (us.drop n)
 | _, _, 0, r => r
 | _, _, _ + 1, .nil => .nil
 | _, _, n + 1, .cons _ t => Vals.drop n t
noncomputable def RelO : Option V -> Option Value -> Prop
 | some v, some u => RelV v u
 | none, none => True
 | _, _ => False
noncomputable def KV {κ : Type} : List (κ × V) -> List (κ × Value) -> Prop := Paired fun (p : κ × V) (q : κ × Value) => p.1 = q.1 /\ RelV p.2 q.2
noncomputable def kV : Key -> V
 | .inl i => .int i
 | .inr x => .str x
inductive HO where
 /-- a list -/
 | lst (xs : List V)
 /-- a tuple (never changes) -/
 | tup (xs : List V)
 /-- a dict whose keys are ints and texts; one whose keys are tuples of ints and texts (the empty one is both) -/
 | dK (kvs : List (Key × V)) | dT (kvs : List (List Key × V))
 /-- a set of ints: its members, its size -/
 | set (S : Int -> Bool) (n : Nat)
 /-- an instance of the class at C, its dict at dx, its attributes -/
 | ins (C dx : Addr) (fs : List (Str × V))
 /-- the dict of the instance at x -/
 | own (x : Addr)
 /-- the dict of an exception -/
 | xd (fs : List (Str × V))
 /-- a bound method, f of x -/
 | met (f x : Addr)
 /-- a range object lo, lo + 1, .. below hi -/
 | rng (lo hi : Int)
 /-- a thing that is known to the object (the script; a dict while a loop walks it): read, never written while it is so -/
 | frz (o : Obj) (u : HO)
 /-- a code object's table -/
 | tbl (ps : Array Value)
 /-- any other thing, by what is true of its one object (a def of one's own: SetO a S n := HO.ext fun h => ..) -/
 | ext (φ : Heap -> Prop)
noncomputable abbrev Hp := Addr -> Option HO
noncomputable def upd (H : Hp) (a : Addr) (o : HO) : Hp := fun b => if b = a then some o else H b
theorem Jk {H : Hp} {a : Addr} {o : HO} : upd H a o a = some o := by unfold upd; rw [if_pos rfl]
theorem Jg {H : Hp} {a b : Addr} {o : HO} (h : b ≠ a) : upd H a o b = H b := by unfold upd; rw [if_neg h]
theorem Jap {H : Hp} {a b : Addr} {o : HO} (h : H a = some o) (h' : H b = none) : a ≠ b := by
 intro e; subst e; rw [h] at h'; cases h'
section
variable (P : Program) (w : World)
noncomputable def Jea (H : Hp) (h : Heap) (a : Addr) : HO -> Prop
 | .lst xs => xs.length <= sizeLine /\ ∃ (its : List Value) (n : Nat), Vals xs its /\ h.get? a = some { cls := .type "list", data := .seq its.toArray n }
 | .tup xs => xs.length <= sizeLine /\ ∃ its : List Value, Vals xs its /\ IsTup h a its.toArray
 | .dK kvs => kvs.length <= sizeLine /\ (a == sysModules) = false /\ ∃ vs, KV kvs vs /\ h.DictOf (Jfi P w) a vs
 | .dT kvs => kvs.length <= sizeLine /\ (a == sysModules) = false /\ ∃ xs : List (List Key × Addr × Value),
   Paired (fun (p : List Key × V) (q : List Key × Addr × Value) => p.1 = q.1 /\ H q.2.1 = some (.tup (p.1.map kV)) /\ RelV p.2 q.2.2) kvs xs /\
   ∃ o es ep, h.get? a = some o /\ o.ExactDict /\ o.data = .dict es ep /\ es.toList = xs.map (entryOfKey (tupleKind (Jfi P w))) /\ (xs.map (·.1)).Nodup
 | .set S n => h.SetOf (intKind P w) a S n
 | .ins C dx fs => H dx = some (.own a) /\ fs.length <= 1000 /\ dx ≠ a /\ h.get? a = some (W.instObj C dx) /\
   ∃ mA, h.Ns1 dx mA /\ (∀ f, RelO (fs.lookup f) (mA f)) /\ PySem.Within mA (fs.map (·.1))
 | .own _ => ∃ o, h.get? a = some o
 | .xd fs => ∃ mA, h.Ns1 a mA /\ ∀ f, RelO (fs.lookup f) (mA f)
 | .rng lo hi => ∃ t u v, h.get? a = some { cls := .type "range", data := .fields #[.int lo t, .int hi u, .int 1 v] }
 | .frz o u => h.get? a = some o /\ Jea H h a u
 | .tbl ps => h.get? a = some { cls := .none, data := .fields ps }
 | .met f x => h.get? a = some (W.methodObj (.ref f) (.ref x))
 | .ext φ => φ h /\ (∃ o, h.get? a = some o) /\ ∀ h1 h2 : Heap, φ h1 -> (∀ o, h1.get? a = some o -> h2.get? a = some o) -> φ h2
noncomputable def HOk (H : Hp) (h : Heap) : Prop := ∀ a o, H a = some o -> Jea P w H h a o
end
section
variable {P : Program} {w : World} {H H' : Hp} {h h' : Heap} {a : Addr} {o : HO}
theorem Jea.lt (x : Jea P w H h a o) : a < h.objs.size := by
 cases o with
 | lst xs => obtain ⟨_, _, _, _, e⟩ := x; exact Heap.lt_size e
 | tup xs => obtain ⟨_, _, _, p⟩ := x; exact p.lt
 | dK kvs => obtain ⟨_, _, _, _, o, _, _, e, _⟩ := x; exact Heap.lt_size e
 | dT kvs => obtain ⟨_, _, _, _, o, _, _, e, _⟩ := x; exact Heap.lt_size e
 | set S n => obtain ⟨o, _, _, _, e, _⟩ := x; exact Heap.lt_size e
 | ins C dx fs => obtain ⟨_, _, _, e, _⟩ := x; exact Heap.lt_size e
 | own y => obtain ⟨_, e⟩ := x; exact Heap.lt_size e
 | xd fs => obtain ⟨_, ⟨_, _, _, e, _⟩, _⟩ := x; exact Heap.lt_size e
 | rng lo hi => obtain ⟨_, _, _, e⟩ := x; exact Heap.lt_size e
 | frz ob u => obtain ⟨e, _⟩ := x; exact Heap.lt_size e
 | tbl ps => exact Heap.lt_size (show h.get? a = some _ from x)
 | met f y => exact Heap.lt_size (show h.get? a = some _ from x)
 | ext φ => obtain ⟨_, ⟨_, e⟩, _⟩ := x; exact Heap.lt_size e
theorem Paired.mapP {α β : Type} {F G : α -> β -> Prop} : ∀ {l₁ : List α} {l₂ : List β}, Paired F l₁ l₂ -> (∀ a b, F a b -> G a b) -> Paired G l₁ l₂
 | _, _, .nil, _ => .nil
 | _, _, .cons r t, f => .cons (f _ _ r) (Paired.mapP t f)
theorem Jea.stay (x : Jea P w H h a o) (k : ∀ b u, (b = a ∨ H b = some (.own a)) -> h.get? b = some u -> h'.get? b = some u)
  (ho : ∀ b, H b = some (.own a) -> H' b = some (.own a)) (ht : ∀ b xs, H b = some (.tup xs) -> H' b = some (.tup xs)) : Jea P w H' h' a o := by
 induction o with
 | lst xs => obtain ⟨z, its, n, r, e⟩ := x; exact ⟨z, its, n, r, k _ _ (.inl rfl) e⟩
 | tup xs => obtain ⟨z, its, r, ob, e, c⟩ := x; exact ⟨z, its, r, ob, k _ _ (.inl rfl) e, c⟩
 | dK kvs => obtain ⟨z, y, vs, r, ob, es, ep, e, c⟩ := x; exact ⟨z, y, vs, r, ob, es, ep, k _ _ (.inl rfl) e, c⟩
 | dT kvs =>
  obtain ⟨z, y, xs, r, ob, es, ep, e, c⟩ := x
  exact ⟨z, y, xs, Paired.mapP r fun p q z => ⟨z.1, ht _ _ z.2.1, z.2.2⟩, ob, es, ep, k _ _ (.inl rfl) e, c⟩
 | set S n => obtain ⟨ob, es, ep, t, e, c⟩ := x; exact ⟨ob, es, ep, t, k _ _ (.inl rfl) e, c⟩
 | ins C dx fs =>
  obtain ⟨d, z, ne, e, mA, ⟨od, es, ep, e2, c⟩, r⟩ := x
  exact ⟨ho _ d, z, ne, k _ _ (.inl rfl) e, mA, ⟨od, es, ep, k _ _ (.inr d) e2, c⟩, r⟩
 | own y => obtain ⟨ob, e⟩ := x; exact ⟨ob, k _ _ (.inl rfl) e⟩
 | xd fs => obtain ⟨mA, ⟨od, es, ep, e, c⟩, r⟩ := x; exact ⟨mA, ⟨od, es, ep, k _ _ (.inl rfl) e, c⟩, r⟩
 | rng lo hi => obtain ⟨t, u, v, e⟩ := x; exact ⟨t, u, v, k _ _ (.inl rfl) e⟩
 | frz ob u ih => obtain ⟨e, q⟩ := x; exact ⟨k _ _ (.inl rfl) e, ih q⟩
 | tbl ps =>
  have e : h.get? a = some { cls := .none, data := .fields ps } := x
  show h'.get? a = some { cls := .none, data := .fields ps }
  exact k a _ (.inl rfl) e
 | met f y =>
  have e : h.get? a = some (W.methodObj (.ref f) (.ref y)) := x
  show h'.get? a = some (W.methodObj (.ref f) (.ref y))
  exact k a _ (.inl rfl) e
 | ext φ => obtain ⟨p, ⟨o, e⟩, st⟩ := x; exact ⟨st _ _ p fun o q => k _ _ (.inl rfl) q, ⟨o, k _ _ (.inl rfl) e⟩, st⟩
theorem HOk.lt (x : HOk P w H h) (e : H a = some o) : a < h.objs.size := (x a o e).lt
theorem HOk.fresh (x : HOk P w H h) (e : h.objs.size <= a) : H a = none := by
 cases q : H a with
 | none => rfl
 | some u => exact absurd (Nat.lt_of_lt_of_le (x.lt q) e) (Nat.lt_irrefl _)
theorem HOk.kept (x : HOk P w H h) (k : ∀ b u, h.get? b = some u -> h'.get? b = some u) : HOk P w H h' := fun a o e =>
 (x a o e).stay (fun b u _ q => k b u q) (fun _ q => q) fun _ _ q => q
theorem HOk.laid (x : HOk P w H h) (k : ∀ b u, h.get? b = some u -> h'.get? b = some u) (hp : h.objs.size <= a) (new : Jea P w (upd H a o) h' a o) : HOk P w (upd H a o) h' := fun b u e => by
 have hn := x.fresh hp
 by_cases hb : b = a
 ·subst hb; rw [Jk] at e; cases e; exact new
 ·rw [Jg hb] at e
  exact (x b u e).stay (fun c v _ q => k c v q) (fun c q => by rw [Jg (Jap q hn)]; exact q) fun c xs q => by rw [Jg (Jap q hn)]; exact q
end
noncomputable def Rd (H : Hp) (a : Addr) (u : HO) : Prop := H a = some u ∨ ∃ o, H a = some (.frz o u)
theorem Rd.of {H : Hp} {a : Addr} {u : HO} (h : H a = some u) : Rd H a u := .inl h
theorem Rd.ok {P : Program} {w : World} {H : Hp} {h : Heap} {a : Addr} {u : HO} (r : Rd H a u) (x : HOk P w H h) : Jea P w H h a u := by
 rcases r with r | ⟨o, r⟩
 ·exact x a u r
 ·obtain ⟨_, q⟩ := x a _ r
  exact q
noncomputable def Mut : Option HO -> Prop
 | some (.lst _) => True
 | some (.dK _) => True
 | some (.dT _) => True
 | some (.set _ _) => True
 | some (.ins _ _ _) => True
 | some (.ext _) => True
 | _ => False
section
variable {P : Program} {w : World} {H : Hp} {h h' : Heap} {x e : Addr} {o' : HO}
theorem HOk.write (ok : HOk P w H h) (mu : Mut (H x)) (he : e = x ∨ H e = some (.own x)) (k : ∀ b u, b ≠ e -> h.get? b = some u -> h'.get? b = some u) (heo : ∃ u, h'.get? e = some u)
  (new : Jea P w (upd H x o') h' x o') : HOk P w (upd H x o') h' := fun b u q => by
 have nown : ∀ c y, H c = some (.own y) -> c ≠ x := fun c y r z => by subst z; rw [r] at mu; exact mu
 have ntup : ∀ c xs, H c = some (.tup xs) -> c ≠ x := fun c xs r z => by subst z; rw [r] at mu; exact mu
 by_cases hb : b = x
 ·subst hb; rw [Jk] at q; cases q; exact new
 ·rw [Jg hb] at q
  by_cases hbe : b = e
  ·have q' : H b = some (.own x) := by
    rcases he with z | z
    ·exact absurd (hbe.trans z) hb
    ·rw [hbe]; exact z
   rw [q] at q'; cases q'
   obtain ⟨v, hv⟩ := heo
   exact ⟨v, by rw [hbe]; exact hv⟩
  ·refine (ok b u q).stay (fun c v hc r => k c v ?_ r) (fun c r => by rw [Jg (nown c b r)]; exact r) fun c xs r => by rw [Jg (ntup c xs r)]; exact r
   rcases hc with rfl | hc
   ·exact hbe
   ·rintro rfl
    rcases he with z | z
    ·exact nown c b hc z
    ·rw [hc] at z; cases z; exact hb rfl
end
structure Un (fs ex : List Addr) (H H' : Hp) (h h' : Heap) : Prop where
 keep : ∀ b o, h.get? b = some o -> H b = none -> b ∉ fs -> b ∉ ex -> h'.get? b = some o
 slot : ∀ b o, h.get? b = some o -> H b = none -> b ∈ fs -> b ∉ ex -> ∃ sl, h'.get? b = some { o with slots := sl }
 free : ∀ b o, h.get? b = some o -> H b = none -> b ∉ ex -> H' b = none
 there : ∀ b o, h.get? b = some o -> b ∉ ex -> ∃ o', h'.get? b = some o'
 tups : ∀ b xs, H b = some (.tup xs) -> H' b = some (.tup xs)
 frzs : ∀ b o u, H b = some (.frz o u) -> H' b = some (.frz o u)
 tbls : ∀ b ps, H b = some (.tbl ps) -> ∃ more, H' b = some (.tbl (ps ++ more))
section
variable {fs fs' ex ex' : List Addr} {H H1 H2 : Hp} {h h1 h2 h' : Heap} {a x e : Addr} {o : HO}
theorem Un.any (u : Un fs ex H H1 h h1) {b : Addr} {ob : Obj} (q : h.get? b = some ob) (n : H b = none) (hx : b ∉ ex) : ∃ sl, h1.get? b = some { ob with slots := sl } := by
 by_cases hb : b ∈ fs
 ·exact u.slot b ob q n hb hx
 ·exact ⟨ob.slots, u.keep b ob q n hb hx⟩
theorem Un.trans (a : Un fs ex H H1 h h1) (b : Un fs ex H1 H2 h1 h2) : Un fs ex H H2 h h2 where
 keep := fun c ob q n hc hx => b.keep c ob (a.keep c ob q n hc hx) (a.free c ob q n hx) hc hx
 slot := fun c ob q n hc hx => by
  obtain ⟨sl, e1⟩ := a.slot c ob q n hc hx
  obtain ⟨sl', e2⟩ := b.slot c _ e1 (a.free c ob q n hx) hc hx
  exact ⟨sl', e2⟩
 free := fun c ob q n hx => by
  obtain ⟨o', e1⟩ := a.there c ob q hx
  exact b.free c o' e1 (a.free c ob q n hx) hx
 there := fun c ob q hx => by
  obtain ⟨o', e1⟩ := a.there c ob q hx
  exact b.there c o' e1 hx
 tups := fun c xs q => b.tups c xs (a.tups c xs q)
 frzs := fun c ob xs q => b.frzs c ob xs (a.frzs c ob xs q)
 tbls := fun c ps q => by
  obtain ⟨m1, e1⟩ := a.tbls c ps q
  obtain ⟨m2, e2⟩ := b.tbls c _ e1
  exact ⟨m1 ++ m2, by rw [e2, Array.append_assoc]⟩
theorem Un.kept (k : ∀ b u, h.get? b = some u -> h'.get? b = some u) : Un fs ex H H h h' :=
 ⟨fun b ob q _ _ _ => k b ob q, fun b ob q _ _ _ => ⟨ob.slots, k b ob q⟩, fun _ _ _ n _ => n, fun b ob q _ => ⟨ob, k b ob q⟩, fun _ _ q => q, fun _ _ _ q => q, fun _ ps q => ⟨#[], by rw [q]; simp⟩⟩
theorem Un.refl : Un fs ex H H h h := Un.kept fun _ _ q => q
theorem Un.laid (k : ∀ b u, h.get? b = some u -> h'.get? b = some u) (hp : h.objs.size <= a) (hn : H a = none) : Un fs ex H (upd H a o) h h' where
 keep := fun b u q _ _ _ => k b u q
 slot := fun b u q _ _ _ => ⟨u.slots, k b u q⟩
 free := fun b u q n _ => by rw [Jg (Nat.ne_of_lt (Nat.lt_of_lt_of_le (Heap.lt_size q) hp))]; exact n
 there := fun b u q _ => ⟨u, k b u q⟩
 tups := fun b xs q => by rw [Jg (Jap q hn)]; exact q
 frzs := fun b u xs q => by rw [Jg (Jap q hn)]; exact q
 tbls := fun b ps q => ⟨#[], by rw [Jg (Jap q hn), q]; simp⟩
theorem Un.write (mu : Mut (H x)) (he : e = x ∨ H e = some (.own x)) (k : ∀ b u, b ≠ e -> h.get? b = some u -> h'.get? b = some u) (heo : ∃ u, h'.get? e = some u) : Un fs ex H (upd H x o) h h' := by
 have hx : ∀ b, H b = none -> b ≠ x := fun b n z => by subst z; rw [n] at mu; exact mu
 have hb : ∀ b, H b = none -> b ≠ e := fun b n z => by
  subst z
  rcases he with r | r
  ·exact hx b n r
  ·rw [n] at r; cases r
 have hm : ∀ b u, H b = some u -> ¬ Mut (some u) -> b ≠ x := fun b u q nm z => by subst z; rw [q] at mu; exact nm mu
 refine ⟨fun b u q n _ _ => k b u (hb b n) q, fun b u q n _ _ => ⟨u.slots, k b u (hb b n) q⟩, fun b u q n _ => by rw [Jg (hx b n)]; exact n, fun b u q _ => ?_,
  fun b xs q => by rw [Jg (hm b _ q fun z => z)]; exact q, fun b u xs q => by rw [Jg (hm b _ q fun z => z)]; exact q, fun b ps q => ⟨#[], by rw [Jg (hm b _ q fun z => z), q]; simp⟩⟩
 by_cases hbe : b = e
 ·subst hbe; exact heo
 ·exact ⟨u, k b u hbe q⟩
theorem Un.mono (u : Un fs ex H H1 h h1) (hs : ∀ b ∈ fs, b ∈ fs') (hx : ∀ b ∈ ex, b ∈ ex') : Un fs' ex' H H1 h h1 :=
 ⟨fun b ob q n hb he => u.keep b ob q n (fun z => hb (hs b z)) fun z => he (hx b z), fun _ _ q n _ he => u.any q n fun z => he (hx _ z), fun b ob q n he => u.free b ob q n fun z => he (hx b z), fun b ob q he => u.there b ob q fun z => he (hx b z), u.tups, u.frzs, u.tbls⟩
end
noncomputable def trk (h : Heap) (H : Hp) : List Addr := (List.range h.objs.size).filter fun a => (H a).isSome
noncomputable def hidT (h : Heap) (H : Hp) : Heap := W.hideAll h (trk h H)
theorem Juj (h : Heap) (H : Hp) : (hidT h H).objs.size = h.objs.size := W.hideAll_size _ _
theorem Jva {h : Heap} {H : Hp} {b : Addr} {o : Obj} (e : h.get? b = some o) (n : H b = none) : (hidT h H).get? b = some o :=
 W.hideAll_get _ e fun hm => by
  have q : (H b).isSome = true := (List.mem_filter.mp hm).2
  rw [n] at q; simp at q
theorem Jzm {h : Heap} {H : Hp} {b : Addr} {o : Obj} (e : (hidT h H).get? b = some o) : h.get? b = some o /\ H b = none := by
 have e' : h.get? b = some o := W.of_hideAll (trk h H) e
 refine ⟨e', ?_⟩
 cases q : H b with
 | none => rfl
 | some x =>
  have hm : b ∈ trk h H := List.mem_filter.mpr ⟨List.mem_range.mpr (Heap.lt_size e'), by simp [q]⟩
  have z : (hidT h H).get? b = none := W.hideAll_none (trk h H) hm
  rw [z] at e; cases e
noncomputable def Jyy (g h : Heap) (L : Addr) : List (Addr × Obj) := (List.range h.objs.size).filterMap fun a => if a = L ∨ (g.get? a).isSome = true then none else (h.get? a).map fun o => (a, o)
noncomputable def rest (g h : Heap) (L d : Addr) : List (Addr × Obj) := (Jyy g h L).filter fun p => decide (p.1 ≠ d)
end L2
namespace L2
open PySem PySem.Spec PyProof.Rows
structure Mod (K : W.Frag) (mg : Str -> Option Value) (base : Heap) : Prop where
 kin : K.In base
 glob : base.Ns mainGlobals mg
 blt : ∃ mb, base.Ns builtinsNs mb /\ ∀ x : Str, x ≠ "__name__" -> mb x = bootBuiltins x
 nolimit : base.NoLimit
structure Cx where
 prog : Program
 w : World
 K : W.Frag
 mg : Str -> Option Value
 base : Heap
 A : Around
 N : List Str
 s₀ : Shared
 H₀ : Hp
 env : Env
 outer : List Env
 stack : List Env
 ex : List Addr
 fn : Str -> Bool
 calm : Bool
 pn : List (Addr × Obj)
 xe : Value -> Shared -> Prop
noncomputable def frs (l : List Env) : List Addr := l.filterMap (·.frame)
noncomputable abbrev Cx.fs (X : Cx) : List Addr := frs X.outer
noncomputable def Vis (sc : Scope) (x : Str) : Prop := sc.names.lookup x = some .local ∨ sc.names.lookup x = some .cell ∨ sc.names.lookup x = some .free
noncomputable def Loc (sc : Scope) (x : Str) : Prop := sc.names.lookup x = some .local ∨ sc.names.lookup x = some .cell
noncomputable def Look (env : Env) (h : Heap) (m : Str -> Option Value) (x : Str) (u : Value) : Prop :=
 (env.kindOf x = some .local /\ m x = some u) ∨ ((env.kindOf x = some .cell ∨ env.kindOf x = some .free) /\ ∃ c, env.cells.lookup x = some c /\ h.IsCell c (some u))
structure Cx.Ok (X : Cx) : Prop where
 mod : Mod X.K X.mg X.base
 kind : X.env.scope.kind = .function
 glob : X.env.globals = mainGlobals
 blt : X.env.builtins = builtinsNs
 above : X.s₀.heap.objs.size <= X.env.locals
 inj : ∀ x y c, X.env.cells.lookup x = some c -> X.env.cells.lookup y = some c -> x = y
 has : ∀ x, (X.env.kindOf x = some .cell ∨ X.env.kindOf x = some .free) -> ∃ c, X.env.cells.lookup x = some c
 cab : ∀ x c, X.fn x = true -> X.env.cells.lookup x = some c -> X.s₀.heap.objs.size <= c
 hd : X.calm = true -> X.A.handled = none
 frames : X.A.frames = some X.stack
 stk : X.stack = X.outer ∨ (X.stack = X.env :: X.outer /\ X.env.frame = some X.env.locals)
 exf : ∀ b ∈ X.ex, b ≠ X.env.locals /\ ∀ x c, X.env.cells.lookup x = some c -> c ≠ b
 bs : ∀ b o, X.base.get? b = some o -> X.s₀.heap.get? b = some o /\ X.H₀ b = none
 bsz : X.base.objs.size <= X.s₀.heap.objs.size
 noex : ∀ b o, X.base.get? b = some o -> b ∉ X.ex
 exfs : ∀ b ∈ X.ex, b ∉ X.fs
 funs : X.s₀.heap.FunFrames X.base X.outer
 frf : ∀ b ∈ X.fs, X.H₀ b = none
structure Inv (X : Cx) (pins : List (Addr × Obj)) (σ : List (Option V)) (H : Hp) (s : Shared) : Prop where
 ok : X.Ok
 os : s.os = X.s₀.os
 bare : AllBare s.gens
 base : Un X.fs X.ex X.H₀ H X.s₀.heap s.heap
 loc : ∃ m, s.heap.Ns X.env.locals m /\ ∀ (i : Nat) (x : Str) (v : V), X.N[i]? = some x -> σ[i]? = some (some v) -> Vis X.env.scope x -> ∃ u, RelV v u /\ Look X.env s.heap m x u
 cell : ∀ x c, X.env.cells.lookup x = some c -> ∃ v, s.heap.IsCell c v
 free : H X.env.locals = none
 freeC : ∀ x c, X.env.cells.lookup x = some c -> H c = none
 pin : ∀ p ∈ X.pn ++ pins, s.heap.get? p.1 = some p.2 /\ H p.1 = none /\ p.1 ≠ X.env.locals /\ p.1 ∉ X.fs /\ ∀ v, p.2.data ≠ .cell v
 hok : HOk X.prog X.w H s.heap
 len : σ.length = X.N.length
section
variable {X : Cx} {pins : List (Addr × Obj)} {σ : List (Option V)} {H H' : Hp} {s : Shared} {h' : Heap}
theorem Cx.Ok.nofr (ok : X.Ok) {b : Addr} {o : Obj} (e : X.base.get? b = some o) : b ∉ X.fs := fun hb => by
 have := (ok.funs.mem hb).1
 rw [e] at this; cases this
theorem Inv.bs (I : Inv X pins σ H s) : ∀ b o, X.base.get? b = some o -> s.heap.get? b = some o /\ H b = none := fun b o e =>
 ⟨I.base.keep b o (I.ok.bs b o e).1 (I.ok.bs b o e).2 (I.ok.nofr e) (I.ok.noex b o e), I.base.free b o (I.ok.bs b o e).1 (I.ok.bs b o e).2 (I.ok.noex b o e)⟩
theorem Inv.bk (I : Inv X pins σ H s) : ∀ b o, X.base.get? b = some o -> s.heap.get? b = some o := fun b o e => (I.bs b o e).1
theorem Inv.mod (I : Inv X pins σ H s) : Mod X.K X.mg X.base := I.ok.mod
theorem Inv.kIn (I : Inv X pins σ H s) : X.K.In s.heap := I.ok.mod.kin.keeps I.bk
theorem Inv.nolimit (I : Inv X pins σ H s) : s.heap.NoLimit := I.ok.mod.nolimit.keeps I.bk
theorem Inv.fr (I : Inv X pins σ H s) : ∃ m, Fr X.base X.env.locals s.heap m :=
 let ⟨m, hn, _⟩ := I.loc
 ⟨m, hn, I.bk, Nat.le_trans I.ok.bsz I.ok.above⟩
theorem Inv.lt (I : Inv X pins σ H s) : X.env.locals < s.heap.objs.size := let ⟨_, hn, _⟩ := I.loc; hn.lt
theorem Inv.sz (I : Inv X pins σ H s) : X.s₀.heap.objs.size <= s.heap.objs.size := Nat.le_trans I.ok.above (Nat.le_of_lt I.lt)
theorem Inv.nofs (I : Inv X pins σ H s) {a : Addr} (h : s.heap.objs.size <= a) : a ∉ X.fs := fun hb => by
 obtain ⟨_, o, ho, _⟩ := I.ok.funs.mem hb
 exact absurd (Nat.lt_of_lt_of_le (Heap.lt_size ho) (Nat.le_trans I.sz h)) (Nat.lt_irrefl _)
theorem Inv.cne (I : Inv X pins σ H s) : ∀ x c, X.env.cells.lookup x = some c -> c ≠ X.env.locals := fun x c e z => by
 obtain ⟨v, o, ho, hd⟩ := I.cell x c e
 obtain ⟨m, ⟨o', es, ep, ho', hd', _⟩, _⟩ := I.loc
 rw [z, ho'] at ho; cases ho; rw [hd'] at hd; cases hd
theorem Inv.funs (I : Inv X pins σ H s) : s.heap.FunFrames X.base X.outer := by
 have all : ∀ (l : List Env), (∀ b ∈ frs l, b ∈ X.fs) -> X.s₀.heap.FunFrames X.base l -> s.heap.FunFrames X.base l := by
  intro l
  induction l with
  | nil => intro _ _; trivial
  | cons env r ih =>
   intro hs hl
   obtain ⟨hk, ⟨L, o, hf, hn, ho, hd⟩, hr⟩ := hl
   have hL : L ∈ X.fs := hs L (by unfold frs; rw [List.filterMap_cons, hf]; exact List.mem_cons_self)
   obtain ⟨sl, e⟩ := I.base.slot L o ho (I.ok.frf L hL) hL fun z => I.ok.exfs L z hL
   exact ⟨hk, ⟨L, _, hf, hn, e, hd⟩, ih (fun b hb => hs b (by unfold frs; rw [List.filterMap_cons, hf]; exact List.mem_cons_of_mem _ hb)) hr⟩
 exact all X.outer (fun _ hb => hb) I.ok.funs
theorem Inv.stack (I : Inv X pins σ H s) : s.heap.FunFrames X.base X.stack := by
 rcases I.ok.stk with e | ⟨e, hf⟩
 ·rw [e]; exact I.funs
 ·rw [e]
  obtain ⟨m, hn, _⟩ := I.loc
  refine .cons (by rw [I.ok.kind]; decide) hf hn ?_ I.funs
  exact Heap.get?_none_of_le (Nat.le_trans I.ok.bsz I.ok.above)
theorem Inv.stkSub (I : Inv X pins σ H s) : ∀ b ∈ frs X.stack, b ∈ X.env.locals :: X.fs := fun b hb => by
 rcases I.ok.stk with e | ⟨e, hf⟩
 ·rw [e] at hb; exact List.mem_cons_of_mem _ hb
 ·rw [e] at hb
  unfold frs at hb
  rw [List.filterMap_cons, hf] at hb
  exact hb
theorem Inv.stkFree (I : Inv X pins σ H s) : ∀ b ∈ frs X.stack, H b = none := fun b hb => by
 rcases List.mem_cons.mp (I.stkSub b hb) with e | hb
 ·rw [e]; exact I.free
 ·obtain ⟨_, o, ho, _⟩ := I.ok.funs.mem hb
  exact I.base.free b o ho (I.ok.frf b hb) fun z => I.ok.exfs b z hb
theorem Inv.step {g' : Array GenState} {t' : Nat} {d' : Drawn} {ch : List Addr} (I : Inv X pins σ H s)
  (hch : ∀ b ∈ ch, (b ∈ X.ex ∨ X.s₀.heap.objs.size <= b) /\ b ≠ X.env.locals /\ (∀ x c, X.env.cells.lookup x = some c -> c ≠ b) /\ ∀ p ∈ X.pn ++ pins, p.1 ≠ b)
  (keep : ∀ b o, b ≠ X.env.locals -> b ∉ X.fs -> b ∉ ch -> s.heap.get? b = some o -> H b = none -> h'.get? b = some o)
  (slot : ∀ b o, b ≠ X.env.locals -> b ∈ X.fs -> b ∉ ch -> s.heap.get? b = some o -> H b = none -> ∃ sl, h'.get? b = some { o with slots := sl }) (free : ∀ b o, b ∉ ch -> s.heap.get? b = some o -> H b = none -> H' b = none)
  (there : ∀ b o, b ∉ ch -> s.heap.get? b = some o -> ∃ o', h'.get? b = some o')
  (tups : ∀ b xs, H b = some (.tup xs) -> H' b = some (.tup xs)) (frzs : ∀ b o u, H b = some (.frz o u) -> H' b = some (.frz o u)) (tbls : ∀ b ps, H b = some (.tbl ps) -> ∃ more, H' b = some (.tbl (ps ++ more)))
  (ns : ∀ m, s.heap.Ns X.env.locals m -> h'.Ns X.env.locals m) (hok : HOk X.prog X.w H' h') (hg : AllBare g') :
  Inv X pins σ H' { s with heap := h', gens := g', drawn := d', toks := t' } := by
 have neL : ∀ b o, X.s₀.heap.get? b = some o -> b ≠ X.env.locals := fun b o e => Nat.ne_of_lt (Nat.lt_of_lt_of_le (Heap.lt_size e) I.ok.above)
 have neC : ∀ b o, X.s₀.heap.get? b = some o -> b ∉ X.ex -> b ∉ ch := fun b o e hx hb => by
  rcases (hch b hb).1 with z | z
  ·exact hx z
  ·exact absurd (Nat.lt_of_lt_of_le (Heap.lt_size e) z) (Nat.lt_irrefl _)
 have cellK : ∀ x c, X.env.cells.lookup x = some c -> ∀ v, s.heap.IsCell c v -> h'.IsCell c v := fun x c e v ⟨o, ho, hd⟩ => by
  have nch : c ∉ ch := fun z => (hch c z).2.2.1 x c e rfl
  by_cases hc : c ∈ X.fs
  ·obtain ⟨sl, q⟩ := slot c o (I.cne x c e) hc nch ho (I.freeC x c e)
   exact ⟨_, q, hd⟩
  ·exact ⟨o, keep c o (I.cne x c e) hc nch ho (I.freeC x c e), hd⟩
 refine ⟨I.ok, I.os, hg, ⟨fun b o e n hb hx => ?_, fun b o e n hb hx => ?_, fun b o e n hx => ?_, fun b o e hx => ?_, fun b xs e => tups b xs (I.base.tups b xs e), fun b o xs e => frzs b o xs (I.base.frzs b o xs e), fun b ps e => ?_⟩, ?_, fun x c e => ?_, ?_, fun x c e => ?_, fun p hp => ?_, hok, I.len⟩
 ·exact keep b o (neL b o e) hb (neC b o e hx) (I.base.keep b o e n hb hx) (I.base.free b o e n hx)
 ·obtain ⟨sl, e1⟩ := I.base.slot b o e n hb hx
  obtain ⟨sl', e2⟩ := slot b _ (neL b o e) hb (neC b o e hx) e1 (I.base.free b o e n hx)
  exact ⟨sl', e2⟩
 ·obtain ⟨o', e1⟩ := I.base.there b o e hx
  exact free b o' (neC b o e hx) e1 (I.base.free b o e n hx)
 ·obtain ⟨o', e1⟩ := I.base.there b o e hx
  exact there b o' (neC b o e hx) e1
 ·obtain ⟨m1, e1⟩ := I.base.tbls b ps e
  obtain ⟨m2, e2⟩ := tbls b _ e1
  exact ⟨m1 ++ m2, by rw [e2, Array.append_assoc]⟩
 ·obtain ⟨m, hn, hl⟩ := I.loc
  refine ⟨m, ns m hn, fun i x v e1 e2 e3 => ?_⟩
  obtain ⟨u, r, l⟩ := hl i x v e1 e2 e3
  refine ⟨u, r, ?_⟩
  rcases l with l | ⟨k, c, e, z⟩
  ·exact .inl l
  ·exact .inr ⟨k, c, e, cellK x c e _ z⟩
 ·obtain ⟨v, z⟩ := I.cell x c e
  exact ⟨v, cellK x c e v z⟩
 ·obtain ⟨m, ⟨o, _, _, ho, _⟩, _⟩ := I.loc
  exact free _ o (fun z => (hch _ z).2.1 rfl) ho I.free
 ·obtain ⟨v, o, ho, hd⟩ := I.cell x c e
  exact free c o (fun z => (hch c z).2.2.1 x c e rfl) ho (I.freeC x c e)
 ·obtain ⟨e, n, ne, nf, d⟩ := I.pin p hp
  have nch : p.1 ∉ ch := fun z => (hch p.1 z).2.2.2 p hp rfl
  exact ⟨keep p.1 p.2 ne nf nch e n, free p.1 p.2 nch e n, ne, nf, d⟩
theorem Inv.un {t' : Nat} (I : Inv X pins σ H s) (u : Un X.fs [] H H' s.heap h') (hok : HOk X.prog X.w H' h') : Inv X pins σ H' { s with heap := h', toks := t' } := by
 obtain ⟨m, ⟨o, es, ep, ho, r⟩, _⟩ := id I.loc
 obtain ⟨sl, hL⟩ := u.any ho I.free (by simp)
 exact I.step (g' := s.gens) (d' := s.drawn) (ch := []) (fun _ z => nomatch z) (fun b o _ hb _ e n => u.keep b o e n hb (by simp)) (fun b o _ hb _ e n => u.slot b o e n hb (by simp)) (fun b o _ e n => u.free b o e n (by simp)) (fun b o _ e => u.there b o e (by simp)) u.tups u.frzs u.tbls (fun m' hm => by
  obtain ⟨o', es', ep', ho', r'⟩ := hm
  rw [ho] at ho'; cases ho'
  exact ⟨_, es', ep', hL, r'⟩) hok I.bare
theorem Inv.call {g' : Array GenState} {t' : Nat} {d' : Drawn} {ch : List Addr} (I : Inv X pins σ H s) (u : Un (frs X.stack) ch H H' s.heap h') (hok : HOk X.prog X.w H' h') (hg : AllBare g')
  (hch : ∀ b ∈ ch, (b ∈ X.ex ∨ X.s₀.heap.objs.size <= b) /\ b ≠ X.env.locals /\ (∀ x c, X.env.cells.lookup x = some c -> c ≠ b) /\ ∀ p ∈ X.pn ++ pins, p.1 ≠ b) :
  Inv X pins σ H' { s with heap := h', gens := g', drawn := d', toks := t' } := by
 obtain ⟨m, ⟨o, es, ep, ho, r⟩, _⟩ := id I.loc
 obtain ⟨sl, hL⟩ := u.any ho I.free fun z => (hch _ z).2.1 rfl
 exact I.step (ch := ch) hch (fun b o hL hb hc e n => u.keep b o e n (fun z => (List.mem_cons.mp (I.stkSub b z)).elim hL hb) hc) (fun b o _ _ hc e n => u.any e n hc) (fun b o hc e n => u.free b o e n hc) (fun b o hc e => u.there b o e hc) u.tups u.frzs u.tbls (fun m' hm => by
  obtain ⟨o', es', ep', ho', r'⟩ := hm
  rw [ho] at ho'; cases ho'
  exact ⟨_, es', ep', hL, r'⟩) hok hg
theorem Inv.turned {t' : Nat} {it : Addr} (I : Inv X pins σ H s) (k : ∀ b o, b ≠ it -> s.heap.get? b = some o -> h'.get? b = some o) (hn : H it = none) (hL : it ≠ X.env.locals)
  (h1 : it ∈ X.ex ∨ X.s₀.heap.objs.size <= it) (h2 : ∀ x c, X.env.cells.lookup x = some c -> c ≠ it) (h3 : ∀ p ∈ X.pn ++ pins, p.1 ≠ it) : Inv X pins σ H { s with heap := h', toks := t' } := by
 have nit : ∀ b u, H b = some u -> b ≠ it := fun b u e z => by rw [z, hn] at e; cases e
 refine I.step (g' := s.gens) (d' := s.drawn) (ch := [it]) (fun b hb => ?_) (fun b o _ _ hc e _ => k b o (fun z => hc (by simp [z])) e) (fun b o _ _ hc e _ => ⟨o.slots, k b o (fun z => hc (by simp [z])) e⟩) (fun _ _ _ _ n => n)
  (fun b o hc e => ⟨o, k b o (fun z => hc (by simp [z])) e⟩) (fun _ _ e => e) (fun _ _ _ e => e) (fun b ps e => ⟨#[], by rw [e]; simp⟩) (fun m hm => ?_) (fun b u e => ?_) I.bare
 ·have e : b = it := by simpa using hb
  subst e
  exact ⟨h1, hL, h2, h3⟩
 ·obtain ⟨o, es, ep, ho, r⟩ := hm
  exact ⟨o, es, ep, k _ o (Ne.symm hL) ho, r⟩
 ·refine (I.hok b u e).stay (fun c v hc q => k c v ?_ q) (fun _ q => q) fun _ _ q => q
  rcases hc with z | z
  ·rw [z]; exact nit b u e
  ·exact nit c _ z
theorem Inv.tok (I : Inv X pins σ H s) (t : Nat) : Inv X pins σ H { s with toks := t } := I.un (h' := s.heap) (t' := t) Un.refl I.hok
theorem Inv.kept {t' : Nat} (I : Inv X pins σ H s) (k : ∀ b u, s.heap.get? b = some u -> h'.get? b = some u) : Inv X pins σ H { s with heap := h', toks := t' } := I.un (Un.kept k) (I.hok.kept k)
theorem Inv.laid {a : Addr} {o : HO} {t' : Nat} (I : Inv X pins σ H s) (k : ∀ b u, s.heap.get? b = some u -> h'.get? b = some u) (hp : s.heap.objs.size <= a) (new : Jea X.prog X.w (upd H a o) h' a o) :
  Inv X pins σ (upd H a o) { s with heap := h', toks := t' } := I.un (Un.laid k hp (I.hok.fresh hp)) (I.hok.laid k hp new)
theorem Inv.write {x e : Addr} {o : HO} {t' : Nat} (I : Inv X pins σ H s) (mu : Mut (H x)) (he : e = x ∨ H e = some (.own x)) (k : ∀ b u, b ≠ e -> s.heap.get? b = some u -> h'.get? b = some u) (heo : ∃ u, h'.get? e = some u)
  (new : Jea X.prog X.w (upd H x o) h' x o) : Inv X pins σ (upd H x o) { s with heap := h', toks := t' } := I.un (Un.write mu he k heo) (I.hok.write mu he k heo new)
theorem Inv.pins_of {pins' : List (Addr × Obj)} (I : Inv X pins σ H s) (h : ∀ p ∈ pins', s.heap.get? p.1 = some p.2 /\ H p.1 = none /\ p.1 ≠ X.env.locals /\ p.1 ∉ X.fs /\ ∀ v, p.2.data ≠ .cell v) : Inv X pins' σ H s :=
 ⟨I.ok, I.os, I.bare, I.base, I.loc, I.cell, I.free, I.freeC, fun p hp => (List.mem_append.mp hp).elim (fun z => I.pin p (List.mem_append_left _ z)) (h p), I.hok, I.len⟩
theorem Jmi {N : List Str} (hN : N.Nodup) {i j : Nat} {x : Str} (a : N[i]? = some x) (b : N[j]? = some x) : i = j := by
 obtain ⟨h1, e1⟩ := List.getElem?_eq_some_iff.mp a
 obtain ⟨h2, e2⟩ := List.getElem?_eq_some_iff.mp b
 exact (List.getElem_inj hN).mp (e1.trans e2.symm)
theorem Jup {M : Model} {A : Around} {E : Value -> Shared -> Prop} {i : Nat} {x : Str} {v : V} {u : Value} {Q : Unit -> Shared -> Prop} (I : Inv X pins σ H s) (hN : X.N.Nodup) (hi : X.N[i]? = some x) (hx : Loc X.env.scope x) (r : RelV v u)
  (h : ∀ s', Inv X pins (σ.set i (some v)) H s' -> (∃ a, Heap.SameBut a s.heap s'.heap /\ (a = X.env.locals ∨ X.env.cells.lookup x = some a)) -> Q () s') (hf : X.fn x = true ∨ X.env.scope.names.lookup x = some .local := by assumption) : wpAny M A (storeName X.env x u) Q E s := by
 obtain ⟨m, hn, hl⟩ := id I.loc
 have hcls : (X.env.scope.kind == .class || (X.env.scope.kind == .module && X.env.locals != X.env.globals)) = false := by rw [I.ok.kind]; rfl
 have hiσ : i < σ.length := by rw [I.len]; exact (List.getElem?_eq_some_iff.mp hi).1
 have cne := I.cne
 have tracked : ∀ {a : Addr} {h' : Heap}, (∃ o, s.heap.get? a = some o /\ H a = none) -> Heap.SameBut a s.heap h' -> HOk X.prog X.w H h' := fun {a h'} ha hs b ob e => by
  obtain ⟨_, _, hfree⟩ := ha
  refine (I.hok b ob e).stay (fun c w' hc q => (hs.2 c ?_).trans q) (fun _ q => q) fun _ _ q => q
  rintro rfl
  rcases hc with rfl | hc
  ·rw [hfree] at e; cases e
  ·rw [hfree] at hc; cases hc
 rcases hx with hk | hk
 ·refine wpAny_storeName_local hk hn (fun h' hn' hs => ?_) hcls
  obtain ⟨oL, _, _, hoL, _⟩ := id hn
  refine h _ ⟨I.ok, I.os, I.bare, ⟨fun b o e n hb hx => ?_, fun b o e n hb hx => ?_, I.base.free, fun b o e hx => ?_, I.base.tups, I.base.frzs, I.base.tbls⟩, ⟨_, hn', fun j y v' e1 e2 e3 => ?_⟩, fun y c e => ?_, I.free, I.freeC, fun p hp => ?_, tracked ⟨oL, hoL, I.free⟩ hs, by simpa using I.len⟩ ⟨_, hs, .inl rfl⟩
  ·exact (hs.2 b (Nat.ne_of_lt (Nat.lt_of_lt_of_le (Heap.lt_size e) I.ok.above))).trans (I.base.keep b o e n hb hx)
  ·obtain ⟨sl, e1⟩ := I.base.slot b o e n hb hx
   exact ⟨sl, (hs.2 b (Nat.ne_of_lt (Nat.lt_of_lt_of_le (Heap.lt_size e) I.ok.above))).trans e1⟩
  ·obtain ⟨o', e1⟩ := I.base.there b o e hx
   exact ⟨o', (hs.2 b (Nat.ne_of_lt (Nat.lt_of_lt_of_le (Heap.lt_size e) I.ok.above))).trans e1⟩
  ·by_cases hj : j = i
   ·subst hj
    rw [hi] at e1; cases e1
    rw [List.getElem?_set_self hiσ] at e2
    cases e2
    exact ⟨u, r, .inl ⟨hk, by simp⟩⟩
   ·rw [List.getElem?_set_ne (Ne.symm hj)] at e2
    obtain ⟨u', r', q⟩ := hl j y v' e1 e2 e3
    refine ⟨u', r', ?_⟩
    rcases q with ⟨k, e⟩ | ⟨k, c, e, z⟩
    ·refine .inl ⟨k, ?_⟩
     have : y ≠ x := fun e => hj (Jmi hN e1 (e ▸ hi))
     simp [this, e]
    ·exact .inr ⟨k, c, e, z.sameBut hs (cne y c e)⟩
  ·obtain ⟨w', z⟩ := I.cell y c e
   exact ⟨w', z.sameBut hs (cne y c e)⟩
  ·obtain ⟨e, n, ne, nf, d⟩ := I.pin p hp
   exact ⟨(hs.2 p.1 ne).trans e, n, ne, nf, d⟩
 ·have hfn : X.fn x = true := by
   rcases hf with z | z
   ·exact z
   ·rw [z] at hk; cases hk
  obtain ⟨c, hc⟩ := I.ok.has x (.inl hk)
  obtain ⟨w', z⟩ := I.cell x c hc
  refine wpAny_storeName_cell I.ok.kind hk hc z (fun h' hc' hs => ?_)
  obtain ⟨oc, hoc, hocd⟩ := id z
  refine h { s with heap := h' } ⟨I.ok, I.os, I.bare, ⟨fun b o e n hb hx => ?_, fun b o e n hb hx => ?_, I.base.free, fun b o e hx => ?_, I.base.tups, I.base.frzs, I.base.tbls⟩, ⟨m, hn.sameBut hs (Ne.symm (cne x c hc)), fun j y v' e1 e2 e3 => ?_⟩, fun y c' e => ?_, I.free, I.freeC, fun p hp => ?_, tracked ⟨oc, hoc, I.freeC x c hc⟩ hs, by simpa using I.len⟩ ⟨c, hs, .inr hc⟩
  ·exact (hs.2 b (Nat.ne_of_lt (Nat.lt_of_lt_of_le (Heap.lt_size e) (I.ok.cab x c hfn hc)))).trans (I.base.keep b o e n hb hx)
  ·obtain ⟨sl, e1⟩ := I.base.slot b o e n hb hx
   exact ⟨sl, (hs.2 b (Nat.ne_of_lt (Nat.lt_of_lt_of_le (Heap.lt_size e) (I.ok.cab x c hfn hc)))).trans e1⟩
  ·obtain ⟨o', e1⟩ := I.base.there b o e hx
   exact ⟨o', (hs.2 b (Nat.ne_of_lt (Nat.lt_of_lt_of_le (Heap.lt_size e) (I.ok.cab x c hfn hc)))).trans e1⟩
  ·by_cases hj : j = i
   ·subst hj
    rw [hi] at e1; cases e1
    rw [List.getElem?_set_self hiσ] at e2
    cases e2
    exact ⟨u, r, .inr ⟨.inl hk, c, hc, hc'⟩⟩
   ·rw [List.getElem?_set_ne (Ne.symm hj)] at e2
    obtain ⟨u', r', q⟩ := hl j y v' e1 e2 e3
    refine ⟨u', r', ?_⟩
    rcases q with q | ⟨k, c', e, z'⟩
    ·exact .inl q
    ·refine .inr ⟨k, c', e, z'.sameBut hs ?_⟩
     rintro rfl
     exact hj (Jmi hN e1 (I.ok.inj _ _ _ e hc ▸ hi))
  ·by_cases hcc : c' = c
   ·subst hcc; exact ⟨_, hc'⟩
   ·obtain ⟨w2, z2⟩ := I.cell y c' e
    exact ⟨w2, z2.sameBut hs hcc⟩
  ·obtain ⟨e, n, ne, nf, d⟩ := I.pin p hp
   refine ⟨(hs.2 p.1 ?_).trans e, n, ne, nf, d⟩
   intro q
   rw [q, hoc] at e
   have q' : oc = p.2 := Option.some.inj e
   exact d w' (by rw [<- q']; exact hocd)
theorem Jjz {M : Model} {A : Around} {E : Value -> Shared -> Prop} {i : Nat} {x : Str} {v : V} {u : Value} {Q : Unit -> Shared -> Prop} (I : Inv X pins σ H s) (hN : X.N.Nodup) (hi : X.N[i]? = some x) (hx : Loc X.env.scope x) (r : RelV v u)
  (h : ∀ s', Inv X pins (σ.set i (some v)) H s' -> Q () s') (hf : X.fn x = true ∨ X.env.scope.names.lookup x = some .local := by assumption) : wpAny M A (storeName X.env x u) Q E s :=
 Jup I hN hi hx r (fun s' I' _ => h s' I') hf
theorem Inv.call' {s' : Shared} {ch : List Addr} (I : Inv X pins σ H s) (ho : s'.os = s.os) (u : Un (frs X.stack) ch H H' s.heap s'.heap) (hok : HOk X.prog X.w H' s'.heap) (hg : AllBare s'.gens)
  (hch : ∀ b ∈ ch, (b ∈ X.ex ∨ X.s₀.heap.objs.size <= b) /\ b ≠ X.env.locals /\ (∀ x c, X.env.cells.lookup x = some c -> c ≠ b) /\ ∀ p ∈ X.pn ++ pins, p.1 ≠ b) : Inv X pins σ H' s' := by
 obtain ⟨h', g', d', t', o'⟩ := s'
 have e : o' = s.os := ho
 subst e
 exact I.call (g' := g') (t' := t') (d' := d') u hok hg hch
end
noncomputable abbrev XK := Value -> Option Addr -> Hp -> Prop
noncomputable abbrev St := List (Option V)
noncomputable abbrev VK := V -> Hp -> Prop
noncomputable abbrev TE := St -> Hp -> VK -> Prop
noncomputable abbrev TT := St -> Hp -> (Bool -> Hp -> Prop) -> Prop
noncomputable abbrev TA := St -> Hp -> (List V -> Hp -> Prop) -> Prop
structure Ends where
 nx : St -> Hp -> Prop
 rt : VK
 bk : St -> Hp -> Prop := fun _ _ => False
 ct : St -> Hp -> Prop := fun _ _ => False
noncomputable abbrev TS := Ends -> St -> Hp -> Prop
noncomputable def EP (X : Cx) (pins : List (Addr × Obj)) (σ : St) (Q : VK) (u : Value) (s' : Shared) : Prop := ∃ v H', Inv X pins σ H' s' /\ RelV v u /\ Q v H'
noncomputable def TP (X : Cx) (pins : List (Addr × Obj)) (σ : St) (Q : Bool -> Hp -> Prop) (b : Bool) (s' : Shared) : Prop := ∃ H', Inv X pins σ H' s' /\ Q b H'
noncomputable def SP (X : Cx) (pins : List (Addr × Obj)) (D : Ends) (f : Flow) (s' : Shared) : Prop :=
 match f with
 | .next => ∃ σ' H', Inv X pins σ' H' s' /\ D.nx σ' H'
 | .brk => ∃ σ' H', Inv X pins σ' H' s' /\ D.bk σ' H'
 | .cont => ∃ σ' H', Inv X pins σ' H' s' /\ D.ct σ' H'
 | .ret u => ∃ v σ' H', Inv X pins σ' H' s' /\ RelV v u /\ D.rt v H'
noncomputable def PE (X : Cx) (e : Expr) (t : TE) : Prop :=
 ∀ (pins : List (Addr × Obj)) (s : Shared) (σ : St) (H : Hp) (Q : VK), Inv X pins σ H s -> t σ H Q -> wpAny (model X.prog X.w) X.A (eval e X.env) (EP X pins σ Q) X.xe s
noncomputable def PT (X : Cx) (e : Expr) (t : TT) : Prop :=
 ∀ (pins : List (Addr × Obj)) (s : Shared) (σ : St) (H : Hp) (Q : Bool -> Hp -> Prop), Inv X pins σ H s -> t σ H Q -> wpAny (model X.prog X.w) X.A (isTrue e X.env (eval e X.env)) (TP X pins σ Q) X.xe s
noncomputable def PW (X : Cx) (e : Expr) (t : TT) : Prop :=
 ∀ (whole : Sem Value) (pins : List (Addr × Obj)) (s : Shared) (σ : St) (H : Hp) (Q : Bool -> Hp -> Prop), Inv X pins σ H s -> t σ H Q -> wpAny (model X.prog X.w) X.A (isTrue e X.env whole) (TP X pins σ Q) X.xe s
theorem PW.pt {X : Cx} {e : Expr} {t : TT} (h : PW X e t) : PT X e t := h _
noncomputable def PSs (X : Cx) (st : List Stmt) (t : TS) : Prop :=
 ∀ (pins : List (Addr × Obj)) (s : Shared) (σ : St) (H : Hp) (D : Ends), Inv X pins σ H s -> t D σ H -> wpAny (model X.prog X.w) X.A (execs st X.env) (SP X pins D) X.xe s
theorem thn {α : Type} {t : Sem α} {Q Q' : α -> Shared -> Prop} {M : Model} {A : Around} {E : Value -> Shared -> Prop} {s : Shared} (h : wpAny M A t Q E s) (hQ : ∀ a s, Q a s -> Q' a s) : wpAny M A t Q' E s := wpAny_mono h hQ fun _ _ x => x
end L2
namespace L2
open PySem PySem.Spec PyProof.Rows
section
variable {X : Cx}
noncomputable def tVar (i : Nat) : TE := fun σ H Q => ∃ v, σ[i]? = some (some v) /\ Q v H
noncomputable def tC (v : V) : TE := fun _ H Q => Q v H
theorem J1r {i : Nat} {x : Str} {pos : Pos} (hN : X.N[i]? = some x) (hv : Vis X.env.scope x) (hd : (x == ("__debug__" : Str)) = false := by decide) (hcd : (x == ("__classdict__" : Str)) = false := by decide) : PE X (.Name x pos) (tVar i) := by
 intro pins s σ H Q I h
 obtain ⟨v, e, h⟩ := h
 obtain ⟨m, hn, hl⟩ := I.loc
 obtain ⟨u, r, l⟩ := hl i x v hN e hv
 have fin : EP X pins σ Q u s := ⟨v, H, I, r, h⟩
 rcases l with ⟨hk, hm⟩ | ⟨hk, c, hc, hcell⟩
 ·exact wpAny_Name (wpAny_loadName_local I.ok.kind hk hn hm fin) hd
 ·rcases hk with hk | hk
  ·exact wpAny_Name (wpAny_loadName_cell I.ok.kind hk hc hcell fin) hd
  ·exact wpAny_Name (wpAny_loadName_free I.ok.kind hk hc hcell fin hcd) hd
theorem J1a {i j pos} : PE X (.Constant (.int i) j pos) (tC (.int i)) := fun _ _ _ H _ I h => wpAny_Constant_int ⟨.int i, H, I.tok _, ⟨_, rfl⟩, h⟩
theorem pe_bl {b j pos} : PE X (.Constant (.bool b) j pos) (tC (.bl b)) := fun _ _ _ H _ I h => Constant_bool ⟨.bl b, H, I, rfl, h⟩
theorem J1p {j pos} : PE X (.Constant .none j pos) (tC .non) := fun _ _ _ H _ I h => Constant_none ⟨.non, H, I, rfl, h⟩
theorem J0p {x j pos} : PE X (.Constant (.str x) j pos) (tC (.str x)) := fun _ _ _ H _ I h => Calls.Constant_str ⟨.str x, H, I.tok _, ⟨_, rfl⟩, h⟩
noncomputable def Gl (X : Cx) (x : Str) : Prop := X.env.kindOf x = some .globalImplicit
theorem Jg4 {E : Value -> Shared -> Prop} {pins : List (Addr × Obj)} {s : Shared} {σ : St} {H : Hp} {x : Str} {u : Value} {pos : Pos} {Q : Value -> Shared -> Prop} (I : Inv X pins σ H s) (hg : Gl X x) (hm : X.mg x = some u) (h : Q u s)
  (hd : (x == ("__debug__" : Str)) = false := by decide) : wpAny (model X.prog X.w) X.A (eval (.Name x pos) X.env) Q E s :=
 Calls.Name_function_global I.ok.kind hg (Calls.loadGlobal_global (by rw [I.ok.glob]; exact I.mod.glob.keeps I.bk) hm h) hd
theorem Jec {E : Value -> Shared -> Prop} {pins : List (Addr × Obj)} {s : Shared} {σ : St} {H : Hp} {x : Str} {u : Value} {pos : Pos} {Q : Value -> Shared -> Prop} (I : Inv X pins σ H s) (hg : Gl X x) (hm : X.mg x = none) (hv : bootBuiltins x = some u) (h : Q u s)
  (hn : x ≠ "__name__" := by decide) (hd : (x == ("__debug__" : Str)) = false := by decide) : wpAny (model X.prog X.w) X.A (eval (.Name x pos) X.env) Q E s := by
 obtain ⟨mb, h1, h2⟩ := I.mod.blt
 exact Calls.Name_function_global I.ok.kind hg (Calls.loadGlobal_builtin (by rw [I.ok.glob]; exact I.mod.glob.keeps I.bk) hm (by rw [I.ok.blt]; exact h1.keeps I.bk) ((h2 x hn).trans hv) h) hd
theorem Jxt {x : Str} {v : V} {u : Value} {pos : Pos} (hg : Gl X x) (hm : X.mg x = some u) (r : RelV v u) (hd : (x == ("__debug__" : Str)) = false := by decide) : PE X (.Name x pos) (tC v) :=
 fun _ _ _ H _ I h => Jg4 I hg hm ⟨v, H, I, r, h⟩ hd
variable {a b : Expr} {ta tb : TE} {pos : Pos}
variable {tA tB' : TT} {rest : List Expr}
end
end L2
namespace L2
open PySem PySem.Spec PyProof.Rows
noncomputable def SqL (K : W.Frag) (H : Hp) (a : Addr) (xs : List V) : Prop :=
 Rd H a (.lst xs) ∨
  ∃ (o : Obj) (its : Array Value) (n : Nat), K.lookup a = some o /\ o.cls = .type "list" /\ o.dict = none /\ o.data = .seq its n /\ its.size <= sizeLine /\ Vals xs its.toList
noncomputable def SqT (K : W.Frag) (H : Hp) (a : Addr) (xs : List V) : Prop :=
 Rd H a (.tup xs) ∨
  ∃ (o : Obj) (its : Array Value) (n : Nat), K.lookup a = some o /\ o.cls = .type "tuple" /\ o.data = .seq its n /\ its.size <= sizeLine /\ Vals xs its.toList
noncomputable def absV : Value -> Option V
 | .none => some .non
 | .bool b => some (.bl b)
 | .int i _ => some (.int i)
 | .str x _ => some (.str x)
 | .bytes b _ => some (.byt b)
 | .float b _ => some (.flt b)
 | .ref a => some (.ref a)
 | .type n => some (.ty n)
 | _ => none
theorem RelV.abs {x : V} {u : Value} (r : RelV x u) : absV u = some x := by
 cases x with
 | non => cases r; rfl
 | bl _ => cases r; rfl
 | int _ => obtain ⟨t, rfl⟩ := r; rfl
 | str _ => obtain ⟨t, rfl⟩ := r; rfl
 | byt _ => obtain ⟨t, rfl⟩ := r; rfl
 | flt _ => obtain ⟨t, rfl⟩ := r; rfl
 | ref _ => cases r; rfl
 | ty _ => cases r; rfl
theorem RelV.inj {x y : V} {u : Value} (r : RelV x u) (q : RelV y u) : x = y := Option.some.inj (r.abs.symm.trans q.abs)
theorem Vals.inj : ∀ {xs ys : List V} {us : List Value}, Vals xs us -> Vals ys us -> xs = ys
 | _, _, _, .nil, .nil => rfl
 | _, _, _, .cons r t, .cons r' t' => by rw [r.inj r', Vals.inj t t']
section
variable {X : Cx} {pins : List (Addr × Obj)} {σ : St} {H : Hp} {s : Shared} {a : Addr} {xs ys : List V}
theorem SqL.of {K : W.Frag} (h : H a = some (.lst xs)) : SqL K H a xs := .inl (.inl h)
theorem SqT.of {K : W.Frag} (h : H a = some (.tup xs)) : SqT K H a xs := .inl (.inl h)
theorem Inv.list (I : Inv X pins σ H s) (h : SqL X.K H a xs) : ∃ its : List Value, Vals xs its /\ PlainL s.heap a its.toArray /\ xs.length <= sizeLine := by
 rcases h with h | ⟨o, its, n, hk, hc, hd, hs, hz, r⟩
 ·obtain ⟨z, its, n, r, e⟩ := h.ok I.hok
  exact ⟨its, r, ⟨_, n, e, rfl, rfl, rfl⟩, z⟩
 ·refine ⟨its.toList, r, ⟨o, n, I.kIn a o hk, hc, hd, by simpa using hs⟩, ?_⟩
  have e := r.length
  simp only [Array.length_toList] at e
  omega
theorem Inv.tuple (I : Inv X pins σ H s) (h : SqT X.K H a xs) : ∃ its : List Value, Vals xs its /\ IsTup s.heap a its.toArray /\ xs.length <= sizeLine := by
 rcases h with h | ⟨o, its, n, hk, hc, hs, hz, r⟩
 ·obtain ⟨z, its, r, p⟩ := h.ok I.hok
  exact ⟨its, r, p, z⟩
 ·refine ⟨its.toList, r, ⟨o, I.kIn a o hk, hc, n, by simpa using hs⟩, ?_⟩
  have e := r.length
  simp only [Array.length_toList] at e
  omega
theorem Inv.list_inj (I : Inv X pins σ H s) (h : SqL X.K H a xs) (h' : SqL X.K H a ys) : xs = ys := by
 obtain ⟨its, r, ⟨o, n, e, _, _, d⟩, _⟩ := I.list h
 obtain ⟨its', r', ⟨o', n', e', _, _, d'⟩, _⟩ := I.list h'
 rw [e] at e'; cases e'
 rw [d] at d'
 injection d' with d1 _
 have : its = its' := by simpa using congrArg Array.toList d1
 subst this
 exact r.inj r'
theorem Inv.tuple_inj (I : Inv X pins σ H s) (h : SqT X.K H a xs) (h' : SqT X.K H a ys) : xs = ys := by
 obtain ⟨its, r, ⟨o, e, _, n, d⟩, _⟩ := I.tuple h
 obtain ⟨its', r', ⟨o', e', _, n', d'⟩, _⟩ := I.tuple h'
 rw [e] at e'; cases e'
 rw [d] at d'
 injection d' with d1 _
 have : its = its' := by simpa using congrArg Array.toList d1
 subst this
 exact r.inj r'
end
noncomputable abbrev Cx.wish (X : Cx) (E : Value -> Shared -> Prop) : Cx := { X with xe := E }
noncomputable abbrev Cx.nox (X : Cx) : Cx := X.wish fun _ _ => False
theorem Cx.Ok.wish {X : Cx} (ok : X.Ok) (E : Value -> Shared -> Prop) : (X.wish E).Ok :=
 ⟨ok.mod, ok.kind, ok.glob, ok.blt, ok.above, ok.inj, ok.has, ok.cab, ok.hd, ok.frames, ok.stk, ok.exf, ok.bs, ok.bsz, ok.noex, ok.exfs, ok.funs, ok.frf⟩
theorem Cx.Ok.unwish {X : Cx} {E : Value -> Shared -> Prop} (ok : (X.wish E).Ok) : X.Ok :=
 ⟨ok.mod, ok.kind, ok.glob, ok.blt, ok.above, ok.inj, ok.has, ok.cab, ok.hd, ok.frames, ok.stk, ok.exf, ok.bs, ok.bsz, ok.noex, ok.exfs, ok.funs, ok.frf⟩
section
variable {X : Cx} {pins : List (Addr × Obj)} {σ : St} {H : Hp} {s : Shared} {E : Value -> Shared -> Prop}
theorem Inv.wish (I : Inv X pins σ H s) (E : Value -> Shared -> Prop) : Inv (X.wish E) pins σ H s := ⟨I.ok.wish E, I.os, I.bare, I.base, I.loc, I.cell, I.free, I.freeC, I.pin, I.hok, I.len⟩
theorem Inv.unwish (I : Inv (X.wish E) pins σ H s) : Inv X pins σ H s := ⟨I.ok.unwish, I.os, I.bare, I.base, I.loc, I.cell, I.free, I.freeC, I.pin, I.hok, I.len⟩
theorem SP.unwish {D : Ends} {f : Flow} {s' : Shared} (h : SP (X.wish E) pins D f s') : SP X pins D f s' := by
 cases f with
 | next => obtain ⟨σ', H', I, q⟩ := h; exact ⟨σ', H', I.unwish, q⟩
 | brk => obtain ⟨σ', H', I, q⟩ := h; exact ⟨σ', H', I.unwish, q⟩
 | cont => obtain ⟨σ', H', I, q⟩ := h; exact ⟨σ', H', I.unwish, q⟩
 | ret u => obtain ⟨v, σ', H', I, r, q⟩ := h; exact ⟨v, σ', H', I.unwish, r, q⟩
theorem PE.nox {e : Expr} {t : TE} (h : PE X.nox e t) : PE X e t := fun pins s σ H Q I hw =>
 wpAny_mono (h pins s σ H Q (I.wish _) hw) (fun _ _ ⟨v, H', I', r, q⟩ => ⟨v, H', I'.unwish, r, q⟩) fun _ _ z => False.elim z
theorem PT.nox {e : Expr} {t : TT} (h : PT X.nox e t) : PT X e t := fun pins s σ H Q I hw =>
 wpAny_mono (h pins s σ H Q (I.wish _) hw) (fun _ _ ⟨H', I', q⟩ => ⟨H', I'.unwish, q⟩) fun _ _ z => False.elim z
theorem PSs.nox {st : List Stmt} {t : TS} (h : PSs X.nox st t) : PSs X st t := fun pins s σ H D I hw =>
 wpAny_mono (h pins s σ H D (I.wish _) hw) (fun _ _ q => q.unwish) fun _ _ z => False.elim z
end
section
variable {X : Cx} {st : Stmt} {rest : List Stmt} {t u : TS} {e : Expr} {te : TE} {pos : Pos}
theorem Inv.quiet {pins : List (Addr × Obj)} {σ : St} {H : Hp} {s : Shared} (I : Inv X pins σ H s) : interactive X.env = false := by simp [interactive, I.ok.kind]
end
noncomputable abbrev TIp := V -> V -> Hp -> VK -> Prop
section
variable {X : Cx} {pos : Pos}
noncomputable def ipI (f : Int -> Int -> Int) : TIp := fun x y H Q => ∃ i j, x = .int i /\ y = .int j /\ Q (.int (f i j)) H
end
section
variable {X : Cx} {pos : Pos}
end
structure It where
 go : Nat -> Hp -> Prop
 yld : Nat -> Hp -> V -> Hp -> Prop
 stop : Nat -> Hp -> Prop
noncomputable def FpOk (X : Cx) (pins : List (Addr × Obj)) (H : Hp) (b : Addr) : Prop :=
 H b = none /\ b ≠ X.env.locals /\ b ∉ X.fs /\ (b ∈ X.ex ∨ X.s₀.heap.objs.size <= b) /\ (∀ x c, X.env.cells.lookup x = some c -> c ≠ b) /\ ∀ p ∈ X.pn ++ pins, p.1 ≠ b
theorem Inv.fpOk {X : Cx} {pins : List (Addr × Obj)} {σ : St} {H H' : Hp} {s : Shared} {b : Addr} (I : Inv X pins σ H s) (hb : s.heap.objs.size <= b) (hn : H' b = none) : FpOk X pins H' b := by
 refine ⟨hn, Nat.ne_of_gt (Nat.lt_of_lt_of_le I.lt hb), I.nofs hb, .inr (Nat.le_trans I.sz hb), fun x c e z => ?_, fun p hp z => ?_⟩
 ·obtain ⟨v, q⟩ := I.cell x c e
  exact absurd (Nat.lt_of_lt_of_le q.lt (by rw [z]; exact hb)) (Nat.lt_irrefl _)
 ·exact absurd (Nat.lt_of_lt_of_le (Heap.lt_size (I.pin p hp).1) (by rw [z]; exact hb)) (Nat.lt_irrefl _)
structure Turn (P : Program) (w : World) (K : W.Frag) (tg : Expr) (J : It) (fp : List Addr) (it : Addr) (tn : Nat -> Heap -> Prop) : Prop where
 mem : it ∈ fp
 obj : ∀ i h, tn i h -> ∀ b ∈ fp, ∃ o, h.get? b = some o /\ ∀ v, o.data ≠ .cell v
 keep : ∀ i h h', tn i h -> (∀ b ∈ fp, ∀ o, h.get? b = some o -> h'.get? b = some o) -> tn i h'
 item : ∀ (X : Cx), X.prog = P -> X.w = w -> X.K = K -> X.calm = true -> ∀ (i : Nat) (pins : List (Addr × Obj)) (s : Shared) (σ : St) (H : Hp) (E : Value -> Shared -> Prop), Inv X pins σ H s -> (∀ b ∈ fp, FpOk X pins H b) -> tn i s.heap -> J.go i H ->
  wpAny (model P w) X.A (pyNext (.ref it)) (fun r s1 => ∃ u, r = some u /\
   wpAny (model P w) X.A (letOwnedTupleGo tg (.ref it) u) (fun _ s2 => ∃ x H', Inv X pins σ H' s2 /\ RelV x u /\ J.yld i H x H' /\ tn (i + 1) s2.heap /\ ∀ b ∈ fp, H' b = none) E s1) E s
 done : ∀ (X : Cx), X.prog = P -> X.w = w -> X.K = K -> X.calm = true -> ∀ (i : Nat) (pins : List (Addr × Obj)) (s : Shared) (σ : St) (H : Hp) (E : Value -> Shared -> Prop), Inv X pins σ H s -> (∀ b ∈ fp, FpOk X pins H b) -> tn i s.heap -> J.stop i H ->
  wpAny (model P w) X.A (pyNext (.ref it)) (fun r s1 => r = none /\ Inv X pins σ H s1) E s
 self : ∀ (A : Around) (i : Nat) (s : Shared) (Q : Value -> Shared -> Prop) (E : Value -> Shared -> Prop), tn i s.heap -> Q (.ref it) s -> wpAny (model P w) A (pyIter (.ref it)) Q E s
noncomputable abbrev TI := St -> Hp -> (It -> Hp -> Prop) -> Prop
noncomputable def PIE (X : Cx) (pins : List (Addr × Obj)) (σ : St) (tg : Expr) (R : It -> Hp -> Prop) (itv : Value) (s2 : Shared) : Prop :=
 ∃ (it : Addr) (fp : List Addr) (tn : Nat -> Heap -> Prop) (J : It) (H' : Hp), itv = .ref it /\ Inv X pins σ H' s2 /\ Turn X.prog X.w X.K tg J fp it tn /\ tn 0 s2.heap /\ (∀ b ∈ fp, FpOk X pins H' b) /\ R J H'
noncomputable def PI (X : Cx) (tg iter : Expr) (wi : TI) : Prop :=
 ∀ (pins : List (Addr × Obj)) (s : Shared) (σ : St) (H : Hp) (R : It -> Hp -> Prop), Inv X pins σ H s -> wi σ H R ->
  wpAny (model X.prog X.w) X.A (eval iter X.env) (fun v s1 => wpAny (model X.prog X.w) X.A (pyIter v) (PIE X pins σ tg R) X.xe s1) X.xe s
theorem Jv5 {M : Model} {A : Around} {E : Value -> Shared -> Prop} {s : Shared} {tg : Expr} {it : Addr} {u : Value} {o : Obj} {n : String} {vs : Array Value} {Q : Unit -> Shared -> Prop} (ho : s.heap.get? it = some o) (hc : o.cls = .type n) (hd : o.data = .fields vs)
  (hn : ["enumerate", "zip", "dict_itemiterator", "dict_reverseitemiterator", "odict_iterator", "itertools.zip_longest", "itertools.pairwise"].contains n = false) (hQ : Q () s) : wpAny M A (letOwnedTupleGo tg (.ref it) u) Q E s := by
 unfold letOwnedTupleGo
 cases tg <;> first
  | exact wpAny_pure hQ
  | (cases u <;> first
    | exact wpAny_pure hQ
    | (refine wpAny_bind (wpAny_load ho ?_)
       rw [hc, hd]
       show wpAny M A (if (["enumerate", "zip", "dict_itemiterator", "dict_reverseitemiterator", "odict_iterator", "itertools.zip_longest", "itertools.pairwise"].contains n && vs[0]? == some (rawInt _)) = true then _ else _) Q E s
       rw [if_neg (by intro h; rw [hn, Bool.false_and] at h; cases h)]
       exact wpAny_pure hQ))
noncomputable def Itl (K : W.Frag) (a : Addr) : It :=
 ⟨fun i H => ∃ xs x, SqL K H a xs /\ xs[i]? = some x, fun i H x H' => H' = H /\ ∀ xs, SqL K H a xs -> xs[i]? = some x, fun i H => ∃ xs, SqL K H a xs /\ xs.length <= i⟩
noncomputable def Itt (K : W.Frag) (a : Addr) : It :=
 ⟨fun i H => ∃ xs x, SqT K H a xs /\ xs[i]? = some x, fun i H x H' => H' = H /\ ∀ xs, SqT K H a xs -> xs[i]? = some x, fun i H => ∃ xs, SqT K H a xs /\ xs.length <= i⟩
noncomputable def Itr (lo : Int) (n : Nat) : It := ⟨fun i _ => i < n, fun i H x H' => H' = H /\ x = .int (lo + i), fun i _ => n <= i⟩
theorem Jnh {P : Program} {w : World} {K : W.Frag} {tg : Expr} (a it : Addr) : Turn P w K tg (Itl K a) [it] it (fun i h => h.IsListIter it a i) where
 mem := by simp
 obj := fun i h st b hb => by
  have e : b = it := by simpa using hb
  subst e
  obtain ⟨o, e, c, d⟩ := st
  exact ⟨o, e, fun v z => by rw [d] at z; cases z⟩
 keep := fun i h h' st k => st.at fun o e => k it (by simp) o e
 item := by
  intro X hP hw hK hc i pins s σ H E I hf st hg
  subst hP hw hK
  obtain ⟨xs, x, hq, hx⟩ := hg
  obtain ⟨its, rv, p, hz⟩ := I.list hq
  obtain ⟨u, hu, ru⟩ := rv.get hx
  obtain ⟨f0, f1, f2, f3, f4, f5⟩ := hf it (by simp)
  refine wpAny_pyNext_list_item st p.isList (x := u) (by simpa using hu) fun h' st' sb => ?_
  have I1 : Inv X pins σ H { s with heap := h' } := I.turned (t' := s.toks) (fun b o hb e => (sb.2 b hb).trans e) f0 f1 f3 f4 f5
  obtain ⟨o, e, c, d⟩ := id st'
  exact ⟨u, rfl, Jv5 (s := { s with heap := h' }) e c d (by decide) ⟨x, H, I1, ru, ⟨rfl, fun ys hy => by rw [I.list_inj hy hq]; exact hx⟩, st', fun b hb => (hf b hb).1⟩⟩
 done := by
  intro X hP hw hK hc i pins s σ H E I hf st hg
  subst hP hw hK
  obtain ⟨xs, hq, hx⟩ := hg
  obtain ⟨its, rv, p, hz⟩ := I.list hq
  obtain ⟨f0, f1, f2, f3, f4, f5⟩ := hf it (by simp)
  have hl := rv.length
  exact wpAny_pyNext_list_end (I.ok.hd hc) st p.isList (by simp; omega) fun h' eb => ⟨rfl, I.turned (t' := s.toks) (fun b o hb e => eb b o hb e) f0 f1 f3 f4 f5⟩
 self := fun _ _ _ _ _ st h => wpAny_pyIter_listiter st h
theorem Jss {P : Program} {w : World} {K : W.Frag} {tg : Expr} (a it : Addr) : Turn P w K tg (Itt K a) [it] it (fun i h => h.IsTupleIter it a i) where
 mem := by simp
 obj := fun i h st b hb => by
  have e : b = it := by simpa using hb
  subst e
  obtain ⟨o, e, c, d⟩ := st
  exact ⟨o, e, fun v z => by rw [d] at z; cases z⟩
 keep := fun i h h' st k => st.at fun o e => k it (by simp) o e
 item := by
  intro X hP hw hK hc i pins s σ H E I hf st hg
  subst hP hw hK
  obtain ⟨xs, x, hq, hx⟩ := hg
  obtain ⟨its, rv, p, hz⟩ := I.tuple hq
  obtain ⟨u, hu, ru⟩ := rv.get hx
  obtain ⟨f0, f1, f2, f3, f4, f5⟩ := hf it (by simp)
  refine wpAny_pyNext_tuple_item st (show s.heap.IsTuple a its.toArray from p) (x := u) (by simpa using hu) fun h' st' sb => ?_
  have I1 : Inv X pins σ H { s with heap := h' } := I.turned (t' := s.toks) (fun b o hb e => (sb.2 b hb).trans e) f0 f1 f3 f4 f5
  obtain ⟨o, e, c, d⟩ := id st'
  exact ⟨u, rfl, Jv5 (s := { s with heap := h' }) e c d (by decide) ⟨x, H, I1, ru, ⟨rfl, fun ys hy => by rw [I.tuple_inj hy hq]; exact hx⟩, st', fun b hb => (hf b hb).1⟩⟩
 done := by
  intro X hP hw hK hc i pins s σ H E I hf st hg
  subst hP hw hK
  obtain ⟨xs, hq, hx⟩ := hg
  obtain ⟨its, rv, p, hz⟩ := I.tuple hq
  obtain ⟨f0, f1, f2, f3, f4, f5⟩ := hf it (by simp)
  have hl := rv.length
  exact wpAny_pyNext_tuple_end (I.ok.hd hc) st (show s.heap.IsTuple a its.toArray from p) (by simp; omega) fun h' eb => ⟨rfl, I.turned (t' := s.toks) (fun b o hb e => eb b o hb e) f0 f1 f3 f4 f5⟩
 self := fun _ _ _ _ _ st h => wpAny_pyIter_tupleiter st h
theorem Jrz {P : Program} {w : World} {K : W.Frag} {tg : Expr} (it : Addr) (lo : Int) (n : Nat) : Turn P w K tg (Itr lo n) [it] it (fun i h => IsRangeIter h it (lo + (i : Nat) * 1) ((n : Int) - (i : Nat)) 1) where
 mem := by simp
 obj := fun i h st b hb => by
  have e : b = it := by simpa using hb
  subst e
  exact ⟨_, st, fun v z => by
   have z' : Data.fields _ = Data.cell v := z
   cases z'⟩
 keep := fun i h h' st k => k it (by simp) _ st
 item := by
  intro X hP hw hK hc i pins s σ H E I hf st hg
  subst hP hw hK
  obtain ⟨f0, f1, f2, f3, f4, f5⟩ := hf it (by simp)
  have W := Walks.range (prog := X.prog) (w := X.w) (I.ok.hd hc) it lo 1 n
  refine W.item i s _ _ hg st fun v h' tk hv st' kk => ?_
  obtain ⟨t, rfl⟩ := hv
  have I1 : Inv X pins σ H { s with heap := h', toks := tk } := I.turned (fun b o hb e => kk b o (by simpa using hb) e) f0 f1 f3 f4 f5
  refine ⟨_, rfl, Jv5 (s := { s with heap := h', toks := tk }) (n := "range_iterator") st' rfl rfl (by decide) ⟨.int (lo + i), H, I1, ⟨t, ?_⟩, ⟨rfl, rfl⟩, st', fun b hb => (hf b hb).1⟩⟩
  rw [Int.mul_one]
 done := by
  intro X hP hw hK hc i pins s σ H E I hf st hg
  subst hP hw hK
  obtain ⟨f0, f1, f2, f3, f4, f5⟩ := hf it (by simp)
  exact wpAny_pyNext_range_end (I.ok.hd hc) st (by have : n <= i := hg; omega) fun h' eb => ⟨rfl, I.turned (t' := s.toks) (fun b o hb e => eb b o hb e) f0 f1 f3 f4 f5⟩
 self := fun _ _ _ _ _ st h => wpAny_pyIter_rangeiter st h
end L2
namespace L2
open PySem PySem.Spec PyProof.Rows
section
variable {X : Cx} {tg : Expr}
theorem Jwv {pins : List (Addr × Obj)} {σ : St} {H : Hp} {s : Shared} {R : It -> Hp -> Prop} {E : Value -> Shared -> Prop} {lo hi : Int} {t u v : Tok} {tk : Nat} (I : Inv X pins σ H s) (h1 : -(2 ^ 62) <= lo) (h2 : lo < 2 ^ 62) (h3 : -(2 ^ 62) <= hi) (h4 : hi < 2 ^ 62)
  (q : R (Itr lo (hi - lo).toNat) H) : wpAny (model X.prog X.w) X.A (pyIter (.ref s.heap.objs.size)) (PIE X pins σ tg R) E { s with heap := s.heap.push { cls := .type "range", data := .fields #[.int lo t, .int hi u, .int 1 v] }, toks := tk } := by
 refine wpAny_pyIter_range (IsRange.new ..) (small_one h1 h2 h3 h4) ?_
 have I1 : Inv X pins σ H { s with heap := s.heap.push { cls := .type "range", data := .fields #[.int lo t, .int hi u, .int 1 v] }, toks := tk } := I.kept fun b o e => Heap.get?_push_of_some _ e
 refine ⟨(s.heap.push { cls := .type "range", data := .fields #[.int lo t, .int hi u, .int 1 v] }).objs.size, [(s.heap.push { cls := .type "range", data := .fields #[.int lo t, .int hi u, .int 1 v] }).objs.size], _, _, H, rfl,
  I1.kept (t' := tk) fun b o e => Heap.get?_push_of_some _ e, Jrz _ lo (hi - lo).toNat, ?_, fun b hb => ?_, q⟩
 ·have e1 : lo + ((0 : Nat) : Int) * 1 = lo := by simp
  have e2 : (((hi - lo).toNat : Nat) : Int) - ((0 : Nat) : Int) = Builtin.Range.rangeSize lo hi 1 := by rw [rangeSize_one]; split <;> omega
  show IsRangeIter _ _ (lo + ((0 : Nat) : Int) * 1) ((((hi - lo).toNat : Nat) : Int) - ((0 : Nat) : Int)) 1
  rw [e1, e2]
  exact Heap.get?_push_size _ rfl
 ·have e : b = (s.heap.push { cls := .type "range", data := .fields #[.int lo t, .int hi u, .int 1 v] }).objs.size := by simpa using hb
  subst e
  exact I1.fpOk (Nat.le_refl _) (I1.hok.fresh (Nat.le_refl _))
noncomputable def Jhi (fp : List Addr) (h : Heap) : List (Addr × Obj) := fp.filterMap fun b => (h.get? b).map fun o => (b, o)
theorem Jd8 {fp : List Addr} {h : Heap} {b : Addr} {o : Obj} (hb : b ∈ fp) (e : h.get? b = some o) : (b, o) ∈ Jhi fp h := List.mem_filterMap.mpr ⟨b, hb, by rw [e]; rfl⟩
theorem Jui {fp : List Addr} {h : Heap} {p : Addr × Obj} (hp : p ∈ Jhi fp h) : p.1 ∈ fp /\ h.get? p.1 = some p.2 := by
 obtain ⟨b, hb, e⟩ := List.mem_filterMap.mp hp
 cases q : h.get? b with
 | none => rw [q] at e; cases e
 | some o =>
  rw [q] at e
  have e' : (b, o) = p := Option.some.inj e
  subst e'
  exact ⟨hb, q⟩
theorem Inv.pinned {pins : List (Addr × Obj)} {σ : St} {H : Hp} {s : Shared} {fp : List Addr} (I : Inv X pins σ H s) (hf : ∀ b ∈ fp, FpOk X pins H b) (ho : ∀ b ∈ fp, ∃ o, s.heap.get? b = some o /\ ∀ v, o.data ≠ .cell v) : Inv X (pins ++ Jhi fp s.heap) σ H s :=
 I.pins_of fun p hp => (List.mem_append.mp hp).elim (fun z => I.pin p (List.mem_append_right _ z)) fun z => by
  obtain ⟨hb, e⟩ := Jui z
  obtain ⟨f0, f1, f2, _⟩ := hf p.1 hb
  obtain ⟨o, e', d⟩ := ho p.1 hb
  rw [e] at e'; cases e'
  exact ⟨e, f0, f1, f2, d⟩
theorem Inv.unpinned {pins pl : List (Addr × Obj)} {σ : St} {H : Hp} {s : Shared} (I : Inv X (pins ++ pl) σ H s) : Inv X pins σ H s := I.pins_of fun p hp => I.pin p (List.mem_append_right _ (List.mem_append_left _ hp))
end
end L2
namespace L2
open PySem PySem.Spec PyProof.Rows
noncomputable abbrev R2 := V -> V -> Hp -> VK -> Prop
noncomputable def OpR (X : Cx) (f : Value -> Value -> Sem Value) (r : R2) : Prop :=
 ∀ (pins : List (Addr × Obj)) (s : Shared) (σ : St) (H : Hp) (x y : V) (v u : Value) (Q : VK), Inv X pins σ H s -> RelV x v -> RelV y u -> r x y H Q ->
  wpAny (model X.prog X.w) X.A (f v u) (EP X pins σ Q) X.xe s
noncomputable def UnR (X : Cx) (f : Value -> Sem Value) (r : V -> Hp -> VK -> Prop) : Prop :=
 ∀ (pins : List (Addr × Obj)) (s : Shared) (σ : St) (H : Hp) (x : V) (v : Value) (Q : VK), Inv X pins σ H s -> RelV x v -> r x H Q ->
  wpAny (model X.prog X.w) X.A (f v) (EP X pins σ Q) X.xe s
noncomputable def Jki (X : Cx) (f : Value) (r : List V -> Hp -> VK -> Prop) : Prop :=
 ∀ (pins : List (Addr × Obj)) (s : Shared) (σ : St) (H : Hp) (xs : List V) (us : List Value) (Q : VK), Inv X pins σ H s -> Vals xs us -> r xs H Q ->
  wpAny (model X.prog X.w) X.A (call f us) (EP X pins σ Q) X.xe s
noncomputable def TruR (X : Cx) (r : V -> Hp -> (Bool -> Hp -> Prop) -> Prop) : Prop :=
 ∀ (pins : List (Addr × Obj)) (s : Shared) (σ : St) (H : Hp) (x : V) (v : Value) (Q : Bool -> Hp -> Prop), Inv X pins σ H s -> RelV x v -> r x H Q ->
  wpAny (model X.prog X.w) X.A (truthy v) (TP X pins σ Q) X.xe s
noncomputable def rI (C : Int -> Int -> Prop) (g : Int -> Int -> V) : R2 := fun x y H Q => ∃ i j, x = .int i /\ y = .int j /\ C i j /\ Q (g i j) H
noncomputable def rI0 (g : Int -> Int -> V) : R2 := fun x y H Q => ∃ i j, x = .int i /\ y = .int j /\ Q (g i j) H
noncomputable def rU (g : Int -> V) : V -> Hp -> VK -> Prop := fun x H Q => ∃ i, x = .int i /\ Q (g i) H
section
variable {X : Cx} {a b c : Expr} {ta tb tc : TE} {pos : Pos}
theorem opI {f : Value -> Value -> Sem Value} {C : Int -> Int -> Prop} {g : Int -> Int -> Int}
  (rule : ∀ (i j : Int) (t u : Tok) (s : Shared) (Q : Value -> Shared -> Prop) (E : Value -> Shared -> Prop), C i j -> Q (.int (g i j) s.toks) { s with toks := s.toks + 1 } -> wpAny (model X.prog X.w) X.A (f (.int i t) (.int j u)) Q E s) :
  OpR X f (rI C fun i j => .int (g i j)) := by
 intro pins s σ H x y v u Q I rx ry h
 obtain ⟨i, j, rfl, rfl, hc, q⟩ := h
 obtain ⟨t, rfl⟩ := rx
 obtain ⟨t', rfl⟩ := ry
 exact rule i j t t' s _ _ hc ⟨.int (g i j), H, I.tok _, ⟨_, rfl⟩, q⟩
theorem opI0 {f : Value -> Value -> Sem Value} {g : Int -> Int -> Int}
  (rule : ∀ (i j : Int) (t u : Tok) (s : Shared) (Q : Value -> Shared -> Prop) (E : Value -> Shared -> Prop), Q (.int (g i j) s.toks) { s with toks := s.toks + 1 } -> wpAny (model X.prog X.w) X.A (f (.int i t) (.int j u)) Q E s) :
  OpR X f (rI0 fun i j => .int (g i j)) := by
 intro pins s σ H x y v u Q I rx ry h
 obtain ⟨i, j, rfl, rfl, q⟩ := h
 obtain ⟨t, rfl⟩ := rx
 obtain ⟨t', rfl⟩ := ry
 exact rule i j t t' s _ _ ⟨.int (g i j), H, I.tok _, ⟨_, rfl⟩, q⟩
theorem opB0 {f : Value -> Value -> Sem Value} {g : Int -> Int -> Bool}
  (rule : ∀ (i j : Int) (t u : Tok) (s : Shared) (Q : Value -> Shared -> Prop) (E : Value -> Shared -> Prop), Q (.bool (g i j)) s -> wpAny (model X.prog X.w) X.A (f (.int i t) (.int j u)) Q E s) :
  OpR X f (rI0 fun i j => .bl (g i j)) := by
 intro pins s σ H x y v u Q I rx ry h
 obtain ⟨i, j, rfl, rfl, q⟩ := h
 obtain ⟨t, rfl⟩ := rx
 obtain ⟨t', rfl⟩ := ry
 exact rule i j t t' s _ _ ⟨.bl (g i j), H, I, rfl, q⟩
noncomputable def CPow (i j : Int) : Prop := 0 <= j /\ j <= 1000000 /\ i.natAbs < 2 ^ 64
noncomputable def CMul (i j : Int) : Prop := (-(2 ^ 64) < i /\ i < 2 ^ 64) ∨ (-(2 ^ 64) < j /\ j < 2 ^ 64)
theorem CMul.ok {i j : Int} (h : CMul i j) : IntMulOk i j := by
 rcases h with ⟨h1, h2⟩ | ⟨h1, h2⟩
 ·exact .of_left (intBits_le_64 h1 h2)
 ·exact .of_right (intBits_le_64 h1 h2)
theorem J08 : OpR X (binaryOp .Add) (rI0 fun i j => .int (i + j)) := opI0 fun _ _ _ _ _ _ _ q => add_int q
theorem J13 : OpR X (binaryOp .Sub) (rI0 fun i j => .int (i - j)) := opI0 fun _ _ _ _ _ _ _ q => sub_int q
theorem J0a : OpR X (binaryOp .Mod) (rI (fun _ j => 0 < j) fun i j => .int (i % j)) := opI fun i j _ _ _ _ _ hc q => by
 have h1 : (0 : Int) < j := hc
 exact mod_int' (by omega) (by rw [Int.fmod_eq_emod_of_nonneg i (by omega)]; exact q)
theorem J0t : OpR X (binaryOp .Pow) (rI CPow fun i j => .int (i ^ j.toNat)) := opI fun _ _ _ _ _ _ _ hc q => pow_int_small hc.1 hc.2.1 hc.2.2 q
theorem unI {f : Value -> Sem Value} {g : Int -> Int}
  (rule : ∀ (i : Int) (t : Tok) (s : Shared) (Q : Value -> Shared -> Prop) (E : Value -> Shared -> Prop), Q (.int (g i) s.toks) { s with toks := s.toks + 1 } -> wpAny (model X.prog X.w) X.A (f (.int i t)) Q E s) :
  UnR X f (rU fun i => .int (g i)) := by
 intro pins s σ H x v Q I rx h
 obtain ⟨i, rfl, q⟩ := h
 obtain ⟨t, rfl⟩ := rx
 exact rule i t s _ _ ⟨.int (g i), H, I.tok _, ⟨_, rfl⟩, q⟩
theorem J1s : UnR X (unaryOp .USub) (rU fun i => .int (-i)) := unI fun _ _ _ _ _ q => neg_int q
end
noncomputable def scal : V -> V -> Bool
 | .non, .non => true | .non, .int _ => true | .int _, .non => true | .non, .bl _ => true | .bl _, .non => true | .non, .str _ => true | .str _, .non => true
 | .int _, .int _ => true | .bl _, .bl _ => true | .str _, .str _ => true | .byt _, .byt _ => true
 | .int _, .str _ => true | .str _, .int _ => true | .bl _, .str _ => true | .str _, .bl _ => true
 | _, _ => false
noncomputable def rEq : R2 := fun x y H Q => scal x y = true /\ Q (.bl (decide (x = y))) H
noncomputable def rNe : R2 := fun x y H Q => scal x y = true /\ Q (.bl (!decide (x = y))) H
theorem Juy {i j : Int} : decide (V.int i = V.int j) = (i == j) := by
 rw [Bool.eq_iff_iff]
 simp
theorem Jxo {i j : Bool} : decide (V.bl i = V.bl j) = (i == j) := by
 rw [Bool.eq_iff_iff]
 simp
theorem Js2 {i j : Str} : decide (V.str i = V.str j) = (i == j) := by
 rw [Bool.eq_iff_iff]
 simp
theorem Jut {i j : Array UInt8} : decide (V.byt i = V.byt j) = (i.toList == j.toList) := by
 rw [Bool.eq_iff_iff]
 cases i
 cases j
 simp
section
variable {X : Cx} {a b c : Expr} {ta tb tc : TE} {pos : Pos}
theorem J8 {pins : List (Addr × Obj)} {σ : St} {H : Hp} {s : Shared} {Q : VK} {k k' : Bool} (I : Inv X pins σ H s) (q : Q (.bl k) H) (e : k = k') : EP X pins σ Q (.bool k') s := by
 subst e
 exact ⟨.bl k, H, I, rfl, q⟩
theorem op_eq : OpR X (compareOp .Eq) rEq := by
 intro pins s σ H x y v u Q I rx ry h
 obtain ⟨hs, q⟩ := h
 cases x with
 | non =>
  cases rx
  cases y with
  | non => cases ry; exact PySem.EqNone.eq_none_none (J8 I q (by simp))
  | bl j => cases ry; exact PySem.EqNone.eq_none_bool (J8 I q (by simp))
  | int j => obtain ⟨t', rfl⟩ := ry; exact PySem.EqNone.eq_none_int (J8 I q (by simp))
  | str j => obtain ⟨t', rfl⟩ := ry; exact PySem.EqNone.eq_none_str (J8 I q (by simp))
  | _ => exact absurd (show false = true from hs) Bool.false_ne_true
 | bl i =>
  cases rx
  cases y with
  | non => cases ry; exact PySem.EqNone.eq_bool_none (J8 I q (by simp))
  | bl j => cases ry; exact eq_bool (J8 I q Jxo)
  | str j => obtain ⟨t', rfl⟩ := ry; exact PySem.EqMixed.eq_bool_str (J8 I q (by simp))
  | _ => exact absurd (show false = true from hs) Bool.false_ne_true
 | int i =>
  obtain ⟨t, rfl⟩ := rx
  cases y with
  | non => cases ry; exact PySem.EqNone.eq_int_none (J8 I q (by simp))
  | int j => obtain ⟨t', rfl⟩ := ry; exact eq_int (J8 I q Juy)
  | str j => obtain ⟨t', rfl⟩ := ry; exact PySem.EqMixed.eq_int_str (J8 I q (by simp))
  | _ => exact absurd (show false = true from hs) Bool.false_ne_true
 | str i =>
  obtain ⟨t, rfl⟩ := rx
  cases y with
  | non => cases ry; exact PySem.EqNone.eq_str_none (J8 I q (by simp))
  | bl j => cases ry; exact PySem.EqMixed.eq_str_bool (J8 I q (by simp))
  | int j => obtain ⟨t', rfl⟩ := ry; exact PySem.EqMixed.eq_str_int (J8 I q (by simp))
  | str j => obtain ⟨t', rfl⟩ := ry; exact eq_str (J8 I q Js2)
  | _ => exact absurd (show false = true from hs) Bool.false_ne_true
 | byt i =>
  obtain ⟨t, rfl⟩ := rx
  cases y with
  | byt j => obtain ⟨t', rfl⟩ := ry; exact W.eq_bytes (J8 I q Jut)
  | _ => exact absurd (show false = true from hs) Bool.false_ne_true
 | _ => cases y <;> exact absurd (show false = true from hs) Bool.false_ne_true
theorem op_ne : OpR X (compareOp .NotEq) rNe := by
 intro pins s σ H x y v u Q I rx ry h
 obtain ⟨hs, q⟩ := h
 cases x with
 | non =>
  cases rx
  cases y with
  | non => cases ry; exact PySem.EqNone.ne_none_none (J8 I q (by simp))
  | bl j => cases ry; exact PySem.EqNone.ne_none_bool (J8 I q (by simp))
  | int j => obtain ⟨t', rfl⟩ := ry; exact PySem.EqNone.ne_none_int (J8 I q (by simp))
  | str j => obtain ⟨t', rfl⟩ := ry; exact PySem.EqNone.ne_none_str (J8 I q (by simp))
  | _ => exact absurd (show false = true from hs) Bool.false_ne_true
 | bl i =>
  cases rx
  cases y with
  | non => cases ry; exact PySem.EqNone.ne_bool_none (J8 I q (by simp))
  | bl j => cases ry; exact ne_bool (J8 I q (congrArg not Jxo))
  | str j => obtain ⟨t', rfl⟩ := ry; exact PySem.EqMixed.ne_bool_str (J8 I q (by simp))
  | _ => exact absurd (show false = true from hs) Bool.false_ne_true
 | int i =>
  obtain ⟨t, rfl⟩ := rx
  cases y with
  | non => cases ry; exact PySem.EqNone.ne_int_none (J8 I q (by simp))
  | int j => obtain ⟨t', rfl⟩ := ry; exact ne_int (J8 I q (congrArg not Juy))
  | str j => obtain ⟨t', rfl⟩ := ry; exact PySem.EqMixed.ne_int_str (J8 I q (by simp))
  | _ => exact absurd (show false = true from hs) Bool.false_ne_true
 | str i =>
  obtain ⟨t, rfl⟩ := rx
  cases y with
  | non => cases ry; exact PySem.EqNone.ne_str_none (J8 I q (by simp))
  | bl j => cases ry; exact PySem.EqMixed.ne_str_bool (J8 I q (by simp))
  | int j => obtain ⟨t', rfl⟩ := ry; exact PySem.EqMixed.ne_str_int (J8 I q (by simp))
  | str j => obtain ⟨t', rfl⟩ := ry; exact ne_str (J8 I q (congrArg not Js2))
  | _ => exact absurd (show false = true from hs) Bool.false_ne_true
 | byt i =>
  obtain ⟨t, rfl⟩ := rx
  cases y with
  | byt j => obtain ⟨t', rfl⟩ := ry; exact W.ne_bytes (J8 I q (congrArg not Jut))
  | _ => exact absurd (show false = true from hs) Bool.false_ne_true
 | _ => cases y <;> exact absurd (show false = true from hs) Bool.false_ne_true
theorem op_lt : OpR X (compareOp .Lt) (rI0 fun i j => .bl (decide (i < j))) := opB0 fun _ _ _ _ _ _ _ q => lt_int q
theorem op_le : OpR X (compareOp .LtE) (rI0 fun i j => .bl (decide (i <= j))) := opB0 fun _ _ _ _ _ _ _ q => le_int q
theorem op_gt : OpR X (compareOp .Gt) (rI0 fun i j => .bl (decide (j < i))) := opB0 fun _ _ _ _ _ _ _ q => gt_int q
theorem op_ge : OpR X (compareOp .GtE) (rI0 fun i j => .bl (decide (j <= i))) := opB0 fun _ _ _ _ _ _ _ q => ge_int q
theorem Js1 : OpR X (compareOp .Lt) (fun x y H Q => ∃ i j, x = .str i /\ y = .str j /\ Q (.bl (decide (i.cps.toList < j.cps.toList))) H) := by
 intro pins s σ H x y v u Q I rx ry h
 obtain ⟨i, j, rfl, rfl, q⟩ := h
 obtain ⟨t, rfl⟩ := rx
 obtain ⟨t', rfl⟩ := ry
 exact lt_str (J8 I q rfl)
theorem OpR.or {f : Value -> Value -> Sem Value} {r r' : R2} (h : OpR X f r) (h' : OpR X f r') : OpR X f (fun x y H Q => r x y H Q ∨ r' x y H Q) := by
 intro pins s σ H x y v u Q I rx ry q
 rcases q with q | q
 ·exact h pins s σ H x y v u Q I rx ry q
 ·exact h' pins s σ H x y v u Q I rx ry q
theorem nomark (b : Expr) {op : CmpOp} (h : op ≠ .In := by decide) (h2 : op ≠ .NotIn := by decide) : behindInMarks op b = false := by
 have e1 : (op == CmpOp.In) = false := by cases op <;> first | rfl | exact absurd rfl h
 have e2 : (op == CmpOp.NotIn) = false := by cases op <;> first | rfl | exact absurd rfl h2
 cases b <;> simp [behindInMarks, e1, e2]
noncomputable def TruV (K : W.Frag) (x : V) (H : Hp) (k : Bool) : Prop :=
 match x with
 | .non => k = false
 | .bl b => k = b
 | .int i => k = (i != 0)
 | .str y => y.length <= sizeLine /\ k = ((y.length : Int) != 0)
 | .byt y => y.size <= sizeLine /\ k = ((y.size : Int) != 0)
 | .ref p => (∃ xs, SqL K H p xs /\ k = !xs.isEmpty) ∨ (∃ xs, SqT K H p xs /\ k = !xs.isEmpty) ∨ ∃ kvs, H p = some (.dK kvs) /\ k = !kvs.isEmpty
 | _ => False
theorem Jsl {κ : Type} {kvs : List (κ × V)} {vs : List (κ × Value)} (r : KV kvs vs) : (!vs.isEmpty) = !kvs.isEmpty := by
 cases r <;> rfl
theorem Jlj {xs : List V} {its : List Value} (r : Vals xs its) : (!its.toArray.isEmpty) = !xs.isEmpty := by
 cases r <;> simp
theorem Jo0 : (sizeLine : Nat) < 2 ^ 63 := by rw [sizeLine_eq]; decide
theorem Jjo : TruR X (fun x H Q => ∃ k, TruV X.K x H k /\ Q k H) := by
 intro pins s σ H x v Q I rx h
 obtain ⟨k, e, q⟩ := h
 have hl := Jo0
 have hs : sizeLine = 16777216 := sizeLine_eq
 cases x with
 | non =>
  cases rx
  have e' : k = false := e
  subst e'
  exact truthy_none ⟨H, I, q⟩
 | bl b =>
  cases rx
  have e' : k = b := e
  subst e'
  exact wpAny_truthy_bool ⟨H, I, q⟩
 | int i =>
  obtain ⟨t, rfl⟩ := rx
  have e' : k = (i != 0) := e
  subst e'
  exact PySem.P.truthy_int ⟨H, I, q⟩
 | str y =>
  obtain ⟨t, rfl⟩ := rx
  obtain ⟨hy, e'⟩ : y.length <= sizeLine /\ k = ((y.length : Int) != 0) := e
  subst e'
  exact PySem.P.truthy_str (by omega) ⟨H, I.tok _, q⟩
 | byt y =>
  obtain ⟨t, rfl⟩ := rx
  obtain ⟨hy, e'⟩ : y.size <= sizeLine /\ k = ((y.size : Int) != 0) := e
  subst e'
  exact W.truthy_bytes (by omega) ⟨H, I.tok _, q⟩
 | ref p =>
  cases rx
  have e' : (∃ xs, SqL X.K H p xs /\ k = !xs.isEmpty) ∨ (∃ xs, SqT X.K H p xs /\ k = !xs.isEmpty) ∨ ∃ kvs, H p = some (.dK kvs) /\ k = !kvs.isEmpty := e
  rcases e' with ⟨xs, hx, e'⟩ | ⟨xs, hx, e'⟩ | ⟨kvs, hx, e'⟩
  ·subst e'
   obtain ⟨its, r, pl, hz⟩ := I.list hx
   have hlen := r.length
   exact wpAny_truthy_list pl.isList (by simp only [List.size_toArray]; omega) ⟨H, I.tok _, by rw [Jlj r]; exact q⟩
  ·subst e'
   obtain ⟨its, r, pl, hz⟩ := I.tuple hx
   have hlen := r.length
   exact truthy_tuple pl (by simp only [List.size_toArray]; omega) ⟨H, I.tok _, by rw [Jlj r]; exact q⟩
  ·subst e'
   obtain ⟨hz, hS, vs, r, m⟩ : kvs.length <= sizeLine /\ (p == sysModules) = false /\ ∃ vs, KV kvs vs /\ s.heap.DictOf (Jfi X.prog X.w) p vs := I.hok p _ hx
   have hlen : kvs.length = vs.length := Paired.length r
   exact wpAny_truthy_dict hS m (by omega) ⟨H, I.tok _, by rw [Jsl r]; exact q⟩
 | _ => exact Zf e
theorem Jsc : OpR X (binaryOp .Add) (fun x y H Q => ∃ i j, x = .str i /\ y = .str j /\ i.length + j.length <= sizeLine /\ Q (.str (i ++ j)) H) := by
 intro pins s σ H x y v u Q I rx ry h
 obtain ⟨i, j, rfl, rfl, hz, q⟩ := h
 obtain ⟨t, rfl⟩ := rx
 obtain ⟨t', rfl⟩ := ry
 exact add_str (fun t' tk => ⟨.str (i ++ j), H, I.tok _, ⟨_, rfl⟩, q⟩) hz
theorem Jkk {x : V} {us : List Value} (r : Vals [x] us) : ∃ u, us = [u] /\ RelV x u := by
 cases r with
 | cons r1 r2 => cases r2; exact ⟨_, rfl, r1⟩
theorem J0d {x y : V} {us : List Value} (r : Vals [x, y] us) : ∃ u w', us = [u, w'] /\ RelV x u /\ RelV y w' := by
 cases r with
 | cons r1 r2 =>
  cases r2 with
  | cons r3 r4 => cases r4; exact ⟨_, _, rfl, r1, r3⟩
theorem Jsy (hc : X.calm = true) : Jki X (.builtin "max") (fun xs H Q => ∃ i j, xs = [.int i, .int j] /\ Q (.int (if j > i then j else i)) H) := by
 intro pins s σ H xs us Q I r h
 obtain ⟨i, j, rfl, q⟩ := h
 obtain ⟨u, w', rfl, ⟨t, rfl⟩, ⟨t', rfl⟩⟩ := J0d r
 refine max_two_ints (I.ok.hd hc) fun h' tk k => ⟨_, H, I.kept k, ?_, q⟩
 by_cases hj : j > i
 ·rw [if_pos hj, if_pos hj]; exact ⟨_, rfl⟩
 ·rw [if_neg hj, if_neg hj]; exact ⟨_, rfl⟩
theorem Jug (hc : X.calm = true) : Jki X (.builtin "min") (fun xs H Q => ∃ i j, xs = [.int i, .int j] /\ Q (.int (if j < i then j else i)) H) := by
 intro pins s σ H xs us Q I r h
 obtain ⟨i, j, rfl, q⟩ := h
 obtain ⟨u, w', rfl, ⟨t, rfl⟩, ⟨t', rfl⟩⟩ := J0d r
 refine min_two_ints (I.ok.hd hc) fun h' tk k => ⟨_, H, I.kept k, ?_, q⟩
 by_cases hj : j < i
 ·rw [if_pos hj, if_pos hj]; exact ⟨_, rfl⟩
 ·rw [if_neg hj, if_neg hj]; exact ⟨_, rfl⟩
theorem Jpn : Jki X (.type "int") (fun xs H Q => (∃ i, xs = [.int i] /\ Q (.int i) H) ∨ ∃ k, xs = [.bl k] /\ Q (.int (if k then 1 else 0)) H) := by
 intro pins s σ H xs us Q I r h
 rcases h with ⟨i, rfl, q⟩ | ⟨k, rfl, q⟩
 ·obtain ⟨u, rfl, t, rfl⟩ := Jkk r
  exact call_int_int ⟨.int i, H, I, ⟨_, rfl⟩, q⟩
 ·obtain ⟨u, rfl, r1⟩ := Jkk r
  cases r1
  exact call_int_bool ⟨.int (if k then 1 else 0), H, I.tok _, ⟨_, rfl⟩, q⟩
noncomputable def LenV (K : W.Frag) (x : V) (H : Hp) (n : Nat) : Prop :=
 match x with
 | .str y => y.length <= sizeLine /\ n = y.length
 | .byt y => y.size <= sizeLine /\ n = y.size
 | .ref p => (∃ xs, SqL K H p xs /\ n = xs.length) ∨ ∃ xs, SqT K H p xs /\ n = xs.length
 | _ => False
theorem Jjy : Jki X (.builtin "len") (fun xs H Q => ∃ x n, xs = [x] /\ LenV X.K x H n /\ Q (.int n) H) := by
 intro pins s σ H xs us Q I r h
 obtain ⟨x, n, rfl, e, q⟩ := h
 obtain ⟨u, rfl, rx⟩ := Jkk r
 have hl := Jo0
 have hs : sizeLine = 16777216 := sizeLine_eq
 cases x with
 | str y =>
  obtain ⟨t, rfl⟩ := rx
  obtain ⟨hy, e'⟩ : y.length <= sizeLine /\ n = y.length := e
  subst e'
  exact len_str (by omega) ⟨.int _, H, I.tok _, ⟨_, rfl⟩, q⟩
 | byt y =>
  obtain ⟨t, rfl⟩ := rx
  obtain ⟨hy, e'⟩ : y.size <= sizeLine /\ n = y.size := e
  subst e'
  exact W.len_bytes (by omega) ⟨.int _, H, I.tok _, ⟨_, rfl⟩, q⟩
 | ref p =>
  cases rx
  have e' : (∃ xs, SqL X.K H p xs /\ n = xs.length) ∨ ∃ xs, SqT X.K H p xs /\ n = xs.length := e
  rcases e' with ⟨xs, hx, e'⟩ | ⟨xs, hx, e'⟩
  ·subst e'
   obtain ⟨its, r', pl, hz⟩ := I.list hx
   have hlen := r'.length
   exact Calls.call_len_list pl.isList (by simp only [List.size_toArray]; omega) ⟨.int xs.length, H, I.tok _, ⟨_, by simp only [List.size_toArray]; rw [hlen]⟩, q⟩
  ·subst e'
   obtain ⟨its, r', pl, hz⟩ := I.tuple hx
   have hlen := r'.length
   exact len_tuple pl (by simp only [List.size_toArray]; omega) ⟨.int xs.length, H, I.tok _, ⟨_, by simp only [List.size_toArray]; rw [hlen]⟩, q⟩
 | _ => exact Zf e
end
end L2
namespace L2
open PySem PySem.Spec PyProof.Rows
structure ObjM (h : Heap) (x dx C : Addr) (mA : Str -> Option Value) : Prop where
 obj : h.get? x = some (W.instObj C dx)
 ns : h.Ns1 dx mA
 ne : dx ≠ x
theorem Ju1 {h : Heap} {dx : Addr} {mA : Str -> Option Value} (n : h.Ns1 dx mA) : ∃ od, h.get? dx = some od /\ ∀ name, W.lookIn name od = some (mA name) := by
 obtain ⟨o, es, ep, ho, hd, hk, _, hm⟩ := n
 refine ⟨o, ho, fun name => ?_⟩
 have e := hm name
 unfold nsFind findBy at e
 rw [<- Array.find?_toList] at e
 unfold W.lookIn
 rw [hd]
 dsimp only
 split
 ·rename_i y q
  rw [q] at e
  exact congrArg some e
 ·rename_i q
  rw [q] at e
  have a : es.toList.any (·.refKey) = false := by
   rw [List.any_eq_false]
   intro y hy
   obtain ⟨z, t, hkey⟩ := hk y (Array.mem_toList_iff.mp hy)
   simp [DictEntry.refKey, hkey]
  have a' : ¬ es.toList.any (·.refKey) = true := by rw [a]; exact Bool.false_ne_true
  rw [if_neg a']
  exact congrArg some e
theorem ObjM.look {h : Heap} {x dx C : Addr} {mA : Str -> Option Value} (I : ObjM h x dx C mA) : ∃ od, W.InstAt h x (W.instObj C dx) C (some od) /\ ∀ name, W.lookIn name od = some (mA name) :=
 let ⟨od, ho, hl⟩ := Ju1 I.ns
 ⟨od, ⟨I.obj, rfl, rfl, ho⟩, hl⟩
section
variable {prog : Program} {w : World} {A : Around} {E : Value -> Shared -> Prop} {s : Shared} {K : W.Frag} {x dx C f : Addr} {mA : Str -> Option Value} {name : Str} {v : Value}
theorem Jyl {expr : Bool} {Q : Value -> Shared -> Prop} (X : K.In s.heap) (I : ObjM s.heap x dx C mA) (hg : W.plainGet K C name = true) (hh : W.hasDictIn K C = true)
  (ha : W.findIn K (.ref C) name = some none) (hv : mA name = some v) (hv' : W.handedIn v = true) (h : Q v { s with toks := s.toks + 1 }) :
  wpAny (model prog w) A (getAttr (.ref x) name expr) Q E s := by
 obtain ⟨od, J, hl⟩ := I.look
 exact W.get_value X J (W.plainGet_of hg).1 (W.findObj_own hh ha rfl (by rw [hl, hv])) hv' h
theorem Jvc {pl : Sem Bool} {Q : Value × List Value -> Shared -> Prop} (X : K.In s.heap) (I : ObjM s.heap x dx C mA) (hg : W.plainGet K C name = true)
  (hf : W.findIn K (.ref C) name = some (some (.ref f))) (ht : W.isFn K (.ref f) = true) (hv : mA name = none) (h : Q (.ref f, [.ref x]) s) :
  wpAny (model prog w) A (getMethod (.ref x) name pl) Q E s := by
 obtain ⟨od, J, hl⟩ := I.look
 exact W.method_fn X J (W.plainGet_of hg).1 (W.plainGet_of hg).2 hf (beq_iff_eq.mp ht) (by show (W.lookIn name od).map (·.isSome) = some false; rw [hl, hv]; rfl) h
theorem Jxv {ns : List Str} {Q : Unit -> Shared -> Prop} (X : K.In s.heap) (I : ObjM s.heap x dx C mA)
  (hs : W.findIn K (.ref C) "__setattr__" = some (some (.builtin "object.__setattr__"))) (hp : W.plainOver K C = true) (ht : W.takerIn K C name = some none) (hh : W.hasDictIn K C = true)
  (hw : PySem.Within mA ns) (hsz : ns.length <= sizeLine)
  (h : ∀ h', ObjM h' x dx C (fun y => if y = name then some v else mA y) -> Heap.SameBut dx s.heap h' -> Q () { s with heap := h', toks := s.toks + 2 }) :
  wpAny (model prog w) A (setAttr (.ref x) name v) Q E s := by
 obtain ⟨od, J, hl⟩ := I.look
 refine W.set_plain X J hs (W.osa_open (s := { s with toks := s.toks + 1 }) (r := none) X J hp ht fun b => ?_)
 obtain ⟨cd, hc, hd'⟩ := W.any_some hh
 have hx : s.heap.get? x = some ⟨.ref C, some dx, .plain, #[]⟩ := I.obj
 refine wpAny_bind (wpAny_pure (wpAny_bind (wpAny_bind (wpAny_loadPart hx (wpAny_bind (W.Looks.here (s := { s with toks := s.toks + 1 }) (W.looks_clsIn X hc) ?_))))))
 rw [hd']
 refine wpAny_pure (a := some dx) (wpAny_bind (wpAny_pure (wpAny_bind ?_)))
 refine wpAny_nsSet1 (s := { s with toks := s.toks + 1 }) I.ns fun h' hn2 hs2 => ?_
 obtain ⟨oD, esD, epD, hoD, hdD, hcD⟩ := hn2.count (PySem.Within.cons name v hw)
 refine wpAny_bind (wpAny_lookBehind hoD (by rw [hdD]; exact pastItsLine_dict (Nat.le_trans hcD (by rw [List.length_cons]; omega))) ?_)
 exact wpAny_pure (h _ ⟨(hs2.2 _ (Ne.symm I.ne)).trans I.obj, hn2, I.ne⟩ hs2)
theorem Jvj {R : Result -> Shared -> Prop} {vs : List Value} {kw : List (Str × Value)} (X : K.In s.heap) (hm : W.makesIn K C = true)
  (hi : W.findIn K (.ref C) "__init__" = some (some (.ref f))) (hf : W.typeIn K (.ref f) = some (.type "function"))
  (h : codeAny (model prog w) (A.under (.builtin "type.__call__" ⟨.ref C :: vs, kw⟩)) (.call (.ref f) ⟨.ref (s.heap.objs.size + 1) :: vs, kw⟩) (W.InitBack (s.heap.objs.size + 1) R)
   { s with heap := (s.heap.push W.emptyDict).push (W.instObj C s.heap.objs.size) }) :
  codeAny (model prog w) A (.call (.ref C) ⟨vs, kw⟩) R s := by
 obtain ⟨hh, g, d, t, os⟩ := s
 exact W.make_core (W.makes_of X hm) (W.looks_findIn X hi) (fun self => W.bind_fn X self hf) (.inl rfl) h
end
noncomputable def putF (f : Str) (v : V) : List (Str × V) -> List (Str × V)
 | [] => [(f, v)]
 | (g, x) :: r => if g = f then (g, v) :: r else (g, x) :: putF f v r
theorem Jkb (f g : Str) (v : V) : ∀ fs : List (Str × V), (putF f v fs).lookup g = if g = f then some v else fs.lookup g
 | [] => by
  show List.lookup g [(f, v)] = _
  by_cases h : g = f
  ·have hb : (g == f) = true := beq_iff_eq.mpr h
   simp only [List.lookup, hb, if_pos h]
  ·have hb : (g == f) = false := beq_eq_false_iff_ne.mpr h
   simp only [List.lookup, hb, if_neg h]
 | (k, x) :: r => by
  have ih := Jkb f g v r
  rw [show putF f v ((k, x) :: r) = (if k = f then (k, v) :: r else (k, x) :: putF f v r) from rfl]
  by_cases hk : k = f
  ·rw [if_pos hk]
   by_cases h : g = k
   ·have hb : (g == k) = true := beq_iff_eq.mpr h
    simp only [List.lookup, hb, if_pos (h.trans hk)]
   ·have hb : (g == k) = false := beq_eq_false_iff_ne.mpr h
    simp only [List.lookup, hb, if_neg (fun e : g = f => h (e.trans hk.symm))]
  ·rw [if_neg hk]
   by_cases h : g = k
   ·have hb : (g == k) = true := beq_iff_eq.mpr h
    simp only [List.lookup, hb, if_neg (fun e : g = f => hk (h.symm.trans e))]
   ·have hb : (g == k) = false := beq_eq_false_iff_ne.mpr h
    simp only [List.lookup, hb]
    exact ih
theorem Jj4 (f : Str) (v : V) : ∀ fs : List (Str × V), f ∈ (putF f v fs).map (·.1) /\ ∀ g, g ∈ fs.map (·.1) -> g ∈ (putF f v fs).map (·.1)
 | [] => ⟨by simp [putF], fun g h => by simp at h⟩
 | (k, x) :: r => by
  obtain ⟨i1, i2⟩ := Jj4 f v r
  rw [show putF f v ((k, x) :: r) = (if k = f then (k, v) :: r else (k, x) :: putF f v r) from rfl]
  by_cases hk : k = f
  ·rw [if_pos hk]
   subst hk
   exact ⟨by simp, fun g h => by simpa using h⟩
  ·rw [if_neg hk]
   refine ⟨?_, fun g h => ?_⟩
   ·rw [List.map_cons]
    exact List.mem_cons_of_mem _ i1
   ·rw [List.map_cons] at h ⊢
    rcases List.mem_cons.mp h with e | e
    ·exact List.mem_cons.mpr (.inl e)
    ·exact List.mem_cons_of_mem _ (i2 g e)
theorem Jj5 (f : Str) (v : V) : ∀ fs : List (Str × V), (putF f v fs).length <= fs.length + 1
 | [] => by simp [putF]
 | (k, x) :: r => by
  have ih := Jj5 f v r
  rw [show putF f v ((k, x) :: r) = (if k = f then (k, v) :: r else (k, x) :: putF f v r) from rfl]
  by_cases hk : k = f
  ·rw [if_pos hk, List.length_cons, List.length_cons]; omega
  ·rw [if_neg hk, List.length_cons, List.length_cons]; omega
theorem RelO.some_of {v : V} {o : Option Value} (r : RelO (some v) o) : ∃ u, o = some u /\ RelV v u := by
 cases o with
 | none => exact Zf r
 | some u => exact ⟨u, rfl, r⟩
theorem RelO.none_of {o : Option Value} (r : RelO none o) : o = none := by
 cases o with
 | none => rfl
 | some u => exact Zf r
theorem Jtg {v : V} {u : Value} (r : RelV v u) : W.handedIn u = true := by
 cases v with
 | non => cases (show u = Value.none from r); rfl
 | bl b => cases (show u = Value.bool b from r); rfl
 | int i => obtain ⟨t, e⟩ := (show ∃ t, u = Value.int i t from r); cases e; rfl
 | str x => obtain ⟨t, e⟩ := (show ∃ t, u = Value.str x t from r); cases e; rfl
 | byt b => obtain ⟨t, e⟩ := (show ∃ t, u = Value.bytes b t from r); cases e; rfl
 | flt b => obtain ⟨t, e⟩ := (show ∃ t, u = Value.float b t from r); cases e; rfl
 | ref a => cases (show u = Value.ref a from r); rfl
 | ty n => cases (show u = Value.type n from r); rfl
section
variable {P : Program} {w : World} {H H' : Hp} {h h' : Heap} {a C dx : Addr} {fs fs' : List (Str × V)}
theorem Jlv (hok : HOk P w H h) (e : H a = some (.ins C dx fs)) : ∃ mA, ObjM h a dx C mA /\ (∀ f, RelO (fs.lookup f) (mA f)) /\ PySem.Within mA (fs.map (·.1)) /\ fs.length <= 1000 /\ H dx = some (.own a) := by
 obtain ⟨d, z, ne, ob, mA, n, r, q⟩ := (show Jea P w H h a (.ins C dx fs) from hok a _ e)
 exact ⟨mA, ⟨ob, n, ne⟩, r, q, z, d⟩
end
structure Cls (K : W.Frag) (C : Addr) : Prop where
 pg : W.plainGet K C Str.empty = true
 hd : W.hasDictIn K C = true
 po : W.plainOver K C = true
 sa : W.findIn K (.ref C) "__setattr__" = some (some (.builtin "object.__setattr__"))
theorem Cls.get {K : W.Frag} {C : Addr} (c : Cls K C) (f : Str) : W.plainGet K C f = true := c.pg
noncomputable def Jh5 (K : W.Frag) (C : Addr) (f : Str) : Prop := W.findIn K (.ref C) f = some none
theorem Jh5.taker {K : W.Frag} {C : Addr} {f : Str} (n : Jh5 K C f) : W.takerIn K C f = some none := by
 unfold W.takerIn
 rw [show W.findIn K (.ref C) f = some none from n]
 rfl
structure Con (K : W.Frag) (C : Addr) (f : Str) (v : V) (u : Value) : Prop where
 at_ : W.findIn K (.ref C) f = some (some u)
 rel : RelV v u
 get : W.specialIn K u "__get__" = some none
 cp : W.copiedNames.contains f = false
structure Meth (K : W.Frag) (C : Addr) (m : Str) (f : Addr) : Prop where
 at_ : W.findIn K (.ref C) m = some (some (.ref f))
 fn : W.isFn K (.ref f) = true
 kp : W.keepIn K (.ref f) = true
section
variable {X : Cx} {pins : List (Addr × Obj)} {σ : St} {H : Hp} {s : Shared} {a C dx : Addr} {fs : List (Str × V)} {f : Str} {v : V} {A : Around} {E : Value -> Shared -> Prop}
theorem Jr7 {b : Bool} {Q : Value -> Shared -> Prop} (I : Inv X pins σ H s) (e : H a = some (.ins C dx fs)) (c : Cls X.K C) (n : Jh5 X.K C f) (l : fs.lookup f = some v)
  (h : ∀ u s', Inv X pins σ H s' -> RelV v u -> Q u s') : wpAny (model X.prog X.w) A (getAttr (.ref a) f b) Q E s := by
 obtain ⟨mA, O, r, _, _, _⟩ := Jlv I.hok e
 obtain ⟨u, hu, ru⟩ := RelO.some_of (v := v) (o := mA f) (by rw [<- l]; exact r f)
 exact Jyl I.kIn O (c.get f) c.hd n hu (Jtg ru) (h u _ (I.tok _) ru)
theorem Jlg {m : Str} {g : Addr} {pl : Sem Bool} {Q : Value × List Value -> Shared -> Prop} (I : Inv X pins σ H s) (e : H a = some (.ins C dx fs)) (c : Cls X.K C) (k : Meth X.K C m g) (l : fs.lookup m = none)
  (h : Q (.ref g, [.ref a]) s) : wpAny (model X.prog X.w) A (getMethod (.ref a) m pl) Q E s := by
 obtain ⟨mA, O, r, _, _, _⟩ := Jlv I.hok e
 have hn : mA m = none := RelO.none_of (by rw [<- l]; exact r m)
 exact Jvc I.kIn O (c.get m) k.at_ k.fn hn h
theorem Jsi {y : V} {u : Value} {Q : Unit -> Shared -> Prop} (I : Inv X pins σ H s) (e : H a = some (.ins C dx fs)) (c : Cls X.K C) (n : Jh5 X.K C f) (hl : fs.length < 1000) (ry : RelV y u)
  (h : ∀ s', Inv X pins σ (upd H a (.ins C dx (putF f y fs))) s' -> Q () s') : wpAny (model X.prog X.w) A (setAttr (.ref a) f u) Q E s := by
 obtain ⟨mA, O, r, wi, _, ho⟩ := Jlv I.hok e
 have hz : (fs.map (·.1)).length <= sizeLine := by rw [List.length_map, sizeLine_eq]; omega
 refine Jxv I.kIn O c.sa c.po n.taker c.hd wi hz fun h' O' sb => h _ ?_
 have hd : ∃ o, h'.get? dx = some o := let ⟨o, _, _, e', _⟩ := O'.ns; ⟨o, e'⟩
 refine I.write (x := a) (e := dx) (by rw [e]; exact True.intro) (.inr ho) (fun b q hb z => (sb.2 b hb).trans z) hd ?_
 refine ⟨by rw [Jg O.ne]; exact ho, ?_, O.ne, O'.obj, _, O'.ns, fun g => ?_, fun g hg => ?_⟩
 ·have := Jj5 f y fs; omega
 ·show RelO ((putF f y fs).lookup g) (if g = f then some u else mA g)
  rw [Jkb]
  by_cases q : g = f
  ·rw [if_pos q, if_pos q]; exact ry
  ·rw [if_neg q, if_neg q]; exact r g
 ·by_cases q : g = f
  ·rw [q]; exact (Jj4 f y fs).1
  ·refine (Jj4 f y fs).2 g (wi g fun z => hg ?_)
   show (if g = f then some u else mA g) = none
   rw [if_neg q]; exact z
theorem Inv.made (I : Inv X pins σ H s) : Inv X pins σ (upd (upd H s.heap.objs.size (.own (s.heap.objs.size + 1))) (s.heap.objs.size + 1) (.ins C s.heap.objs.size []))
  { s with heap := (s.heap.push W.emptyDict).push (W.instObj C s.heap.objs.size) } := by
 have e1 : (s.heap.push W.emptyDict).get? s.heap.objs.size = some W.emptyDict := Heap.get?_push_size s.heap rfl
 have e2 : ((s.heap.push W.emptyDict).push (W.instObj C s.heap.objs.size)).get? (s.heap.objs.size + 1) = some (W.instObj C s.heap.objs.size) := by
  have := Heap.get?_push_size (s.heap.push W.emptyDict) (o := W.instObj C s.heap.objs.size) rfl
  rwa [Heap.size_push] at this
 have e3 : (s.heap.push W.emptyDict).Ns s.heap.objs.size (fun _ => none) := ⟨W.emptyDict, #[], _, e1, rfl, (fun e he => absurd he (by simp)), fun _ => rfl⟩
 have I1 := I.laid (a := s.heap.objs.size) (o := .own (s.heap.objs.size + 1)) (h' := s.heap.push W.emptyDict) (t' := s.toks) (fun b u q => Heap.get?_push_of_some _ q) (Nat.le_refl _) ⟨_, e1⟩
 refine I1.laid (a := s.heap.objs.size + 1) (o := .ins C s.heap.objs.size []) (t' := s.toks) (fun b u q => Heap.get?_push_of_some _ q) (Nat.le_of_eq (Heap.size_push _ _)) ?_
 have ne : s.heap.objs.size ≠ s.heap.objs.size + 1 := Nat.ne_of_lt (Nat.lt_succ_self _)
 refine ⟨by rw [Jg ne, Jk], Nat.zero_le _, ne, e2, fun _ => none, (Heap.Ns1.of_empty e3).at fun o q => Heap.get?_push_of_some _ q, fun _ => True.intro, fun y hy => absurd rfl hy⟩
theorem Jy5 {prog : Program} {w : World} {env : Env} {e : Expr} {f : Str} {pos : Pos} {s : Shared} {Q : Value -> Shared -> Prop} (hb : attributeBase e f env (eval e env) = eval e env)
  (h : wpAny (model prog w) A (eval e env) (fun o s₁ => wpAny (model prog w) A (getAttr o f true) Q E s₁) E s) : wpAny (model prog w) A (eval (.Attribute e f pos) env) Q E s :=
 Attribute_any_ h (by rw [arm_eval_Attribute, hb])
end
section
variable {X : Cx} {o e value : Expr} {f : Str} {pos pos' tpos : Pos} {ta tv : TE}
end
section
variable {X : Cx} {pins : List (Addr × Obj)} {σ : St} {H : Hp} {s : Shared} {A : Around} {E : Value -> Shared -> Prop} {Q : Value -> Shared -> Prop} {c : Value} {b : Bool}
inductive TyOf (K : W.Frag) (H : Hp) : V -> Value -> Prop where
 | non : TyOf K H .non (.type "NoneType")
 | bl (x : Bool) : TyOf K H (.bl x) (.type "bool")
 | int (i : Int) : TyOf K H (.int i) (.type "int")
 | str (x : Str) : TyOf K H (.str x) (.type "str")
 | flt (x : UInt64) : TyOf K H (.flt x) (.type "float")
 | lst {a : Addr} {xs : List V} (e : H a = some (.lst xs)) : TyOf K H (.ref a) (.type "list")
 | frz {a : Addr} {o : Obj} {xs : List V} (e : H a = some (.frz o (.lst xs))) : TyOf K H (.ref a) (.type "list")
 | tup {a : Addr} {xs : List V} (e : H a = some (.tup xs)) : TyOf K H (.ref a) (.type "tuple")
 | dK {a : Addr} {kvs : List (Key × V)} (e : H a = some (.dK kvs)) : TyOf K H (.ref a) (.type "dict")
 | dT {a : Addr} {kvs : List (List Key × V)} (e : H a = some (.dT kvs)) : TyOf K H (.ref a) (.type "dict")
 | ins {a C dx : Addr} {fs : List (Str × V)} (e : H a = some (.ins C dx fs)) (cl : Cls K C) (ha : W.findIn K (.ref C) "__class__" = some (some (.builtin "object.__class__")))
   (hn : W.specialIn K (.builtin "object.__class__") "__get__" = some (some (.builtin "getset_descriptor.__get__"))) (htk : W.takesIn K (.builtin "object.__class__") = some true)
   (hm : W.mroIn K C (.type "object") = some true) : TyOf K H (.ref a) (.ref C)
end
end L2
namespace L2
open PySem PySem.Spec PyProof.Rows
structure Room (k : Nat) (A : Around) : Prop where
 hd : A.handled = none
 dp : A.depth + 3 * k + 5 < recursionLimit
 un : A.units + 16 * k + 200 < cLine
theorem Room.mono {j k : Nat} {A : Around} (r : Room k A) (h : j <= k) : Room j A := ⟨r.hd, by have := r.dp; omega, by have := r.un; omega⟩
theorem Room.deeper {k : Nat} {A : Around} (r : Room (k + 1) A) (env : Env) : Room k (A.deeper env) :=
 ⟨r.hd, by have := r.dp; show A.depth + 1 + 3 * k + 5 < _; omega, by have := r.un; show A.units + 3 + 16 * k + 200 < _; omega⟩
theorem Room.in1 {k : Nat} {A : Around} (r : Room (k + 1) A) : Room k A.in1 :=
 ⟨r.hd, by have := r.dp; show A.depth + 3 * k + 5 < _; omega, by have := r.un; show A.units + 1 + 16 * k + 200 < _; omega⟩
theorem Jrx {A : Around} {C : Addr} {us : List Value} {kw : List (Str × Value)} : (A.under (.builtin "type.__call__" ⟨.ref C :: us, kw⟩)).depth = A.depth + 1 := by
 first | rfl | simp [Around.under, Code.weight, Code.isCreation, Code.isGuard, Code.isCaller, Code.frames, Code.isFrame, guardIds]
theorem Jse {A : Around} {C : Addr} {us : List Value} {kw : List (Str × Value)} : (A.under (.builtin "type.__call__" ⟨.ref C :: us, kw⟩)).units = A.units + 1 := by
 first | rfl | simp [Around.under, Code.cUnits, Code.frames, Code.isFrame]
theorem Room.make {k : Nat} {A : Around} (r : Room (k + 1) A) (C : Addr) (us : List Value) (kw : List (Str × Value)) : Room k (A.under (.builtin "type.__call__" ⟨.ref C :: us, kw⟩)) :=
 ⟨r.hd, by have := r.dp; rw [Jrx]; omega, by have := r.un; rw [Jse]; omega⟩
theorem Room.depth {k : Nat} {A : Around} (r : Room k A) : A.depth < recursionLimit := by have := r.dp; omega
theorem Room.units {k : Nat} {A : Around} (r : Room k A) : A.units + 64 < cLine := by have := r.un; omega
section
variable {X : Cx} {e : Expr} {es : List Expr} {te : TE} {t : TA} {pos : Pos}
end
noncomputable abbrev Sp := List V -> Hp -> VK -> XK -> Prop
noncomputable abbrev CXT := List Env -> Hp -> Shared -> XK -> Value -> Shared -> Prop
structure Env0 (P : Program) (w : World) (K : W.Frag) (mg : Str -> Option Value) (base : Heap) (A : Around) (outer : List Env) (s : Shared) (H : Hp) : Prop where
 frames : A.frames = some outer
 mod : Mod K mg base
 bs : ∀ b o, base.get? b = some o -> s.heap.get? b = some o /\ H b = none
 bsz : base.objs.size <= s.heap.objs.size
 funs : s.heap.FunFrames base outer
 frf : ∀ b ∈ frs outer, H b = none
 hok : HOk P w H s.heap
 bare : AllBare s.gens
noncomputable def CE (outer : List Env) (P : Program) (w : World) (H : Hp) (s : Shared) (Q : VK) (u : Value) (s' : Shared) : Prop :=
 ∃ v H', s'.os = s.os /\ AllBare s'.gens /\ Un (frs outer) [] H H' s.heap s'.heap /\ HOk P w H' s'.heap /\ RelV v u /\ Q v H'
noncomputable def CR (CX : CXT) (outer : List Env) (P : Program) (w : World) (H : Hp) (s : Shared) (Q : VK) (E : XK) (r : Result) (s' : Shared) : Prop :=
 match r with
 | .ok (.ret u) => CE outer P w H s Q u s'
 | .ok _ => False
 | .error e => CX outer H s E e s'
structure FnOk (P : Program) (w : World) (K : W.Frag) (mg : Str -> Option Value) (base : Heap) (CX : CXT) (k : Nat) (f : Addr) (fd : FuncData) (ps : List Str) (sp : Sp) : Prop where
 len : ∀ vs H Q E, sp vs H Q E -> vs.length = ps.length
 run : ∀ (A : Around) (outer : List Env) (s : Shared) (H : Hp) (args : Args) (us : List Value) (vs : List V) (Q : VK) (E : XK), Room k A -> Env0 P w K mg base A outer s H -> BindsTo s fd args (ps.zip us) -> Vals vs us -> sp vs H Q E ->
  codeAny (model P w) A (.call (.ref f) args) (CR CX outer P w H s Q E) s
theorem FnOk.mono {P : Program} {w : World} {K : W.Frag} {mg : Str -> Option Value} {base : Heap} {CX : CXT} {j k : Nat} {f : Addr} {fd : FuncData} {ps : List Str} {sp : Sp} (F : FnOk P w K mg base CX j f fd ps sp) (h : j <= k) :
  FnOk P w K mg base CX k f fd ps sp := ⟨F.len, fun A outer s H args us vs Q E hr => F.run A outer s H args us vs Q E (hr.mono h)⟩
theorem FnOk.imp {P : Program} {w : World} {K : W.Frag} {mg : Str -> Option Value} {base : Heap} {CX : CXT} {k : Nat} {f : Addr} {fd : FuncData} {ps : List Str} {sp sp' : Sp} (F : FnOk P w K mg base CX k f fd ps sp)
  (h : ∀ vs H Q E, sp' vs H Q E -> sp vs H Q E) : FnOk P w K mg base CX k f fd ps sp' :=
 ⟨fun vs H Q E q => F.len vs H Q E (h _ _ _ _ q), fun A outer s H args us vs Q E hr he hb hv hs => F.run A outer s H args us vs Q E hr he hb hv (h _ _ _ _ hs)⟩
theorem Env0.make {P : Program} {w : World} {K : W.Frag} {mg : Str -> Option Value} {base : Heap} {A : Around} {outer : List Env} {s : Shared} {H : Hp} (e : Env0 P w K mg base A outer s H) (C : Addr) (us : List Value) (kw : List (Str × Value)) :
  Env0 P w K mg base (A.under (.builtin "type.__call__" ⟨.ref C :: us, kw⟩)) outer s H := ⟨by first | exact e.frames | (simpa [Around.under, Code.envs, Code.isFrame, pushEnvs] using e.frames), e.mod, e.bs, e.bsz, e.funs, e.frf, e.hok, e.bare⟩
theorem Env0.in1 {P : Program} {w : World} {K : W.Frag} {mg : Str -> Option Value} {base : Heap} {A : Around} {outer : List Env} {s : Shared} {H : Hp} (e : Env0 P w K mg base A outer s H) :
  Env0 P w K mg base A.in1 outer s H := ⟨e.frames, e.mod, e.bs, e.bsz, e.funs, e.frf, e.hok, e.bare⟩
section
variable {X : Cx} {pins : List (Addr × Obj)} {σ : St} {H : Hp} {s s' : Shared}
theorem Inv.env0 (I : Inv X pins σ H s) : Env0 X.prog X.w X.K X.mg X.base X.A X.stack s H :=
 ⟨I.ok.frames, I.ok.mod, I.bs, Nat.le_trans I.ok.bsz I.sz, I.stack, I.stkFree, I.hok, I.bare⟩
theorem Inv.after {Q : VK} {u : Value} (I : Inv X pins σ H s) (h : CE X.stack X.prog X.w H s Q u s') : EP X pins σ Q u s' := by
 obtain ⟨v, H', os, bare, un, hok, r, q⟩ := h
 obtain ⟨hh, g, d, t, os'⟩ := s'
 obtain rfl : os' = s.os := os
 exact ⟨v, H', I.call (h' := hh) (g' := g) (d' := d) (t' := t) (ch := []) un hok bare (fun b z => absurd z (by simp)), r, q⟩
end
noncomputable def Jg1 (K : W.Frag) (fd : FuncData) (ps : List Str) (ds : List Value) : Prop :=
 ∀ (s : Shared) (us : List Value), K.In s.heap -> (us ++ ds).length = ps.length -> BindsTo s fd ⟨us, []⟩ (ps.zip (us ++ ds))
theorem Jg1.all {K : W.Frag} {fd : FuncData} {ps : List Str} (h : ∀ us : List Value, us.length = ps.length -> bindArgs fd ⟨us, []⟩ = pure (ps.zip us)) : Jg1 K fd ps [] := fun s us _ hl => by
 rw [List.append_nil] at hl ⊢
 exact .of_eq (h us hl)
section
variable {X : Cx} {CX : CXT} {k : Nat} {f C : Addr} {fd : FuncData} {ps : List Str} {sp : Sp} {dvs : List V} {ds : List Value} {E : XK} {x m : Str} {p pos apos : Pos} {e o : Expr} {es : List Expr} {ta : TE} {t : TA}
structure Mk (K : W.Frag) (C f : Addr) : Prop where
 makes : W.makesIn K C = true
 init : W.findIn K (.ref C) "__init__" = some (some (.ref f))
 fn : W.isFn K (.ref f) = true
 kp : W.keepIn K (.ref C) = true
end
section
variable {X : Cx} {CX : CXT} {k : Nat} {f C : Addr} {fd : FuncData} {ps ks : List Str} {sp : Sp} {E : XK} {x m : Str} {p pos apos kpos : Pos} {e o : Expr} {es : List Expr} {kws : List Keyword} {te ta : TE} {t tk : TA} {nm : Option Str}
structure KBinds (K : W.Frag) (fd : FuncData) (ps ks : List Str) (g : List Value -> List Value -> List Value) (gV : List V -> List V -> List V) : Prop where
 to : ∀ (s : Shared) (us ws : List Value), K.In s.heap -> (g us ws).length = ps.length -> BindsTo s fd ⟨us, ks.zip ws⟩ (ps.zip (g us ws))
 rel : ∀ {vs : List V} {us : List Value} {zs : List V} {ws : List Value}, Vals vs us -> Vals zs ws -> Vals (gV vs zs) (g us ws)
variable {g : List Value -> List Value -> List Value} {gV : List V -> List V -> List V}
end
structure FnScope (N P : List Str) (sc : Scope) : Prop where
 kind : sc.kind = .function
 co : sc.isCoroutine = false
 gen : sc.isGenerator = false
 nd : N.Nodup
 pre : N.take P.length = P
 par : ∀ x ∈ P, sc.names.lookup x = some .local ∨ sc.names.lookup x = some .cell
 nofree : ∀ y ∈ sc.names, y.2 ≠ .free
theorem Jol {kindOf : Str -> Option NameKind} {x : Str} : ∀ {binds : List (Str × Value)} {m : Str -> Option Value}, (∀ v, (x, v) ∉ binds) -> bindL kindOf binds m x = m x
 | [], _, _ => rfl
 | (n, v) :: r, m, h => by
  unfold bindL
  rw [Jol fun w hw => h w (List.mem_cons_of_mem _ hw)]
  split
  ·have : x ≠ n := by rintro rfl; exact h v List.mem_cons_self
   simp [this]
  ·rfl
theorem Jpm {kindOf : Str -> Option NameKind} {x : Str} : ∀ {binds : List (Str × Value)} {m : Str -> Option Value}, (∀ v, (x, v) ∉ binds) -> bindC kindOf binds m x = m x
 | [], _, _ => rfl
 | (n, v) :: r, m, h => by
  unfold bindC
  rw [Jpm fun w hw => h w (List.mem_cons_of_mem _ hw)]
  split
  ·rfl
  ·have : x ≠ n := by rintro rfl; exact h v List.mem_cons_self
   simp [this]
theorem Jov {kindOf : Str -> Option NameKind} {x : Str} {v : Value} : ∀ {P : List Str} {vs : List Value} {i : Nat} {m : Str -> Option Value}, P.Nodup -> P[i]? = some x -> vs[i]? = some v -> kindOf x = some .local ->
  bindL kindOf (P.zip vs) m x = some v
 | [], _, _, _, _, h, _, _ => by simp at h
 | _ :: _, [], _, _, _, _, h, _ => by simp at h
 | p :: P, w :: vs, 0, m, nd, h1, h2, hk => by
  simp at h1 h2; subst h1; subst h2
  show bindL kindOf ((p, w) :: P.zip vs) m p = _
  unfold bindL
  rw [Jol fun v hv => (List.nodup_cons.mp nd).1 (List.of_mem_zip hv).1, if_pos hk]
  simp
 | p :: P, w :: vs, i + 1, m, nd, h1, h2, hk => by
  show bindL kindOf ((p, w) :: P.zip vs) m x = _
  unfold bindL
  exact Jov (i := i) (List.nodup_cons.mp nd).2 (by simpa using h1) (by simpa using h2) hk
theorem Jpg {kindOf : Str -> Option NameKind} {x : Str} {v : Value} : ∀ {P : List Str} {vs : List Value} {i : Nat} {m : Str -> Option Value}, P.Nodup -> P[i]? = some x -> vs[i]? = some v -> kindOf x ≠ some .local ->
  bindC kindOf (P.zip vs) m x = some v
 | [], _, _, _, _, h, _, _ => by simp at h
 | _ :: _, [], _, _, _, _, h, _ => by simp at h
 | p :: P, w :: vs, 0, m, nd, h1, h2, hk => by
  simp at h1 h2; subst h1; subst h2
  show bindC kindOf ((p, w) :: P.zip vs) m p = _
  unfold bindC
  rw [Jpm fun v hv => (List.nodup_cons.mp nd).1 (List.of_mem_zip hv).1, if_neg hk]
  simp
 | p :: P, w :: vs, i + 1, m, nd, h1, h2, hk => by
  show bindC kindOf ((p, w) :: P.zip vs) m x = _
  unfold bindC
  exact Jpg (i := i) (List.nodup_cons.mp nd).2 (by simpa using h1) (by simpa using h2) hk
noncomputable def start (N : List Str) (vs : List V) : St := vs.map some ++ List.replicate (N.length - vs.length) none
noncomputable def cxOf (CX : CXT) (P : Program) (w : World) (K : W.Frag) (mg : Str -> Option Value) (base : Heap) (N : List Str) (qual : Str) (scope : Scope) (f : Addr) (cd : Value) (A : Around) (outer : List Env) (s : Shared) (H : Hp) (E : XK) : Cx where
 prog := P
 w := w
 K := K
 mg := mg
 base := base
 A := A.deeper (envOfC qual scope s.heap.objs.size f cd)
 N := N
 s₀ := s
 H₀ := H
 env := envOfC qual scope s.heap.objs.size f cd
 outer := outer
 stack := envOfC qual scope s.heap.objs.size f cd :: outer
 ex := []
 calm := true
 fn := fun _ => true
 pn := []
 xe := fun e s' => wpAny (model P w) (A.deeper (envOfC qual scope s.heap.objs.size f cd)) (leaving (envOfC qual scope s.heap.objs.size f cd) e) (fun _ s'' => CX outer H s E e s'') (fun e' s'' => CX outer H s E e' s'') s'
theorem Jqz {sc : Scope} {n : Nat} {x : Str} (h : sc.names.lookup x = some .cell) : ∃ c, (cellsFrom n sc.names []).lookup x = some c := by
 have q := W.cellsFrom_some sc.names n [] (.inl h)
 exact Option.isSome_iff_exists.mp q
theorem Jth {CX : CXT} {P : Program} {w : World} {K : W.Frag} {mg : Str -> Option Value} {base : Heap} {N ps : List Str} {qual : Str} {scope : Scope} {f : Addr} {cd : Value} {A : Around} {outer : List Env} {s s1 : Shared} {H : Hp} {E : XK} {us : List Value} {vs : List V}
  (S : FnScope N ps scope) (hd : A.handled = none) (e0 : Env0 P w K mg base A outer s H) (hl : vs.length = ps.length) (r : Vals vs us)
  (x : InCallC s s.heap.objs.size (bindL (envOfC qual scope s.heap.objs.size f cd).kindOf (ps.zip us) fun _ => none) (cellsFrom (s.heap.objs.size + 1) scope.names []) (bindC (envOfC qual scope s.heap.objs.size f cd).kindOf (ps.zip us) fun _ => none) s1) :
  Inv (cxOf CX P w K mg base N qual scope f cd A outer s H E) [] (start N vs) H s1 := by
 have hpl : ps.length <= N.length := by have := congrArg List.length S.pre; rw [List.length_take] at this; omega
 obtain ⟨h1, tk, rfl, hk⟩ := x.done
 have noA : ∀ b : Addr, b ∉ (cxOf CX P w K mg base N qual scope f cd A outer s H E).ex := fun b z => absurd (show b ∈ ([] : List Addr) from z) (by simp)
 refine ⟨⟨e0.mod, S.kind, rfl, rfl, Nat.le_refl _, fun y z c h1 h2 => ?_, fun y hy => ?_, fun y c _ h => ?_, fun _ => hd, Around.frames_deeper e0.frames, .inr ⟨rfl, rfl⟩, fun b z => absurd z (noA b), e0.bs, e0.bsz, fun b _ _ => noA b, fun b z => absurd z (noA b), e0.funs, e0.frf⟩,
  rfl, e0.bare, Un.kept hk, ⟨_, x.toInCall.ns, fun i y v h1 h2 h3 => ?_⟩, fun y c h => ⟨_, x.cell y c h⟩, e0.hok.fresh (Nat.le_refl _), fun y c h => ?_, fun p hp => absurd (show p ∈ ([] : List (Addr × Obj)) from hp) (by simp), e0.hok.kept hk, ?_⟩
 ·exact name_of_addr x.apart (PySem.mem_of_lookup h1) (PySem.mem_of_lookup h2)
 ·have hy : scope.names.lookup y = some .cell ∨ scope.names.lookup y = some .free := hy
  rcases hy with hy | hy
  ·exact Jqz hy
  ·exact absurd rfl (S.nofree _ (PySem.mem_of_lookup hy))
 ·exact Nat.le_of_lt (x.above y c (PySem.mem_of_lookup h))
 ·have hi : i < vs.length := by
   unfold start at h2
   by_cases hi : i < vs.length
   ·exact hi
   ·rw [List.getElem?_append_right (by simpa using hi)] at h2
    rw [List.getElem?_replicate] at h2
    split at h2 <;> cases h2
  have ha : vs[i]? = some v := by
   unfold start at h2
   rw [List.getElem?_append_left (by simpa using hi), List.getElem?_map] at h2
   cases e : vs[i]? with
   | none => rw [e] at h2; cases h2
   | some a => rw [e] at h2; cases h2; rfl
  obtain ⟨u, hu, rv⟩ := r.get ha
  have hp : ps[i]? = some y := by
   rw [<- S.pre, List.getElem?_take_of_lt (by omega)]; exact h1
  have ndP : ps.Nodup := by rw [<- S.pre]; exact S.nd.sublist (List.take_sublist _ _)
  refine ⟨u, rv, ?_⟩
  rcases S.par y (List.mem_of_getElem? hp) with k | k
  ·exact .inl ⟨k, Jov ndP hp hu k⟩
  ·obtain ⟨c, e⟩ := Jqz (n := s.heap.objs.size + 1) k
   refine .inr ⟨.inl k, c, e, ?_⟩
   have q := x.cell y c e
   rw [Jpg ndP hp hu (by show scope.names.lookup y ≠ _; rw [k]; decide)] at q
   exact q
 ·exact e0.hok.fresh (Nat.le_of_lt (x.above y c (PySem.mem_of_lookup h)))
 ·unfold start
  show _ = N.length
  rw [List.length_append, List.length_map, List.length_replicate]
  omega
theorem J14 {CX : CXT} {P : Program} {w : World} {K : W.Frag} {mg : Str -> Option Value} {base : Heap} {k : Nat} {f : Addr} {name qual : Str} {params : Arguments} {body : List Stmt} {scope : Scope} {dV kV doc pm cdv ct oc : Value} {an od : Option Addr}
  {osl : Array (Option Value)} {N ps : List Str} {sp : Sp} (lk : K.lookup f = some ⟨oc, od, .func (W.fnOf name qual params body scope dV kV doc pm an cdv ct), osl⟩) (hcd : W.codeIn K cdv qual = true) (S : FnScope N ps scope)
  (len : ∀ vs H Q E, sp vs H Q E -> vs.length = ps.length)
  (hbody : ∀ (A : Around) (outer : List Env) (s : Shared) (H : Hp) (vs : List V) (Q : VK) (E : XK), Room k (A.deeper (envOfC qual scope s.heap.objs.size f cdv)) -> sp vs H Q E ->
   ∃ t, PSs (cxOf CX P w K mg base N qual scope f cdv A outer s H E) body t /\ t { nx := fun _ H' => Q .non H', rt := Q } (start N vs) H) :
  FnOk P w K mg base CX (k + 1) f (W.fnOf name qual params body scope dV kV doc pm an cdv ct) ps sp := by
 refine ⟨len, fun A outer s H args us vs Q E hr e0 hb r hsp => ?_⟩
 have hl := len _ _ _ _ hsp
 have KX : K.In s.heap := e0.mod.kin.keeps fun b o e => (e0.bs b o e).1
 have lim : s.heap.NoLimit := e0.mod.nolimit.keeps fun b o e => (e0.bs b o e).1
 have hkind : ∀ y ∈ ps.zip us, scope.names.lookup y.1 = some .local ∨ (scope.names.lookup y.1 = some .cell /\ ((cellsFrom (s.heap.objs.size + 1) scope.names []).lookup y.1).isSome = true) := fun ⟨n, v⟩ hy => by
  rcases S.par n (List.of_mem_zip hy).1 with q | q
  ·exact .inl q
  ·exact .inr ⟨q, W.cellsFrom_some _ _ _ (.inl q)⟩
 refine codeAny_call_function hr.depth (KX _ _ lk) rfl S.co S.gen rfl (W.codeRec_of KX hcd) (hb _ _ _ _ ?_)
 refine wpAny_newFunctionEnv_cells S.kind hkind fun env he s1 x => ?_
 subst he
 refine ⟨lim.keeps x.toInCall.keep, codeAny_func ?_⟩
 obtain ⟨t, ht, hq⟩ := hbody A outer s H vs Q E (hr.deeper _) hsp
 have I : Inv (cxOf CX P w K mg base N qual scope f cdv A outer s H E) [] (start N vs) H s1 := Jth S hr.hd e0 hl r x
 refine wpAny_mono (ht [] s1 (start N vs) H _ I hq) (fun fl s' hs => ?_) fun e s' hs => hs
 have fin : ∀ {σ' : St} {H' : Hp} {v : V} {u : Value}, Inv (cxOf CX P w K mg base N qual scope f cdv A outer s H E) [] σ' H' s' -> RelV v u -> Q v H' -> CE outer P w H s Q u s' :=
  fun {σ' H' v u} J rv q => ⟨v, H', J.os, J.bare, J.base, J.hok, rv, q⟩
 cases fl with
 | ret u =>
  obtain ⟨v, σ', H', J, rv, q⟩ := hs
  exact fin J rv q
 | next =>
  obtain ⟨σ', H', J, q⟩ := hs
  exact fin (v := V.non) (u := Value.none) J rfl q
 | brk =>
  obtain ⟨_, _, _, q⟩ := hs
  exact False.elim q
 | cont =>
  obtain ⟨_, _, _, q⟩ := hs
  exact False.elim q
end L2
namespace L2
open PySem PySem.Spec PyProof.Rows
section
variable {X : Cx} {x : Str} {p pos : Pos} {e : Expr} {es : List Expr} {t : TA} {id T : String} {r : List V -> Hp -> VK -> Prop}
end
end L2
namespace HT
open PySem PyProof.Rows
section
open PySem.SeqAt
open PySem.AutoSeq1 (wpAny_loadPart')
open PySem.MeetsSeq PySem.MeetsSeq2 PySem.MeetsSeq3
end
section
variable {prog : Program} {w : World} {A : Around} {E : Value -> Shared -> Prop} {s : Shared}
theorem cat_tup {t b : Addr} {vs ws : List Value} {Q : Value -> Shared -> Prop} (ht : IsTup s.heap t vs.toArray) (hb : IsTup s.heap b ws.toArray) (hv : vs ≠ [])
  (h1 : ws = [] -> Q (.ref t) s) (h2 : ws ≠ [] -> Q (.ref s.heap.objs.size) { s with heap := s.heap.push { cls := .type "tuple", data := .seq (vs ++ ws).toArray } })
  (hsz : vs.length + ws.length <= sizeLine) : wpAny (model prog w) A (binaryOp .Add (.ref t) (.ref b)) Q E s := by
 obtain ⟨⟨cls, dd, data, sl⟩, ho, hc, n, hd⟩ := id ht
 obtain ⟨⟨cls2, dd2, data2, sl2⟩, ho2, hc2, n2, hd2⟩ := id hb
 simp only at hc hd hc2 hd2
 subst hc hd hc2 hd2
 have e : vs.toArray ++ ws.toArray = (vs ++ ws).toArray := by simp
 by_cases hw : ws = []
 ·exact concat_meets ⟨_, ho, rfl⟩ ⟨_, ho2, rfl⟩ noFill_tuple_add seq_tuple_add PySem.F.slot_tuple_add PySem.F.entry_tuple_add (PySem.F.args_tuple_add_2 _ _)
   (tuple_addW1 t b vs.toArray ws.toArray n n2 dd dd2 sl sl2 (by simpa using hv) (by simp [hw])) ⟨ho, ho2, h1 hw⟩
 ·refine concat_meets ⟨_, ho, rfl⟩ ⟨_, ho2, rfl⟩ noFill_tuple_add seq_tuple_add PySem.F.slot_tuple_add PySem.F.entry_tuple_add (PySem.F.args_tuple_add_2 _ _)
   (tuple_addW2 t b vs.toArray ws.toArray n n2 dd dd2 sl sl2 (by simpa using hv) (by simpa using hw) (by rw [List.size_toArray, List.size_toArray]; exact hsz)) ⟨ho, ho2, ?_⟩
  rw [e]
  exact h2 hw
noncomputable def sIx (n d : Nat) : Option Int -> Nat
 | none => d
 | some v => if v < 0 then (v + (n : Int)).toNat else min v.toNat n
theorem sIx_none (n d : Nat) : sIx n d none = d := rfl
theorem sIx_nat (n d k : Nat) : sIx n d (some (k : Int)) = min k n := by
 show (if (k : Int) < 0 then ((k : Int) + (n : Int)).toNat else min (k : Int).toNat n) = min k n
 rw [if_neg (by omega), Int.toNat_natCast]
theorem Jzz (n d : Nat) (hd : d <= n) (o : Option Int) : sIx n d o <= n := by
 cases o with
 | none => exact hd
 | some v =>
  show (if v < 0 then (v + (n : Int)).toNat else min v.toNat n) <= n
  by_cases hv : v < 0
  ·rw [if_pos hv]; omega
  ·rw [if_neg hv]; exact Nat.min_le_right _ _
theorem Jt1 (v : Int) (n d : Nat) : (if v < 0 then max (v + (n : Int)) 0 else min v (n : Int)) = ((sIx n d (some v) : Nat) : Int) := by
 show (if v < 0 then max (v + (n : Int)) 0 else min v (n : Int)) = (((if v < 0 then (v + (n : Int)).toNat else min v.toNat n) : Nat) : Int)
 by_cases hv : v < 0
 ·simp only [if_pos hv]; omega
 ·simp only [if_neg hv]; omega
theorem Jrt (lo hi : Option Int) (n : Nat) : Builtin.Slice.sliceAdjust lo hi 1 (n : Int) = (((sIx n 0 lo : Nat) : Int), ((sIx n n hi : Nat) : Int)) := by
 have h1 : ¬ ((1 : Int) < 0) := by omega
 unfold Builtin.Slice.sliceAdjust
 simp only [h1, if_false]
 refine Prod.ext ?_ ?_
 ·cases lo with
  | none => rfl
  | some v => exact Jt1 v n 0
 ·cases hi with
  | none => rfl
  | some v => exact Jt1 v n n
theorem Jsh (i j : Nat) : Builtin.Slice.slicePlaces (i : Int) (j : Int) 1 = j - i := by
 unfold Builtin.Slice.slicePlaces
 have h1 : (1 : Int) > 0 := by omega
 simp only [h1, if_true, Int.ediv_one]
 split <;> omega
theorem Jli {v : Value} {o : Option Int} {Q : Option Int -> Shared -> Prop} (p : IsPart v o) (h : Q o s) : wpAny (model prog w) A (Builtin.Slice.slicePartIndex v) Q E s := by
 cases p with
 | none => exact slicePart_none h
 | int i t => exact slicePart_int h
theorem Jjr {sl : Addr} {vl vu : Value} {lo hi : Option Int} {n : Nat} {Q : Int × Int × Nat -> Shared -> Prop} (hs : s.heap.IsSliceOf sl vl vu .none) (pl : IsPart vl lo) (pu : IsPart vu hi)
  (h : Q (((sIx n 0 lo : Nat) : Int), 1, sIx n n hi - sIx n 0 lo) s) : wpAny (model prog w) A (Builtin.Slice.sliceApplied (.ref sl) (pure (n : Int))) Q E s := by
 obtain ⟨os, hos, hcs, hds⟩ := id hs
 unfold Builtin.Slice.sliceApplied Builtin.Slice.sliceFields
 refine wpAny_bind (wpAny_bind (wpAny_field hos hds (x := vl) rfl (wpAny_bind (wpAny_field hos hds (x := vu) rfl (wpAny_bind (wpAny_field hos hds (x := .none) rfl (wpAny_pure ?_)))))))
 refine wpAny_bind (slicePart_none ?_)
 show wpAny _ _ (if ((1 : Int) == 0) = true then _ else _) _ _ s
 rw [if_neg (by decide)]
 refine wpAny_bind (Jli pl (wpAny_bind (Jli pu (wpAny_bind (wpAny_pure ?_)))))
 show wpAny _ _ (match Builtin.Slice.sliceAdjust lo hi 1 (n : Int) with | (lo, hi) => pure (lo, (1 : Int), Builtin.Slice.slicePlaces lo hi 1)) _ _ s
 rw [Jrt lo hi n]
 show wpAny _ _ (pure (((sIx n 0 lo : Nat) : Int), (1 : Int), Builtin.Slice.slicePlaces ((sIx n 0 lo : Nat) : Int) ((sIx n n hi : Nat) : Int) 1)) _ _ s
 rw [Jsh]
 exact wpAny_pure h
theorem Jwb (xs : Array Value) (i k : Nat) : ((List.range k).filterMap fun (m : Nat) => xs[((i : Int) + (m : Int) * 1).toNat]?).toArray = ((xs.toList.drop i).take k).toArray := by
 have e : (fun (m : Nat) => xs[((i : Int) + (m : Int) * 1).toNat]?) = fun m => xs[i + m]? := by
  funext m
  have : ((i : Int) + (m : Int) * 1).toNat = i + m := by omega
  rw [this]
 rw [e]
 have := pick_run xs i k
 rw [List.filterMap_map] at this
 have e2 : ((fun x => xs[x]?) ∘ fun x => i + x) = fun m => xs[i + m]? := rfl
 rw [e2] at this
 rw [this]
theorem getItem_tuple_cut {t sl : Addr} {items : Array Value} {vl vu : Value} {lo hi : Option Int} {Q : Value -> Shared -> Prop} (ht : IsTup s.heap t items) (hs : s.heap.IsSliceOf sl vl vu .none) (pl : IsPart vl lo) (pu : IsPart vu hi)
  (hw : ¬ (sIx items.size 0 lo = 0 /\ sIx items.size items.size hi = items.size))
  (h : Q (.ref s.heap.objs.size) { s with heap := s.heap.push { cls := .type "tuple", data := .seq ((items.toList.drop (sIx items.size 0 lo)).take (sIx items.size items.size hi - sIx items.size 0 lo)).toArray } })
  (hsz : items.size <= sizeLine) : wpAny (model prog w) A (getItem (.ref t) (.ref sl)) Q E s := by
 have htake : sizeOk (.seq ((items.toList.drop (sIx items.size 0 lo)).take (sIx items.size items.size hi - sIx items.size 0 lo)).toArray) := by
  show ((items.toList.drop (sIx items.size 0 lo)).take (sIx items.size items.size hi - sIx items.size 0 lo)).toArray.size <= sizeLine
  rw [List.size_toArray, List.length_take, List.length_drop, Array.length_toList]
  omega
 have hj : sIx items.size items.size hi <= items.size := Jzz _ _ (Nat.le_refl _) hi
 obtain ⟨os, hos, hcs, hds⟩ := id hs
 have hTs : s.TypeIs (.ref sl) "slice" := ⟨os, hos, hcs⟩
 unfold getItem
 try with_reducible refine wpAny_holding ?_
 first | refine wpAny_bind (wpAny_pure ?_) | skip
 refine wpAny_bind (wpAny_sequenceKey ht.typeIs (by decide) ?_)
 refine wpAny_bind (wpAny_callSpecial?_slot (name := Str.ofString "__getitem__") ht.typeIs PyProof.Rows.slot_tuple_getitem
  (wpAny_call_entry PyProof.Rows.slot_tuple_getitem ht.typeIs entry_tuple_getitem ?_ (args_tuple_getitem _ _)))
 show wpAny _ _ (Builtin.Tuple.tupleItemsOf (.ref t) >>= _) _ _ s
 refine wpAny_bind (tupleItemsOf_ ht ?_)
 refine wpAny_bind (wpAny_typeOf hTs ?_)
 rw [if_pos (by decide)]
 refine wpAny_bind (Jjr hs pl pu ?_)
 have hno : ¬ ((((sIx items.size 0 lo : Nat) : Int) == 0 && (1 : Int) == 1 && (sIx items.size items.size hi - sIx items.size 0 lo) == items.size) = true) := by
  intro q
  rw [Bool.and_eq_true, Bool.and_eq_true] at q
  have q1 : ((sIx items.size 0 lo : Nat) : Int) = 0 := eq_of_beq q.1.1
  have q2 : sIx items.size items.size hi - sIx items.size 0 lo = items.size := eq_of_beq q.2
  exact hw ⟨by omega, by omega⟩
 show wpAny _ _ (if (((sIx items.size 0 lo : Nat) : Int) == 0 && (1 : Int) == 1 && (sIx items.size items.size hi - sIx items.size 0 lo) == items.size) = true then _ else _) _ _ s
 rw [if_neg hno, Jwb]
 first
  | exact wpAny_bind (m := Builtin.Tuple.tupleExact _) (wpAny_newObj_type (wpAny_pure ⟨_, rfl, wpAny_pure h⟩) htake)
  | exact wpAny_bind (m := Builtin.Tuple.tupleExact _) (wpAny_newObj_type (wpAny_bind (wpAny_pure (wpAny_pure ⟨_, rfl, wpAny_pure h⟩))) htake)
  | exact wpAny_bind (wpAny_bind (m := Builtin.Tuple.tupleExact _) (wpAny_newObj_type (wpAny_pure (wpAny_pure ⟨_, rfl, wpAny_pure h⟩)) htake))
  | exact wpAny_bind (wpAny_bind (m := Builtin.Tuple.tupleExact _) (wpAny_newObj_type (wpAny_pure ⟨_, rfl, wpAny_pure h⟩) htake))
end
end HT
namespace L2
open PySem PySem.Spec PyProof.Rows
noncomputable abbrev TO := St -> Hp -> (Option Int -> Hp -> Prop) -> Prop
section
variable {X : Cx} {e : Expr} {te : TE} {lo hi : Option Expr} {tl th : TO} {pos p2 : Pos}
noncomputable def SlR (X : Cx) (r : V -> Option Int -> Option Int -> Hp -> VK -> Prop) : Prop :=
 ∀ (pins : List (Addr × Obj)) (s : Shared) (σ : St) (H : Hp) (x : V) (v vl vu : Value) (lo hi : Option Int) (sl : Addr) (Q : VK), Inv X pins σ H s -> RelV x v -> s.heap.IsSliceOf sl vl vu .none -> IsPart vl lo -> IsPart vu hi -> r x lo hi H Q ->
  ∃ T id, typeLookup (.type T) "__getitem__" = pure (some (.builtin id)) /\ s.TypeIs v T /\ wpAny (model X.prog X.w) X.A (getItem v (.ref sl)) (EP X pins σ Q) X.xe s
theorem SlR.or {r r' : V -> Option Int -> Option Int -> Hp -> VK -> Prop} (h : SlR X r) (h' : SlR X r') : SlR X (fun x lo hi H Q => r x lo hi H Q ∨ r' x lo hi H Q) := by
 intro pins s σ H x v vl vu lo hi sl Q I rx hs pl pu q
 rcases q with q | q
 ·exact h pins s σ H x v vl vu lo hi sl Q I rx hs pl pu q
 ·exact h' pins s σ H x v vl vu lo hi sl Q I rx hs pl pu q
noncomputable def cutV (xs : List V) (lo hi : Option Int) : List V := (xs.drop (HT.sIx xs.length 0 lo)).take (HT.sIx xs.length xs.length hi - HT.sIx xs.length 0 lo)
theorem Jkc (xs : List V) (lo hi : Option Int) : (cutV xs lo hi).length <= xs.length := by
 unfold cutV
 rw [List.length_take, List.length_drop]
 omega
noncomputable def rSlT (K : W.Frag) : V -> Option Int -> Option Int -> Hp -> VK -> Prop := fun x lo hi H Q => ∃ a xs, x = .ref a /\ SqT K H a xs /\
 ¬ (HT.sIx xs.length 0 lo = 0 /\ HT.sIx xs.length xs.length hi = xs.length) /\ ∀ p, H p = none -> Q (.ref p) (upd H p (.tup (cutV xs lo hi)))
theorem J04 : SlR X (rSlT X.K) := by
 intro pins s σ H x v vl vu lo hi sl Q I rx hs pl pu h
 obtain ⟨a, xs, rfl, hx, hw, q⟩ := h
 cases rx
 obtain ⟨its, r, ht, hz⟩ := I.tuple hx
 have hlen : its.toArray.size = xs.length := by rw [List.size_toArray]; exact r.length.symm
 refine ⟨"tuple", _, PyProof.Rows.slot_tuple_getitem.lookup, ht.typeIs, ?_⟩
 refine HT.getItem_tuple_cut ht hs pl pu (by rw [hlen]; exact hw) ?_ (by rw [hlen]; exact hz)
 rw [hlen]
 refine ⟨.ref s.heap.objs.size, _, I.laid (t' := s.toks) (o := .tup (cutV xs lo hi)) (fun b ob q => Heap.get?_push_of_some _ q) (Nat.le_refl _) ?_, rfl, q _ (I.hok.fresh (Nat.le_refl _))⟩
 exact ⟨Nat.le_trans (Jkc xs lo hi) hz, _, (r.drop (HT.sIx xs.length 0 lo)).take (HT.sIx xs.length xs.length hi - HT.sIx xs.length 0 lo), IsTup.new _ _⟩
noncomputable def rCatT (K : W.Frag) : R2 := fun x y H Q => ∃ a b xs ys, x = .ref a /\ y = .ref b /\ SqT K H a xs /\ SqT K H b ys /\ xs ≠ [] /\ xs.length + ys.length <= sizeLine /\
 (ys = [] -> Q (.ref a) H) /\ (ys ≠ [] -> ∀ p, H p = none -> Q (.ref p) (upd H p (.tup (xs ++ ys))))
theorem Vals.nil_iff {xs : List V} {us : List Value} (r : Vals xs us) : us = [] ↔ xs = [] := by
 cases r with
 | nil => simp
 | cons _ _ => simp
theorem Jyc : OpR X (binaryOp .Add) (rCatT X.K) := by
 intro pins s σ H x y v u Q I rx ry h
 obtain ⟨a, b, xs, ys, rfl, rfl, ha, hb, hx, hz, q1, q2⟩ := h
 cases rx
 cases ry
 obtain ⟨its, r1, p1, _⟩ := I.tuple ha
 obtain ⟨its2, r2, p2, _⟩ := I.tuple hb
 refine HT.cat_tup p1 p2 (fun z => hx (r1.nil_iff.mp z)) (fun z => ⟨.ref a, H, I, rfl, q1 (r2.nil_iff.mp z)⟩) (fun z => ?_) (by rw [<- r1.length, <- r2.length]; exact hz)
 refine ⟨.ref s.heap.objs.size, _, I.laid (t' := s.toks) (o := .tup (xs ++ ys)) (fun b ob q => Heap.get?_push_of_some _ q) (Nat.le_refl _) ?_, rfl, q2 (fun w => z (r2.nil_iff.mpr w)) _ (I.hok.fresh (Nat.le_refl _))⟩
 exact ⟨by rw [List.length_append]; exact hz, _, r1.append r2, IsTup.new _ _⟩
end
end L2
namespace L2
open PySem PySem.Spec PyProof.Rows
noncomputable def ixN (n : Nat) (i : Int) : Option Nat := if 0 <= i then (if i < n then some i.toNat else none) else if -(n : Int) <= i then some (i + n).toNat else none
noncomputable def atI {α : Type} (xs : List α) (i : Int) : Option α := (ixN xs.length i).bind fun j => xs[j]?
theorem Jyb {n : Nat} {i : Int} {j : Nat} (h : ixN n i = some j) : seqIndex? i n = some j /\ j < n /\ -(n : Int) <= i /\ i < n := by
 unfold ixN at h
 by_cases h0 : 0 <= i
 ·rw [if_pos h0] at h
  by_cases h1 : i < n
  ·rw [if_pos h1] at h
   have e : i.toNat = j := Option.some.inj h
   exact ⟨by rw [seqIndex_of h0 h1, e], by omega, by omega, h1⟩
  ·rw [if_neg h1] at h; cases h
 ·rw [if_neg h0] at h
  by_cases h1 : -(n : Int) <= i
  ·rw [if_pos h1] at h
   have e : (i + n).toNat = j := Option.some.inj h
   exact ⟨by rw [seqIndex_neg (by omega) h1, e], by omega, h1, by omega⟩
  ·rw [if_neg h1] at h; cases h
theorem Jqe {α : Type} {xs : List α} {i : Int} {v : α} (h : atI xs i = some v) : ∃ j, seqIndex? i xs.length = some j /\ xs[j]? = some v /\ j < xs.length /\ -(xs.length : Int) <= i /\ i < xs.length := by
 unfold atI at h
 cases e : ixN xs.length i with
 | none => rw [e] at h; cases h
 | some j =>
  rw [e] at h
  obtain ⟨h1, h2, h3, h4⟩ := Jyb e
  exact ⟨j, h1, h, h2, h3, h4⟩
noncomputable def Juw (b : Expr) : Prop := ∀ o i, subscripted b false o i = operate [o, i] (getItem o i)
noncomputable def IxR (X : Cx) (r : R2) : Prop :=
 ∀ (value slice : Expr) (pins : List (Addr × Obj)) (s : Shared) (σ : St) (H : Hp) (x y : V) (v u : Value) (Q : VK), Inv X pins σ H s -> RelV x v -> RelV y u -> r x y H Q ->
  subscripted slice false v u = operate [v, u] (getItem v u) -> wpAny (model X.prog X.w) X.A (subscriptTail value slice v u) (EP X pins σ Q) X.xe s
noncomputable def MtR (X : Cx) (id : String) (r : V -> List V -> Hp -> VK -> Prop) : Prop :=
 ∀ (pins : List (Addr × Obj)) (s : Shared) (σ : St) (H : Hp) (x : V) (xs : List V) (v : Value) (us : List Value) (Q : VK), Inv X pins σ H s -> RelV x v -> Vals xs us -> r x xs H Q ->
  wpAny (model X.prog X.w) X.A (call (.builtin id) (v :: us)) (EP X pins σ Q) X.xe s
section
variable {X : Cx} {a b : Expr} {ta tb : TE} {pos : Pos}
theorem IxR.or {r r' : R2} (h : IxR X r) (h' : IxR X r') : IxR X (fun x y H Q => r x y H Q ∨ r' x y H Q) := by
 intro value slice pins s σ H x y v u Q I rx ry q hs
 rcases q with q | q
 ·exact h value slice pins s σ H x y v u Q I rx ry q hs
 ·exact h' value slice pins s σ H x y v u Q I rx ry q hs
theorem MtR.or {id : String} {r r' : V -> List V -> Hp -> VK -> Prop} (h : MtR X id r) (h' : MtR X id r') : MtR X id (fun x xs H Q => r x xs H Q ∨ r' x xs H Q) := by
 intro pins s σ H x xs v us Q I rx rs q
 rcases q with q | q
 ·exact h pins s σ H x xs v us Q I rx rs q
 ·exact h' pins s σ H x xs v us Q I rx rs q
noncomputable def rIxL (K : W.Frag) : R2 := fun x y H Q => ∃ p xs i v, x = .ref p /\ y = .int i /\ SqL K H p xs /\ atI xs i = some v /\ Q v H
noncomputable def rIxT (K : W.Frag) : R2 := fun x y H Q => ∃ p xs i v, x = .ref p /\ y = .int i /\ SqT K H p xs /\ atI xs i = some v /\ Q v H
noncomputable def rIxS : R2 := fun x y H Q => ∃ z i c, x = .str z /\ y = .int i /\ z.length <= sizeLine /\ atI z.cps.toList i = some c /\ Q (.str ⟨#[c]⟩) H
theorem Jta : IxR X (rIxL X.K) := by
 intro value slice pins s σ H x y v u Q I rx ry h hs
 obtain ⟨p, xs, i, z, rfl, rfl, hq, he, q⟩ := h
 cases rx
 obtain ⟨t, rfl⟩ := ry
 obtain ⟨its, r, pl, hz⟩ := I.list hq
 obtain ⟨j, h1, h2, h3, h4, h5⟩ := Jqe he
 obtain ⟨w, ew, rw'⟩ := r.get h2
 have hl := r.length
 have hn := Jo0
 have fin : EP X pins σ Q w s := ⟨z, H, I, rw', q⟩
 by_cases h0 : 0 <= i
 ·have hj : i.toNat = j := by
   rw [seqIndex_of h0 h5] at h1
   exact Option.some.inj h1
  exact item_listR pl.isList h0 (by omega) (by rw [hj]; simpa using ew) fin hs
 ·have hj : (i + (its.toArray.size : Int)).toNat = j := by
   rw [seqIndex_neg (by omega) h4] at h1
   rw [List.size_toArray, <- hl]
   exact Option.some.inj h1
  exact subscriptTail_builtinR (x := w) pl.isList.typeIs slot_list_getitem.lookup
   (wpAny_getItem_list_neg (Q := fun r s' => r = w /\ EP X pins σ Q r s') pl.isList (by omega) (by rw [List.size_toArray] <;> omega) (by omega) (by rw [hj]; simpa using ew) ⟨rfl, fin⟩) hs
theorem J0q : IxR X (rIxT X.K) := by
 intro value slice pins s σ H x y v u Q I rx ry h hs
 obtain ⟨p, xs, i, z, rfl, rfl, hq, he, q⟩ := h
 cases rx
 obtain ⟨t, rfl⟩ := ry
 obtain ⟨its, r, pl, hz⟩ := I.tuple hq
 obtain ⟨j, h1, h2, h3, h4, h5⟩ := Jqe he
 obtain ⟨w, ew, rw'⟩ := r.get h2
 have hl := r.length
 have hn := Jo0
 have fin : EP X pins σ Q w s := ⟨z, H, I, rw', q⟩
 exact subscriptTail_builtinR (x := w) pl.typeIs slot_tuple_getitem.lookup
  (getItem_tuple (j := j) (Q := fun r s' => r = w /\ EP X pins σ Q r s') pl (by omega) (by omega) (by rw [List.size_toArray, <- hl]; exact h1) (by simpa using ew) ⟨rfl, fin⟩) hs
theorem Jzy : IxR X rIxS := by
 intro value slice pins s σ H x y v u Q I rx ry h hs
 obtain ⟨z, i, c, rfl, rfl, hz, he, q⟩ := h
 obtain ⟨t, rfl⟩ := rx
 obtain ⟨t', rfl⟩ := ry
 obtain ⟨j, h1, h2, h3, h4, h5⟩ := Jqe he
 have hl : z.cps.toList.length = z.length := by simp [Str.length]
 rw [hl] at h1 h4 h5
 have hn := Jo0
 exact tail_any (typeIs_str s z t) slot_str_getitem.lookup (getItem_str (c := c) (by
  have e1 : decide (i < -(2 ^ 63 : Int)) = false := decide_eq_false (by omega)
  have e2 : decide (i ≥ 2 ^ 63) = false := decide_eq_false (by omega)
  rw [e1, e2, Bool.or_false]) (by rw [h1]; simpa using h2) ⟨.str ⟨#[c]⟩, H, I.tok _, ⟨_, rfl⟩, q⟩) hs
theorem Inv.lst {pins : List (Addr × Obj)} {σ : St} {H : Hp} {s : Shared} {p : Addr} {xs : List V} (I : Inv X pins σ H s) (h : H p = some (.lst xs)) :
  ∃ (its : List Value) (n : Nat), Vals xs its /\ s.heap.get? p = some { cls := .type "list", data := .seq its.toArray n } /\ xs.length <= sizeLine := by
 obtain ⟨z, its, n, r, e⟩ := I.hok p _ h
 exact ⟨its, n, r, e, z⟩
theorem Jn6 (lo hi : Option Int) (n : Nat) : (sliceBounds lo hi none n).1 = ((HT.sIx n 0 lo : Nat) : Int) /\ (sliceBounds lo hi none n).2.1 = ((HT.sIx n n hi : Nat) : Int) /\ (sliceBounds lo hi none n).2.2 = 1 := by
 refine ⟨?_, ?_, rfl⟩
 ·cases lo with
  | none => simp [sliceBounds, HT.sIx]
  | some i =>
   simp only [sliceBounds, HT.sIx, Option.getD_none, show (1 : Int) > 0 by decide, if_true]
   by_cases h : i < 0
   ·simp only [h, if_true] <;> omega
   ·simp only [h, if_false] <;> omega
 ·cases hi with
  | none => simp [sliceBounds, HT.sIx]
  | some i =>
   simp only [sliceBounds, HT.sIx, Option.getD_none, show (1 : Int) > 0 by decide, if_true]
   by_cases h : i < 0
   ·simp only [h, if_true] <;> omega
   ·simp only [h, if_false] <;> omega
theorem Jl4 (its : List Value) (lo hi : Option Int) : slicePick its.toArray lo hi none = ((its.drop (HT.sIx its.length 0 lo)).take (HT.sIx its.length its.length hi - HT.sIx its.length 0 lo)).toArray := by
 obtain ⟨h1, h2, h3⟩ := Jn6 lo hi its.toArray.size
 unfold slicePick
 rw [h1, h2, h3]
 simp only [sliceRange_one, pick_run, List.size_toArray] <;> rfl
noncomputable def rSlL (K : W.Frag) : V -> Option Int -> Option Int -> Hp -> VK -> Prop := fun x lo hi H Q => ∃ a xs, x = .ref a /\ SqL K H a xs /\ ∀ p, H p = none -> Q (.ref p) (upd H p (.lst (cutV xs lo hi)))
theorem Juz : SlR X (rSlL X.K) := by
 intro pins s σ H x v vl vu lo hi sl Q I rx hs pl pu h
 obtain ⟨a, xs, rfl, hx, q⟩ := h
 cases rx
 obtain ⟨its, r, ht, hz⟩ := I.list hx
 have hlen := r.length
 refine ⟨"list", _, slot_list_getitem.lookup, ht.isList.typeIs, ?_⟩
 refine wpAny_getItem_list_slice ht.isList hs pl pu .none (by simp) ?_ (by rw [List.size_toArray] <;> omega)
 rw [Jl4, <- hlen]
 refine ⟨.ref s.heap.objs.size, _, I.laid (t' := s.toks) (o := .lst (cutV xs lo hi)) (fun b ob q => Heap.get?_push_of_some _ q) (Nat.le_refl _) ?_, rfl, q _ (I.hok.fresh (Nat.le_refl _))⟩
 exact ⟨Nat.le_trans (Jkc xs lo hi) hz, _, 0, (r.drop (HT.sIx xs.length 0 lo)).take (HT.sIx xs.length xs.length hi - HT.sIx xs.length 0 lo), Heap.get?_push_size _ rfl⟩
theorem Jki.or {f : Value} {r r' : List V -> Hp -> VK -> Prop} (h : Jki X f r) (h' : Jki X f r') : Jki X f (fun xs H Q => r xs H Q ∨ r' xs H Q) := by
 intro pins s σ H xs us Q I rs q
 rcases q with q | q
 ·exact h pins s σ H xs us Q I rs q
 ·exact h' pins s σ H xs us Q I rs q
theorem Jft : Jki X (.type "list") (fun xs H Q => ∃ p ys, xs = [.ref p] /\ (SqL X.K H p ys ∨ SqT X.K H p ys) /\ ∀ l, H l = none -> Q (.ref l) (upd H l (.lst ys))) := by
 intro pins s σ H xs us Q I r h
 obtain ⟨p, ys, rfl, hq, q⟩ := h
 obtain ⟨u, rfl, rx⟩ := Jkk r
 cases rx
 have fin : ∀ (its : List Value), Vals ys its -> ys.length <= sizeLine -> ∀ (h' : Heap) (c' : Nat), (∀ b o', s.heap.get? b = some o' -> h'.get? b = some o') ->
   h'.get? s.heap.objs.size = some { cls := .type "list", dict := none, data := .seq its.toArray c', slots := #[] } -> EP X pins σ Q (.ref s.heap.objs.size) { s with heap := h' } := fun its r' hz h' c' kp e =>
  ⟨.ref s.heap.objs.size, _, I.laid (t' := s.toks) kp (Nat.le_refl _) (show Jea X.prog X.w _ h' _ (.lst ys) from ⟨hz, its, c', r', e⟩), rfl, q _ (I.hok.fresh (Nat.le_refl _))⟩
 rcases hq with hq | hq
 ·obtain ⟨its, r', pl, hz⟩ := I.list hq
  have hlen := r'.length
  obtain ⟨o, ho, hc, n, hd⟩ := pl.isList
  exact call_list_seq p (.inl rfl) ho hc hd (fun h' c' kp e => fin its r' hz h' c' kp e) (by simp only [List.size_toArray] <;> omega)
 ·obtain ⟨its, r', pl, hz⟩ := I.tuple hq
  have hlen := r'.length
  obtain ⟨o, ho, hc, n, hd⟩ := pl
  exact call_list_seq p (.inr rfl) ho hc hd (fun h' c' kp e => fin its r' hz h' c' kp e) (by simp only [List.size_toArray] <;> omega)
theorem Ji1 : Jki X (.type "tuple") (fun xs H Q => ∃ p ys, xs = [.ref p] /\ ((SqL X.K H p ys /\ ∀ l, H l = none -> Q (.ref l) (upd H l (.tup ys))) ∨ (SqT X.K H p ys /\ Q (.ref p) H))) := by
 intro pins s σ H xs us Q I r h
 obtain ⟨p, ys, rfl, h⟩ := h
 obtain ⟨u, rfl, rx⟩ := Jkk r
 cases rx
 rcases h with ⟨hq, q⟩ | ⟨hq, q⟩
 ·obtain ⟨its, r', pl, hz⟩ := I.list hq
  have hlen := r'.length
  refine call_tuple_list pl.isList (fun h' kp => ?_) (by simp only [List.size_toArray] <;> omega)
  have I1 : Inv X pins σ H { s with heap := h' } := I.kept (t' := s.toks) kp
  have I2 : Inv X pins σ (upd H h'.objs.size (.tup ys)) { s with heap := h'.push { cls := .type "tuple", data := .seq its.toArray } } :=
   I1.laid (t' := s.toks) (fun b o e => Heap.get?_push_of_some _ e) (Nat.le_refl _) (show Jea X.prog X.w _ _ _ (.tup ys) from ⟨hz, its, r', IsTup.new _ _⟩)
  exact ⟨.ref h'.objs.size, _, I2, rfl, q _ (I1.hok.fresh (Nat.le_refl _))⟩
 ·obtain ⟨its, r', pl, hz⟩ := I.tuple hq
  exact call_tuple_same pl ⟨.ref p, H, I, rfl, q⟩
noncomputable def tyV (K : W.Frag) (T : String) (x : V) (H : Hp) : Prop := match x with
 | .str _ => T = "str"
 | .int _ => T = "int"
 | .ref p => (T = "list" /\ ∃ xs, SqL K H p xs) ∨ (T = "tuple" /\ ∃ o, K.lookup p = some o /\ o.cls = .type "tuple" /\ o.dict = none) ∨
   (T = "dict" /\ ((∃ kvs, H p = some (.dK kvs)) ∨ ∃ kvs, H p = some (.dT kvs))) ∨ (T = "set" /\ ∃ S n, H p = some (.set S n))
 | _ => False
theorem Jxm {pins : List (Addr × Obj)} {σ : St} {H : Hp} {s : Shared} {T : String} {x : V} {v : Value} (I : Inv X pins σ H s) (r : RelV x v) (ty : tyV X.K T x H) :
  s.TypeIs v T /\ ∀ a, v = .ref a -> ∃ ob, s.heap.get? a = some ob /\ ob.dict = none := by
 cases x with
 | str z =>
  obtain ⟨t, rfl⟩ := r
  cases (show T = "str" from ty)
  exact ⟨typeIs_str s z t, fun _ e => nomatch e⟩
 | int i =>
  obtain ⟨t, rfl⟩ := r
  cases (show T = "int" from ty)
  exact ⟨typeIs_int s i t, fun _ e => nomatch e⟩
 | ref p =>
  cases r
  rcases ty with ⟨rfl, xs, hq⟩ | ⟨rfl, o, hk, hc, hd⟩ | ⟨rfl, hk⟩ | ⟨rfl, S, n, hk⟩
  ·obtain ⟨its, _, pl, _⟩ := I.list hq
   refine ⟨pl.isList.typeIs, fun a e => ?_⟩
   cases e
   obtain ⟨o, n, e, c, hd, _⟩ := pl
   exact ⟨o, e, hd⟩
  ·refine ⟨⟨o, I.kIn p o hk, hc⟩, fun a e => ?_⟩
   cases e
   exact ⟨o, I.kIn _ o hk, hd⟩
  ·have z : ∃ o, s.heap.get? p = some o /\ o.ExactDict := by
    rcases hk with ⟨kvs, hk⟩ | ⟨kvs, hk⟩
    ·obtain ⟨_, _, _, _, o, _, _, e, ex, _⟩ := I.hok p _ hk
     exact ⟨o, e, ex⟩
    ·obtain ⟨_, _, _, _, o, _, _, e, ex, _⟩ := I.hok p _ hk
     exact ⟨o, e, ex⟩
   obtain ⟨o, e, ex⟩ := z
   refine ⟨⟨o, e, ex.1⟩, fun a e2 => ?_⟩
   cases e2
   exact ⟨o, e, ex.2.1⟩
  ·obtain ⟨o, _, _, _, e, ex, _⟩ := I.hok p _ hk
   refine ⟨⟨o, e, ex.1⟩, fun a e2 => ?_⟩
   cases e2
   exact ⟨o, e, ex.2.1⟩
 | _ => exact False.elim ty
variable {o e : Expr} {es : List Expr} {to : TE} {t : TA} {name : Str} {apos cpos : Pos} {T id : String} {r : V -> List V -> Hp -> VK -> Prop}
end
end L2
namespace L2
open PySem PySem.Spec PyProof.Rows
noncomputable def MtM (X : Cx) (id : String) (r : V -> List V -> Hp -> VK -> Prop) : Prop :=
 ∀ (pins : List (Addr × Obj)) (s : Shared) (σ : St) (H : Hp) (x : V) (xs : List V) (v : Value) (us : List Value) (Q : VK), Inv X pins σ H s -> RelV x v -> Vals xs us -> r x xs H Q ->
  wpAny (model X.prog X.w) X.A (call (.builtin id) (v :: us)) (EP X pins σ Q) X.xe s
theorem Vals.one : ∀ {x : V} {us : List Value}, Vals [x] us -> ∃ u, us = [u] /\ RelV x u
 | _, _, .cons r .nil => ⟨_, rfl, r⟩
theorem Vals.two : ∀ {x y : V} {us : List Value}, Vals [x, y] us -> ∃ u v, us = [u, v] /\ RelV x u /\ RelV y v
 | _, _, _, .cons r (.cons q .nil) => ⟨_, _, rfl, r, q⟩
theorem Vals.zero : ∀ {us : List Value}, Vals [] us -> us = []
 | _, .nil => rfl
theorem Vals.dropLast {xs : List V} {us : List Value} (h : Vals xs us) : Vals xs.dropLast us.dropLast := by
 induction h with
 | nil => exact .nil
 | cons r t ih =>
  cases t with
  | nil => exact .nil
  | cons q t' => exact .cons r ih
theorem Vals.eraseIdx : ∀ {xs : List V} {us : List Value} (i : Nat), Vals xs us -> Vals (xs.eraseIdx i) (us.eraseIdx i)
 | _, _, _, .nil => .nil
 | _, _, 0, .cons _ t => t
 | _, _, i + 1, .cons r t => .cons r (Vals.eraseIdx i t)
theorem Vals.reverse {xs : List V} {us : List Value} (h : Vals xs us) : Vals xs.reverse us.reverse := by
 induction h with
 | nil => exact .nil
 | cons r t ih => rw [List.reverse_cons, List.reverse_cons]; exact Vals.append ih (.cons r .nil)
theorem Vals.rep {xs : List V} {us : List Value} (h : Vals xs us) : ∀ k : Nat, Vals (List.replicate k xs).flatten (List.replicate k us).flatten
 | 0 => .nil
 | k + 1 => by
  rw [List.replicate_succ, List.replicate_succ, List.flatten_cons, List.flatten_cons]
  exact Vals.append h (Vals.rep h k)
theorem Jr5 {α : Type} (l : List α) : l.eraseIdx (l.length - 1) = l.dropLast := by
 induction l with
 | nil => rfl
 | cons a r ih =>
  cases r with
  | nil => rfl
  | cons b r =>
   have e : (a :: b :: r).length - 1 = ((b :: r).length - 1) + 1 := by
    have h1 : (a :: b :: r).length = r.length + 2 := rfl
    have h2 : (b :: r).length = r.length + 1 := rfl
    omega
   rw [e, List.eraseIdx_cons_succ, ih]
   all_goals rfl
theorem Jm5 (its : List Value) : ∀ (k : Nat) (acc : List Value),
  List.foldl (fun x1 x2 => x1 ++ x2) acc.toArray (List.replicate k its.toArray) = (acc ++ (List.replicate k its).flatten).toArray
 | 0, acc => by simp
 | k + 1, acc => by
  have e : acc.toArray ++ its.toArray = (acc ++ its).toArray := by simp
  have e2 : (acc ++ its) ++ (List.replicate k its).flatten = acc ++ (List.replicate (k + 1) its).flatten := by
   rw [List.replicate_succ, List.flatten_cons, List.append_assoc]
  rw [<- e2, <- Jm5 its k (acc ++ its), <- e, List.replicate_succ, List.foldl_cons]
section
variable {X : Cx} {pins : List (Addr × Obj)} {σ : St} {H : Hp} {s : Shared} {l b : Addr} {xs ys zs : List V}
theorem Inv.lset {its its' : List Value} {n : Nat} {f : Array Value -> Array Value} {t' : Nat} (I : Inv X pins σ H s) (hH : H l = some (.lst xs))
  (e : s.heap.get? l = some { cls := .type "list", data := .seq its.toArray n }) (hf : f its.toArray = its'.toArray) (hv : Vals ys its') (hz : ys.length <= sizeLine) :
  Inv X pins σ (upd H l (.lst ys)) { s with heap := s.heap.update l (Obj.mapSeq f), toks := t' } := by
 have q := PySem.IsL.update e f
 rw [hf] at q
 refine I.write (x := l) (e := l) (by rw [hH]; exact trivial) (.inl rfl) (fun b' u hb hu => (Heap.get?_update_other s.heap (Obj.mapSeq f) (Ne.symm hb)).trans hu) ⟨_, q⟩ ?_
 exact ⟨hz, its', _, hv, q⟩
theorem Inv.lnew {its : List Value} {t' : Nat} (I : Inv X pins σ H s) (hv : Vals ys its) (hz : ys.length <= sizeLine) :
  Inv X pins σ (upd H s.heap.objs.size (.lst ys)) { s with heap := s.heap.push { cls := .type "list", data := .seq its.toArray }, toks := t' } :=
 I.laid (fun _ _ q => Heap.get?_push_of_some _ q) (Nat.le_refl _) ⟨hz, its, 0, hv, Heap.get?_push_size _ rfl⟩
theorem Inv.fresh (I : Inv X pins σ H s) : H s.heap.objs.size = none := I.hok.fresh (Nat.le_refl _)
theorem Inv.lstM (I : Inv X pins σ H s) (hH : H l = some (.lst xs)) : xs.length <= sizeLine /\ ∃ (its : List Value) (n : Nat), Vals xs its /\ xs.length = its.length /\ s.heap.get? l = some { cls := .type "list", data := .seq its.toArray n } := by
 obtain ⟨z, its, n, r, e⟩ := I.hok l _ hH
 exact ⟨z, its, n, r, r.length, e⟩
theorem Jqt {n : Nat} (h : n <= sizeLine) : Builtin.List.listTooLong n = false := by
 unfold Builtin.List.listTooLong
 exact decide_eq_false (by omega)
end
section
variable {X : Cx}
noncomputable def Jzb : V -> List V -> Hp -> VK -> Prop := fun x vs H Q => ∃ l xs y, x = .ref l /\ vs = [y] /\ H l = some (.lst xs) /\ xs.length < sizeLine /\ Q .non (upd H l (.lst (xs ++ [y])))
theorem Jnc : MtM X "list.append" Jzb := by
 intro pins s σ H x vs v us Q I rx rv h
 obtain ⟨l, xs, y, rfl, rfl, hH, hz, q⟩ := h
 cases rx
 obtain ⟨u, rfl, ru⟩ := rv.one
 obtain ⟨z, its, n, r, hl, e⟩ := I.lstM hH
 refine call_meets F.slot_list_append ⟨_, e, rfl⟩ F.entry_list_append (F.args_list_append_2 _ _) (PySem.list_append l its.toArray n u (by rw [List.size_toArray]; omega)) ⟨e, ?_⟩
 refine ⟨.non, _, I.lset (its' := its ++ [u]) hH e (by simp) (r.append (.cons ru .nil)) ?_, rfl, q⟩
 rw [List.length_append, List.length_singleton]
 omega
noncomputable def Jzg : V -> List V -> Hp -> VK -> Prop := fun x vs H Q => ∃ l b xs zs, x = .ref l /\ vs = [.ref b] /\ H l = some (.lst xs) /\ H b = some (.lst zs) /\ xs.length + zs.length <= sizeLine /\ Q .non (upd H l (.lst (xs ++ zs)))
theorem J1h : MtM X "list.extend" Jzg := by
 intro pins s σ H x vs v us Q I rx rv h
 obtain ⟨l, b, xs, zs, rfl, rfl, hH, hB, hz, q⟩ := h
 cases rx
 obtain ⟨u, rfl, ru⟩ := rv.one
 cases ru
 obtain ⟨z, its, n, r, hl, e⟩ := I.lstM hH
 obtain ⟨z2, its2, n2, r2, hl2, e2⟩ := I.lstM hB
 have hsz : its.toArray.size + its2.toArray.size <= sizeLine := by rw [List.size_toArray, List.size_toArray]; omega
 have hlong : ¬ (!its.toArray.isEmpty && Builtin.List.listTooLong (its.toArray.size + its2.toArray.size)) = true := by
  rw [Jqt hsz, Bool.and_false]
  exact Bool.false_ne_true
 refine call_meets F.slot_list_extend ⟨_, e, rfl⟩ F.entry_list_extend (F.args_list_extend_2 _ _)
  (AutoSeq1.list_extend_list_list_0 l its.toArray n b its2.toArray n2 hlong (by rw [List.size_toArray]; omega) (by omega)) ⟨e, e2, ?_⟩
 refine ⟨.non, _, I.lset (its' := its ++ its2) hH e (by simp) (r.append r2) ?_, rfl, q⟩
 rw [List.length_append]
 omega
noncomputable def rPop : V -> List V -> Hp -> VK -> Prop := fun x vs H Q => ∃ l xs y, x = .ref l /\ vs = [] /\ H l = some (.lst xs) /\ xs[xs.length - 1]? = some y /\ Q y (upd H l (.lst xs.dropLast))
theorem mt_pop : MtM X "list.pop" rPop := by
 intro pins s σ H x vs v us Q I rx rv h
 obtain ⟨l, xs, y, rfl, rfl, hH, hy, q⟩ := h
 cases rx
 have hus := rv.zero
 subst hus
 obtain ⟨z, its, n, r, hl, e⟩ := I.lstM hH
 obtain ⟨u, hu, ru⟩ := r.get hy
 have hy' : its.toArray[its.toArray.size - 1]? = some u := by
  show its.toArray[its.length - 1]? = some u
  rw [<- Array.getElem?_toList, <- hl]
  exact hu
 refine call_meets F.slot_list_pop ⟨_, e, rfl⟩ F.entry_list_pop (F.args_list_pop_1 _) (MeetsSeq.list_pop_last l its.toArray n u hy' (by rw [List.size_toArray]; omega)) ⟨e, ?_⟩
 refine ⟨y, _, I.lset (its' := its.dropLast) hH e ?_ r.dropLast ?_, ru, q⟩
 ·show its.toArray.eraseIdxIfInBounds (its.toArray.size - 1) = its.dropLast.toArray
  rw [List.size_toArray, List.eraseIdxIfInBounds_toArray, Jr5]
 ·rw [List.length_dropLast]
  omega
noncomputable def Jvx : V -> List V -> Hp -> VK -> Prop := fun x vs H Q => ∃ l xs, x = .ref l /\ vs = [] /\ H l = some (.lst xs) /\ Q .non (upd H l (.lst xs.reverse))
theorem Jru : MtM X "list.reverse" Jvx := by
 intro pins s σ H x vs v us Q I rx rv h
 obtain ⟨l, xs, rfl, rfl, hH, q⟩ := h
 cases rx
 have hus := rv.zero
 subst hus
 obtain ⟨z, its, n, r, hl, e⟩ := I.lstM hH
 refine call_meets F.slot_list_reverse ⟨_, e, rfl⟩ F.entry_list_reverse (F.args_list_reverse_1 _) (AutoSeq1.list_reverse_list_0 l its.toArray n (by rw [List.size_toArray]; omega)) ⟨e, ?_⟩
 refine ⟨.non, _, I.lset (its' := its.reverse) hH e (by simp) r.reverse ?_, rfl, q⟩
 rw [List.length_reverse]
 omega
noncomputable def rCat : R2 := fun x y H Q => ∃ l b xs zs, x = .ref l /\ y = .ref b /\ H l = some (.lst xs) /\ H b = some (.lst zs) /\ xs.length + zs.length <= sizeLine /\ ∀ p, H p = none -> Q (.ref p) (upd H p (.lst (xs ++ zs)))
theorem J00 : OpR X (binaryOp .Add) rCat := by
 intro pins s σ H x y v u Q I rx ry h
 obtain ⟨l, b, xs, zs, rfl, rfl, hH, hB, hz, q⟩ := h
 cases rx
 cases ry
 obtain ⟨z, its, n, r, hl, e⟩ := I.lstM hH
 obtain ⟨z2, its2, n2, r2, hl2, e2⟩ := I.lstM hB
 refine PySem.P.add_list e e2 ?_ (by rw [List.size_toArray, List.size_toArray]; omega)
 have ea : its.toArray ++ its2.toArray = (its ++ its2).toArray := by simp
 rw [ea]
 exact ⟨.ref _, _, I.lnew (t' := s.toks) (r.append r2) (by rw [List.length_append]; omega), rfl, q _ I.fresh⟩
noncomputable def rRep : R2 := fun x y H Q => ∃ l k xs, x = .ref l /\ y = .int k /\ H l = some (.lst xs) /\ -(2 ^ 63) <= k /\ k < 2 ^ 63 /\ xs.length * k.toNat <= sizeLine /\
 ∀ p, H p = none -> Q (.ref p) (upd H p (.lst (List.replicate k.toNat xs).flatten))
theorem Jyq {α : Type} (xs : List α) (k : Nat) : (List.replicate k xs).flatten.length = k * xs.length := by
 induction k with
 | zero => simp
 | succ k ih => rw [List.replicate_succ, List.flatten_cons, List.length_append, ih, Nat.succ_mul, Nat.add_comm]
theorem J0k : OpR X (binaryOp .Mult) rRep := by
 intro pins s σ H x y v u Q I rx ry h
 obtain ⟨l, k, xs, rfl, rfl, hH, h1, h2, hz, q⟩ := h
 cases rx
 obtain ⟨t, rfl⟩ := ry
 obtain ⟨z, its, n, r, hl, e⟩ := I.lstM hH
 have hlen : its.toArray.size * k.toNat <= sizeLine := by rw [List.size_toArray, <- hl]; exact hz
 have hcap : ¬ its.toArray.size * k.toNat > (2 ^ 63 - 1) / 8 := by
  have : (sizeLine : Nat) <= (2 ^ 63 - 1) / 8 := by decide
  omega
 have hfit : ¬ (!Builtin.List.listFitsIndex k) = true := by
  rw [fitsIndex_both h1 h2]
  exact Bool.false_ne_true
 have hlong : ¬ Builtin.List.listTooLong (its.toArray.size * k.toNat) = true := by
  rw [Jqt hlen]
  exact Bool.false_ne_true
 have hnew : List.foldl (fun x1 x2 => x1 ++ x2) #[] (List.replicate (if its.toArray.isEmpty = true then 0 else k.toNat) its.toArray) = (List.replicate k.toNat its).flatten.toArray := by
  have f0 : ∀ m : Nat, List.foldl (fun x1 x2 => x1 ++ x2) #[] (List.replicate m its.toArray) = (List.replicate m its).flatten.toArray := fun m => by
   have := Jm5 its m []
   rw [List.nil_append] at this
   exact this
  rw [f0]
  cases its with
  | nil => simp
  | cons a r' => rw [if_neg (by simp)]
 refine wpAny_binaryOp_repeat_ref (T := "list") (U := "int") (by decide) ⟨_, e, rfl⟩ (fun s' => typeIs_int s' k t) noFill_list_mul F.fills_int_mul F.slot_int_rmul repeat_list F.slot_int_index.lookup
  (call_meets F.slot_int_rmul (typeIs_int s k t) F.entry_int_rmul (F.args_int_rmul_2 _ _) (int___rmul___int_list k t l its.toArray n)
   ⟨e, rfl, ⟨_, e, rfl⟩, call_meets F.slot_list_mul ⟨_, e, rfl⟩ F.entry_list_mul (F.args_list_mul_2 _ _) (AutoListH.list___mul___list_int_3 l its.toArray n k t hfit hcap hlong) ⟨e, ?_⟩⟩)
 rw [hnew]
 exact ⟨.ref _, _, I.lnew (t' := s.toks) (r.rep k.toNat) (by rw [Jyq, Nat.mul_comm]; exact hz), rfl, q _ I.fresh⟩
end
section
variable {prog : Program} {w : World} {A : Around} {E : Value -> Shared -> Prop} {s : Shared}
end
section
variable {X : Cx}
end
end L2
namespace L2
open PySem PySem.Spec PyProof.Rows
section
variable {κ : Type} [DecidableEq κ]
noncomputable def valV (kvs : List (κ × V)) (k : κ) : Option V := (kvs.find? fun kv => decide (kv.1 = k)).map (·.2)
noncomputable def putK (kvs : List (κ × V)) (k : κ) (v : V) : List (κ × V) :=
 if (kvs.any fun kv => decide (kv.1 = k)) = true then kvs.map (fun kv => if kv.1 = k then (kv.1, v) else kv) else kvs ++ [(k, v)]
noncomputable def J01 (kvs : List (κ × V)) (k : κ) : List (κ × V) := kvs.filter fun kv => decide (kv.1 ≠ k)
theorem Jrf {p : κ × V} {r : List (κ × V)} {k : κ} (e : p.1 = k) : valV (p :: r) k = some p.2 := by simp [valV, List.find?_cons, e]
theorem Jrc {p : κ × V} {r : List (κ × V)} {k : κ} (e : ¬ p.1 = k) : valV (p :: r) k = valV r k := by simp [valV, List.find?_cons, e]
theorem RelO.isSome_eq {o : Option V} {u : Option Value} (r : RelO o u) : o.isSome = u.isSome := by
 cases o with
 | none => cases u with
  | none => rfl
  | some _ => exact Zf r
 | some _ => cases u with
  | none => exact Zf r
  | some _ => rfl
theorem RelO.getD {o : Option V} {u : Option Value} {d : V} {d' : Value} (r : RelO o u) (rd : RelV d d') : RelV (o.getD d) (u.getD d') := by
 cases o with
 | none => cases u with
  | none => exact rd
  | some _ => exact Zf r
 | some _ => cases u with
  | none => exact Zf r
  | some _ => exact r
theorem KV.val {kvs : List (κ × V)} {vs : List (κ × Value)} (r : KV kvs vs) (k : κ) : RelO (valV kvs k) (valueAt vs k) := by
 unfold KV at r
 induction r with
 | nil => exact True.intro
 | @cons p q ps qs h t ih =>
  obtain ⟨h1, h2⟩ := h
  by_cases e : p.1 = k
  ·have e' : q.1 = k := h1.symm.trans e
   have b : valueAt (q :: qs) k = some q.2 := by simp [valueAt, List.find?_cons, e']
   rw [Jrf e, b]; exact h2
  ·have e' : ¬ q.1 = k := fun z => e (h1.trans z)
   have b : valueAt (q :: qs) k = valueAt qs k := by simp [valueAt, List.find?_cons, e']
   rw [Jrc e, b]; exact ih
theorem KV.any {kvs : List (κ × V)} {vs : List (κ × Value)} (r : KV kvs vs) (k : κ) : (kvs.any fun kv => decide (kv.1 = k)) = vs.any fun kv => decide (kv.1 = k) := by
 unfold KV at r
 induction r with
 | nil => rfl
 | cons h t ih => rw [List.any_cons, List.any_cons, ih, h.1]
theorem KV.drop {kvs : List (κ × V)} {vs : List (κ × Value)} (r : KV kvs vs) (k : κ) : KV (J01 kvs k) (without vs k) := by
 unfold KV at r ⊢
 unfold J01 without
 induction r with
 | nil => exact .nil
 | @cons p q ps qs h t ih =>
  obtain ⟨h1, h2⟩ := h
  rw [List.filter_cons, List.filter_cons]
  by_cases e : p.1 = k
  ·have a : ¬ decide (p.1 ≠ k) = true := by simp [e]
   have b : ¬ decide (q.1 ≠ k) = true := by simp [h1.symm.trans e]
   rw [if_neg a, if_neg b]; exact ih
  ·have e' : ¬ q.1 = k := fun z => e (h1.trans z)
   have a : decide (p.1 ≠ k) = true := by simp [e]
   have b : decide (q.1 ≠ k) = true := by simp [e']
   rw [if_pos a, if_pos b]; exact .cons ⟨h1, h2⟩ ih
theorem KV.keys {kvs : List (κ × V)} {vs : List (κ × Value)} (r : KV kvs vs) : kvs.map (·.1) = vs.map (·.1) := by
 unfold KV at r
 induction r with
 | nil => rfl
 | cons h t ih => rw [List.map_cons, List.map_cons, ih, h.1]
theorem KV.length {kvs : List (κ × V)} {vs : List (κ × Value)} (r : KV kvs vs) : kvs.length = vs.length := Paired.length r
end
theorem kV_is {P : Program} {w : World} {k : Key} {u : Value} (r : RelV (kV k) u) : (Jfi P w).is k u = true := by
 cases k with
 | inl i => obtain ⟨t, e⟩ := (show ∃ t, u = Value.int i t from r); subst e; exact Jp8 P w i t
 | inr x => obtain ⟨t, e⟩ := (show ∃ t, u = Value.str x t from r); subst e; exact Jp6 P w x t
noncomputable abbrev KT (H : Hp) : List (List Key × V) -> List (List Key × Addr × Value) -> Prop := Paired fun p q => p.1 = q.1 /\ H q.2.1 = some (.tup (p.1.map kV)) /\ RelV p.2 q.2.2
theorem KT.keeps {H H' : Hp} {kvs : List (List Key × V)} {xs : List (List Key × Addr × Value)} (r : KT H kvs xs) (ht : ∀ b ys, H b = some (.tup ys) -> H' b = some (.tup ys)) : KT H' kvs xs :=
 Paired.mapP r fun _ _ z => ⟨z.1, ht _ _ z.2.1, z.2.2⟩
section
variable {P : Program} {w : World} {H : Hp} {h : Heap} {a : Addr}
theorem rd_of {u : HO} (ok : HOk P w H h) (e : Rd H a u) : Jea P w H h a u := e.ok ok
theorem dk_rd {kvs : List (Key × V)} (ok : HOk P w H h) (e : Rd H a (.dK kvs)) : kvs.length <= sizeLine /\ (a == sysModules) = false /\ ∃ vs, KV kvs vs /\ h.DictOf (Jfi P w) a vs :=
 show Jea P w H h a (.dK kvs) from rd_of ok e
theorem dk_of {kvs : List (Key × V)} (ok : HOk P w H h) (e : H a = some (.dK kvs)) : kvs.length <= sizeLine /\ (a == sysModules) = false /\ ∃ vs, KV kvs vs /\ h.DictOf (Jfi P w) a vs := dk_rd ok (.inl e)
end
noncomputable def DGet (H : Hp) (a : Addr) (y : V) (r : Option V) : Prop :=
 (∃ kvs k, Rd H a (.dK kvs) /\ y = kV k /\ r = valV kvs k) ∨ ∃ kvs k b, Rd H a (.dT kvs) /\ y = .ref b /\ H b = some (.tup (k.map kV)) /\ r = valV kvs k
noncomputable def DPut (H : Hp) (a : Addr) (y v : V) (H' : Hp) : Prop :=
 (∃ kvs k, H a = some (.dK kvs) /\ y = kV k /\ kvs.length < sizeLine /\ H' = upd H a (.dK (putK kvs k v))) ∨
 ∃ kvs k b, H a = some (.dT kvs) /\ y = .ref b /\ H b = some (.tup (k.map kV)) /\ kvs.length < sizeLine /\ H' = upd H a (.dT (putK kvs k v))
theorem DGet.k {H : Hp} {a : Addr} {kvs : List (Key × V)} {k : Key} (e : H a = some (.dK kvs)) : DGet H a (kV k) (valV kvs k) := .inl ⟨kvs, k, .inl e, rfl, rfl⟩
theorem DGet.t {H : Hp} {a b : Addr} {kvs : List (List Key × V)} {k : List Key} (e : H a = some (.dT kvs)) (eb : H b = some (.tup (k.map kV))) : DGet H a (.ref b) (valV kvs k) := .inr ⟨kvs, k, b, .inl e, rfl, eb, rfl⟩
theorem DPut.k {H : Hp} {a : Addr} {kvs : List (Key × V)} {k : Key} {v : V} (e : H a = some (.dK kvs)) (hl : kvs.length < sizeLine) : DPut H a (kV k) v (upd H a (.dK (putK kvs k v))) := .inl ⟨kvs, k, e, rfl, hl, rfl⟩
theorem DPut.t {H : Hp} {a b : Addr} {kvs : List (List Key × V)} {k : List Key} {v : V} (e : H a = some (.dT kvs)) (eb : H b = some (.tup (k.map kV))) (hl : kvs.length < sizeLine) :
  DPut H a (.ref b) v (upd H a (.dT (putK kvs k v))) := .inr ⟨kvs, k, b, e, rfl, eb, hl, rfl⟩
section
variable {X : Cx} {pins : List (Addr × Obj)} {σ : St} {H : Hp} {s : Shared} {a : Addr} {y v : V} {u r : Value} {o : Option V} {A : Around} {E : Value -> Shared -> Prop}
end
section
variable {X : Cx} {pins : List (Addr × Obj)} {σ : St} {H : Hp} {s : Shared} {a : Addr} {kvs : List (Key × V)} {k : Key} {u : Value} {A : Around} {E : Value -> Shared -> Prop}
end
section
variable {X : Cx} {o i e value : Expr} {pos pos' tpos : Pos} {td ty tv : TE}
end
section
variable {X : Cx} {pos : Pos}
end
structure M1 (X : Cx) (o : Expr) (m : Str) (apos : Pos) (e : Expr) (cpos : Pos) : Prop where
 base : attributeBase o m X.env (eval o X.env) = eval o X.env
 few : ((backTo cpos (starEach [e] X.env)).all (fun x => !x.1) && (backToKw cpos (keywordEach [] X.env)).all (fun x => x.1.isSome)
  && decide (([e] : List Expr).length + ([] : List Keyword).length + (if ([] : List Keyword).isEmpty then 0 else 1) < 30)) = true
 line : (apos.endLine == cpos.line) = true
 trees : backTo cpos (starEach [e] X.env) = [(false, eval e X.env)]
structure M2 (X : Cx) (o : Expr) (m : Str) (apos : Pos) (e f : Expr) (cpos : Pos) : Prop where
 base : attributeBase o m X.env (eval o X.env) = eval o X.env
 few : ((backTo cpos (starEach [e, f] X.env)).all (fun x => !x.1) && (backToKw cpos (keywordEach [] X.env)).all (fun x => x.1.isSome)
  && decide (([e, f] : List Expr).length + ([] : List Keyword).length + (if ([] : List Keyword).isEmpty then 0 else 1) < 30)) = true
 line : (apos.endLine == cpos.line) = true
 trees : backTo cpos (starEach [e, f] X.env) = [(false, eval e X.env), (false, eval f X.env)]
section
variable {X : Cx} {pins : List (Addr × Obj)} {σ : St} {H : Hp} {s : Shared} {a : Addr} {y d : V} {u r : Value} {o : Option V} {A : Around} {E : Value -> Shared -> Prop}
end
section
variable {X : Cx} {o e f : Expr} {apos cpos : Pos} {td ty tx : TE}
end
section
variable {X : Cx} {pins : List (Addr × Obj)} {σ : St} {H : Hp} {s : Shared} {a : Addr} {kvs : List (Key × V)} {A : Around} {E : Value -> Shared -> Prop}
end
end L2
namespace Att
open PySem PySem.W PySem.Calls PyProof.Rows
theorem Jka {P : Params} {h : Heap} : ∀ (ns : List Int) (vs : List Value), WellAll P h vs (ns.map WData.int) -> IntsAre vs ns := by
 intro ns
 induction ns with
 | nil =>
  intro vs w
  rw [List.map_nil] at w
  cases w
  exact .nil
 | cons n ns ih =>
  intro vs w
  rw [List.map_cons] at w
  cases w with
  | cons a b =>
   cases a
   exact .cons _ _ (ih _ b)
theorem Ju2 {l : OpenLaw} {n : Nat} (hn : l.most = some n) {P : Params} {h : Heap} {args : List WData} {vals : List Value}
  (hpre : l.row.toRowW.claim.pre args = true) (hwl : WellAll P h vals args) :
  ∃ a vs ns, vals = [Value.ref a] /\ args = [WData.list (ns.map WData.int)] /\ h.get? a = some { cls := .type "list", data := .seq vs.toArray } /\ IntsAre vs ns /\ ns.length <= n := by
 have hsh : WShape.hasAll [] args [.list .int] = true := (pre_splitW hpre).1
 have hc : l.pre.holds [] { args := args } = true := (pre_splitW hpre).2
 obtain ⟨d, r, rfl, h1, h2⟩ := hasAllW_cons hsh
 obtain rfl := hasAllW_nil h2
 obtain ⟨xs, rfl, h3⟩ := hasW_list h1
 obtain ⟨ns, rfl⟩ := items_int h3
 have hlen : ns.length <= n := by
  unfold OpenLaw.pre at hc
  have h4 : (WTm.not (.lt (.lit (.int (n : Int))) (.len (.arg 0)))).holds [] { args := [.list (ns.map .int)] } = true := by
   have h4 := (holds_andW hc).1
   rw [hn] at h4
   exact h4
  have h5 := condW_of h4 (w_not (w_lt w_lit (w_len_list (w_arg rfl))))
  rw [List.length_map] at h5
  refine Nat.le_of_not_lt fun q => ?_
  have q' : (n : Int) < ((ns.length : Nat) : Int) := by omega
  first
   | (rw [decide_eq_true q'] at h5; exact absurd h5 (by decide))
   | (simp at h5; omega)
 cases hwl with
 | cons w1 w2 =>
  cases w2
  cases w1 with
  | list ho hall => exact ⟨_, _, ns, rfl, rfl, ho, Jka ns _ hall, hlen⟩
theorem Juo (l : OpenLaw) (args : List WData) : l.row.toRowW.claim.post args (.bool true) args = true :=
 postW_of (r := l.row.toRowW) (X := (true == true))
  (show WShape.has [] (.bool true) .bool = true by first | rfl | decide | simp [WShape.has, WShape.arms, WShape.armsAll])
  (show (WTm.eq .res (.lit (.bool true))).value [] { args := args, res := some (.bool true), after := args } = some (.bool (true == true)) from w_eq_bool (w_res rfl) w_lit) rfl
theorem attach_call {l : OpenLaw} {n : Nat} {q : Program} {loose : List Str} {XP : (Str -> Option Value) -> Heap -> Prop} {YP : World -> Heap -> Prop} {d : DefRec}
  (hn : l.most = some n) (hdf : d.params.defaults = [])
  (call : ∀ (w : World) (s₀ s₁ : Shared) (mg mb : Str -> Option Value) (fa : Addr) (o : Obj) (pm cd doc : Value) (a : Addr) (vs : List Value) (ns : List Int),
   Ground q loose [] XP w s₀ mg mb s₁.heap -> YP w s₁.heap ->
   s₁.heap.get? fa = some o -> o.data = .func (docDef d.name d.params d.body d.scope pm cd doc) -> s₁.heap.CodeRec cd d.name -> mg d.name = some (.ref fa) ->
   s₁.heap.get? a = some { cls := .type "list", data := .seq vs.toArray } -> IntsAre vs ns -> ns.length <= n -> s₁.gens = #[] ->
   codeAny (model l.prog w) callerA (.call (.ref fa) ⟨[.ref a], []⟩) (fun r s' => r = .ok (.ret (.bool true)) /\ OldK s₁.heap s'.heap /\ s'.os = s₁.os /\ AllBare s'.gens) s₁) :
  WalkO q loose XP YP l.row.toRowW d [] (fun f vs => PySem.call f vs) := by
 intro w s₀ s₁ mg mb G Y fa o pm cd doc dV kV ho hd hcd hD hmg hg args vals as hpre hlay hrd hwl hlo
 obtain rfl : dV = .none := Dflts.none hD hdf
 obtain rfl : kV = .none := Dflts.noKw hD
 obtain ⟨a, vs, ns, rfl, rfl, hobj, hints, hlen⟩ := Ju2 hn hpre hwl
 refine enter_call (codeAny_mono (call w s₀ s₁ mg mb fa o pm cd doc a vs ns G Y ho (fd_plain hd) hcd hmg hobj hints hlen hg) fun r s' hq => ?_)
 obtain ⟨rfl, h2, h3, h4⟩ := hq
 exact ⟨.inl ⟨.bool true, .bool true, [], rfl, fun _ => rfl, .bool true, Juo l _, fun _ => ⟨List.Pairwise.nil, fun _ hm => (nomatch hm)⟩⟩, h2, h3, h4⟩
section
variable {prog : Program} {w : World} {A : Around} {E : Value -> Shared -> Prop} {s : Shared} {K : Frag}
end
end Att
namespace L2
open PySem PySem.Spec PyProof.Rows
theorem Jfh : ∀ {vs : List Value} {ns : List Int}, IntsAre vs ns -> Vals (ns.map V.int) vs
 | _, _, .nil => .nil
 | _, _, .cons n t h => .cons ⟨t, rfl⟩ (Jfh h)
noncomputable def Only (H : Hp) : Prop := ∀ b, H b = none ∨ ∃ o xs, H b = some (.frz o (.lst xs))
theorem Jwm {P : Program} {w : World} {K : W.Frag} {mg mb : Str -> Option Value} {CX : CXT} {k : Nat} {fa a : Addr} {fd : FuncData} {x : Str} {sp : Sp} {s₁ : Shared} {vs : List Value} {ns : List Int}
  (KX : K.In s₁.heap) (hns : s₁.heap.Ns mainGlobals mg) (hb : s₁.heap.Ns builtinsNs mb) (hbb : ∀ x : Str, x ≠ "__name__" -> mb x = bootBuiltins x) (hlim : s₁.heap.NoLimit) (hg : s₁.gens = #[])
  (ha : s₁.heap.get? a = some { cls := .type "list", data := .seq vs.toArray }) (hi : IntsAre vs ns) (hl : ns.length <= sizeLine) (hr : Room k callerA)
  (F : ∀ base : Heap, K.In base -> base.Ns mainGlobals mg -> FnOk P w K mg base CX k fa fd [x] sp) (hbind : ∀ (s : Shared) (u : Value), BindsTo s fd ⟨[u], []⟩ [(x, u)])
  (hsp : ∀ H : Hp, Only H -> SqL K H a (ns.map V.int) -> sp [.ref a] H (fun v _ => v = .bl true) fun _ _ _ => False)
  (hCX : ∀ H e s', CX [] H s₁ (fun _ _ _ => False) e s' -> False) :
  codeAny (model P w) callerA (.call (.ref fa) ⟨[.ref a], []⟩) (fun r s' => r = .ok (.ret (.bool true)) /\ OldK s₁.heap s'.heap /\ s'.os = s₁.os /\ AllBare s'.gens) s₁ := by
 have rv := Jfh hi
 have lenV := hi.length
 -- from an abstract heap in which nothing but the script may be tracked
 have core : ∀ H : Hp, Only H -> SqL K H a (ns.map V.int) -> HOk P w H s₁.heap -> (∀ b, H b ≠ none -> b = a) -> (H a ≠ none -> K.lookup a = none) ->
   codeAny (model P w) callerA (.call (.ref fa) ⟨[.ref a], []⟩) (fun r s' => r = .ok (.ret (.bool true)) /\ OldK s₁.heap s'.heap /\ s'.os = s₁.os /\ AllBare s'.gens) s₁ := by
  intro H hO hS hok hA hK
  have base_of : ∀ {b : Addr} {o : Obj}, s₁.heap.get? b = some o -> H b = none -> (hidT s₁.heap H).get? b = some o := fun e n => Jva e n
  have noA : ∀ {b : Addr} {o : Obj} {es : Array DictEntry} {ep : Nat}, s₁.heap.get? b = some o -> o.data = .dict es ep -> H b = none := fun {b o es ep} e d => by
   cases q : H b with
   | none => rfl
   | some u =>
    have e' : b = a := hA b (by rw [q]; simp)
    subst e'
    rw [ha] at e; cases e
    have d' : Data.seq vs.toArray _ = Data.dict es ep := d
    cases d'
  have nsK : ∀ {b : Addr} {m : Str -> Option Value}, s₁.heap.Ns b m -> (hidT s₁.heap H).Ns b m := fun {b m} ⟨o, es, ep, e, d, r⟩ => ⟨o, es, ep, base_of e (noA e d), d, r⟩
  have hKb : K.In (hidT s₁.heap H) := fun b o e => base_of (KX b o e) (by
   cases q : H b with
   | none => rfl
   | some u =>
    have e' : b = a := hA b (by rw [q]; simp)
    subst e'
    rw [hK (by rw [q]; simp)] at e; cases e)
  have hM : Mod K mg (hidT s₁.heap H) := ⟨hKb, nsK hns, ⟨mb, nsK hb, hbb⟩, let ⟨mc, h1, h2⟩ := hlim; ⟨mc, nsK h1, h2⟩⟩
  have e0 : Env0 P w K mg (hidT s₁.heap H) callerA [] s₁ H := ⟨rfl, hM, fun b o e => Jzm e, Nat.le_of_eq (Juj _ _), trivial, fun b hb => absurd (show b ∈ ([] : List Addr) from hb) (by simp), hok, .of_eq hg⟩
  refine codeAny_mono ((F _ hKb (nsK hns)).run callerA [] s₁ H ⟨[.ref a], []⟩ [.ref a] [.ref a] _ _ hr e0 (hbind s₁ (.ref a)) (.cons rfl .nil) (hsp H hO hS)) fun r s' h => ?_
  cases r with
  | error e => exact (hCX H e s' h).elim
  | ok fl =>
   cases fl with
   | next => exact False.elim h
   | brk => exact False.elim h
   | cont => exact False.elim h
   | ret u =>
    obtain ⟨v, H', os, bare, un, hok', r', q⟩ := h
    have q' : v = .bl true := q
    subst q'
    obtain rfl : u = Value.bool true := r'
    refine ⟨rfl, OldK.of_keep fun b o e => ?_, os, bare⟩
    cases q : H b with
    | none => exact un.keep b o e q (by intro z; exact absurd (show b ∈ ([] : List Addr) from z) (by simp)) (by simp)
    | some u =>
     rcases hO b with z | ⟨ob, xs, z⟩
     ·rw [q] at z; cases z
     ·have z2 := un.frzs b ob _ z
      obtain ⟨e1, _⟩ := hok b _ z
      obtain ⟨e2, _⟩ := hok' b _ z2
      rw [e] at e1; cases e1
      exact e2
 cases hk : K.lookup a with
 | some o =>
  -- the script is one of the module's own objects
  have e := KX a o hk
  rw [ha] at e
  cases e
  refine core (fun _ => none) (fun _ => .inl rfl) (.inr ⟨_, vs.toArray, _, hk, rfl, rfl, rfl, by rw [List.size_toArray, lenV]; exact hl, by simpa using rv⟩) (fun b u z => by have z' : (none : Option HO) = some u := z; cases z') (fun b z => absurd rfl z) fun z => absurd rfl z
 | none =>
  refine core (fun b => if b = a then some (.frz { cls := .type "list", data := .seq vs.toArray } (.lst (ns.map V.int))) else none) (fun b => ?_) (.inl (.inr ⟨{ cls := .type "list", data := .seq vs.toArray }, if_pos rfl⟩)) (fun b u z => ?_) (fun b z => ?_) fun _ => hk
  ·by_cases hb : b = a
   ·exact .inr ⟨_, _, if_pos hb⟩
   ·exact .inl (if_neg hb)
  ·by_cases hb : b = a
   ·have z' := (if_pos hb).symm.trans z
    cases z'
    subst hb
    exact ⟨ha, by rw [List.length_map]; exact hl, vs, _, rv, ha⟩
   ·have z' := (if_neg hb).symm.trans z
    cases z'
  ·by_cases hb : b = a
   ·exact hb
   ·exact absurd (if_neg hb) z
end L2
namespace L2
open PySem PySem.Spec PyProof.Rows
theorem Jzt {l : W.OpenLaw} {n k : Nat} {q : Program} {loose : List Str} {XP : (Str -> Option Value) -> Heap -> Prop} {YP : World -> Heap -> Prop} {d : DefRec} {K : Params -> W.Frag} {CX : World -> CXT} {sp : World -> Sp} {x : Str}
  (hn : l.most = some n) (hn2 : n <= sizeLine) (hdf : d.params.defaults = []) (hr : Room k callerA)
  (hY : ∀ (w : World) (h : Heap), YP w h -> (K w.params).In h)
  (F : ∀ (w : World) (mg : Str -> Option Value) (fa : Addr) (h : Heap), (K w.params).In h -> h.Ns mainGlobals mg -> mg d.name = some (.ref fa) ->
   ∃ fd : FuncData, (∀ (s : Shared) (u : Value), BindsTo s fd ⟨[u], []⟩ [(x, u)]) /\
    ∀ base : Heap, (K w.params).In base -> base.Ns mainGlobals mg -> FnOk l.prog w (K w.params) mg base (CX w) k fa fd [x] (sp w))
  (hsp : ∀ (w : World) (H : Hp) (a : Addr) (ns : List Int), ns.length <= n -> Only H -> SqL (K w.params) H a (ns.map V.int) -> sp w [.ref a] H (fun v _ => v = .bl true) fun _ _ _ => False)
  (hCX : ∀ (w : World) (H : Hp) (s : Shared) (e : Value) (s' : Shared), CX w [] H s (fun _ _ _ => False) e s' -> False) :
  W.WalkO q loose XP YP l.row.toRowW d [] (fun f vs => PySem.call f vs) := by
 refine Att.attach_call hn hdf fun w s₀ s₁ mg mb fa o pm cd doc a vs ns G Y ho hd hcd hmg hobj hints hlen hg => ?_
 have KX := hY w _ Y
 obtain ⟨fd, hb, hF⟩ := F w mg fa _ KX G.T.g hmg
 exact Jwm KX G.T.g G.T.b G.T.builtins G.T.nolimit hg hobj hints (Nat.le_trans hlen hn2) hr hF hb (fun H hO hS => hsp w H a ns hlen hO hS) fun H e s' => hCX w H s₁ e s'
end L2
namespace L2
open PySem PySem.Spec PyProof.Rows
noncomputable def Jgz (s : Stmt) (j : Nat) : Stmt := match s with
 | .ClassDef _ _ _ body _ _ _ _ _ _ _ => body.getD j (.Pass ⟨0, 0, 0, 0⟩)
 | _ => .Pass ⟨0, 0, 0, 0⟩
noncomputable def Jl (s : Stmt) : Arguments := match s with
 | .FunctionDef _ a _ _ _ _ _ _ _ _ => a
 | _ => { posonlyargs := [], args := [], vararg := none, kwonlyargs := [], kw_defaults := [], kwarg := none, defaults := [] }
noncomputable def Jh (s : Stmt) : List Stmt := match s with
 | .FunctionDef _ _ b _ _ _ _ _ _ _ => b
 | _ => []
noncomputable def Jb (s : Stmt) : Scope := match s with
 | .FunctionDef _ _ _ _ _ _ sc _ _ _ => sc
 | _ => { kind := .function, names := [], isGenerator := false, isCoroutine := false }
noncomputable abbrev CX0 : CXT := fun _ _ _ _ _ _ => False
structure Fun (K : W.Frag) (x qual : Str) (st : Stmt) (f : Addr) (fd : FuncData) : Prop where
 ex : ∃ (oc : Value) (od : Option Addr) (kV doc pm : Value) (an : Option Addr) (cdv ct : Value) (osl : Array (Option Value)),
  fd = W.fnOf x qual (Jl st) (Jh st) (Jb st) .none kV doc pm an cdv ct /\ K.lookup f = some ⟨oc, od, .func fd, osl⟩ /\ W.codeIn K cdv qual = true
 kp : W.keepIn K (.ref f) = true
section
variable {P : Program} {w : World} {K : W.Frag} {mg : Str -> Option Value} {base : Heap}
theorem Fun.ok {x qual : Str} {st : Stmt} {f : Addr} {fd : FuncData} {N ps : List Str} {k : Nat} {sp : Sp} (F : Fun K x qual st f fd) (S : FnScope N ps (Jb st)) (len : ∀ vs H Q E, sp vs H Q E -> vs.length = ps.length)
  (hbody : ∀ (cdv : Value) (A : Around) (outer : List Env) (s : Shared) (H : Hp) (vs : List V) (Q : VK) (E : XK), Room k (A.deeper (envOfC qual (Jb st) s.heap.objs.size f cdv)) -> sp vs H Q E ->
   ∃ t, PSs (cxOf CX0 P w K mg base N qual (Jb st) f cdv A outer s H E).nox (Jh st) t /\ t { nx := fun _ H' => Q .non H', rt := Q } (start N vs) H) : FnOk P w K mg base CX0 (k + 1) f fd ps sp := by
 obtain ⟨oc, od, kV, doc, pm, an, cdv, ct, osl, rfl, lk, hcd⟩ := F.ex
 refine J14 lk hcd S len fun A outer s H vs Q E hr hsp => ?_
 obtain ⟨t, h, q⟩ := hbody cdv A outer s H vs Q E hr hsp
 exact ⟨t, h.nox, q⟩
theorem Fun.binds {x qual : Str} {st : Stmt} {f : Addr} {fd : FuncData} {ps : List Str} (F : Fun K x qual st f fd)
  (h : ∀ (kV doc pm : Value) (an : Option Addr) (cdv ct : Value) (us : List Value), us.length = ps.length -> bindArgs (W.fnOf x qual (Jl st) (Jh st) (Jb st) .none kV doc pm an cdv ct) ⟨us, []⟩ = pure (ps.zip us)) : Jg1 K fd ps [] := by
 obtain ⟨oc, od, kV, doc, pm, an, cdv, ct, osl, rfl, lk, hcd⟩ := F.ex
 exact .all (h kV doc pm an cdv ct)
end
section
variable {X : Cx}
end
noncomputable def Same (H H' : Hp) : Prop := ∀ b o, H b = some o -> H' b = some o
theorem Same.refl (H : Hp) : Same H H := fun _ _ h => h
theorem Same.trans {H H1 H2 : Hp} (a : Same H H1) (b : Same H1 H2) : Same H H2 := fun c o h => b c o (a c o h)
theorem Same.free {H H' : Hp} (e : Same H H') {l : Addr} (h : H' l = Option.none) : H l = Option.none := by
 cases q : H l with
 | none => rfl
 | some o =>
  rw [e l o q] at h
  cases h
theorem Same.seq {K : W.Frag} {H H' : Hp} {a : Addr} {xs : List V} (e : Same H H') (h : SqL K H a xs) : SqL K H' a xs := by
 rcases h with (h | ⟨o, h⟩) | h
 ·exact .inl (.inl (e _ _ h))
 ·exact .inl (.inr ⟨o, e _ _ h⟩)
 ·exact .inr h
end L2
set_option maxHeartbeats 4000000
namespace L3
open PySem PySem.Spec PyProof.Rows L2
inductive IV where
 | non | bl (b : Bool) | int (i : Int) | str (x : Str) | tup (xs : List IV) | rol (xs : List IV) | ref (i : Nat)
inductive IO where
 | lst (xs : List IV)
 | ins (c : Str) (fs : List (Str × IV))
 | dct (kvs : List (Key × IV))
 | exc (c : Str) (fs : List (Str × IV))
 | tab (q : Str)
noncomputable abbrev IH := List IO
noncomputable abbrev ISt := List (Option IV)
inductive Res (α : Type) where
 | ok (a : α) (h : IH) | exc (n : Nat) (h : IH) | stuck
noncomputable def Res.bind {α β : Type} : Res α -> (α -> IH -> Res β) -> Res β
 | .ok a h, f => f a h
 | .exc n h, _ => .exc n h
 | .stuck, _ => .stuck
inductive SRes where
 | next (σ : ISt) (h : IH) | ret (v : IV) (h : IH) | brk (σ : ISt) (h : IH) | cont (σ : ISt) (h : IH) | exc (n : Nat) (σ : ISt) (h : IH) | stuck
noncomputable def SqR (K : W.Frag) (H : Hp) (a : Addr) (xs : List V) : Prop :=
 (∃ o, H a = some (.frz o (.lst xs))) ∨
  ∃ (o : Obj) (its : Array Value) (n : Nat), K.lookup a = some o /\ o.cls = .type "list" /\ o.dict = none /\ o.data = .seq its n /\ its.size <= sizeLine /\ Vals xs its.toList
theorem SqR.sq {K : W.Frag} {H : Hp} {a : Addr} {xs : List V} (h : SqR K H a xs) : SqL K H a xs := by
 rcases h with ⟨o, h⟩ | h
 ·exact .inl (.inr ⟨o, h⟩)
 ·exact .inr h
mutual
noncomputable def RV (K : W.Frag) (ι : List Addr) (H : Hp) : IV -> V -> Prop
 | .non, v => v = .non
 | .bl b, v => v = .bl b
 | .int i, v => v = .int i
 | .str x, v => v = .str x
 | .tup xs, v => ∃ a vs, v = .ref a /\ SqT K H a vs /\ RVs K ι H xs vs
 | .rol xs, v => ∃ a vs, v = .ref a /\ SqR K H a vs /\ RVs K ι H xs vs
 | .ref i, v => ∃ a, v = .ref a /\ ι[i]? = some a
noncomputable def RVs (K : W.Frag) (ι : List Addr) (H : Hp) : List IV -> List V -> Prop
 | [], vs => vs = []
 | x :: xs, vs => ∃ v r, vs = v :: r /\ RV K ι H x v /\ RVs K ι H xs r
end
structure Ext (H H' : Hp) : Prop where
 tups : ∀ b xs, H b = some (.tup xs) -> H' b = some (.tup xs)
 frzs : ∀ b o u, H b = some (.frz o u) -> H' b = some (.frz o u)
structure Nxt (ι : List Addr) (H : Hp) (ι' : List Addr) (H' : Hp) : Prop where
 pre : ∃ m, ι' = ι ++ m
 ext : Ext H H'
theorem Nxt.refl {ι : List Addr} {H : Hp} : Nxt ι H ι H := ⟨⟨[], by simp⟩, ⟨fun _ _ h => h, fun _ _ _ h => h⟩⟩
theorem Nxt.trans {ι ι1 ι2 : List Addr} {H H1 H2 : Hp} (a : Nxt ι H ι1 H1) (b : Nxt ι1 H1 ι2 H2) : Nxt ι H ι2 H2 := by
 obtain ⟨⟨m, e⟩, x⟩ := a
 obtain ⟨⟨m', e'⟩, y⟩ := b
 exact ⟨⟨m ++ m', by rw [e', e, List.append_assoc]⟩, ⟨fun b xs h => y.tups b xs (x.tups b xs h), fun b o u h => y.frzs b o u (x.frzs b o u h)⟩⟩
theorem Nxt.at {ι ι' : List Addr} {H H' : Hp} (n : Nxt ι H ι' H') {i : Nat} {a : Addr} (h : ι[i]? = some a) : ι'[i]? = some a := by
 obtain ⟨⟨m, e⟩, _⟩ := n
 subst e
 rw [List.getElem?_append_left (List.getElem?_eq_some_iff.mp h).1]
 exact h
theorem Ext.rd {H H' : Hp} (x : Ext H H') {a : Addr} {xs : List V} (h : Rd H a (.tup xs)) : Rd H' a (.tup xs) := by
 rcases h with h | ⟨o, h⟩
 ·exact .inl (x.tups _ _ h)
 ·exact .inr ⟨o, x.frzs _ _ _ h⟩
theorem Ext.sqT {K : W.Frag} {H H' : Hp} (x : Ext H H') {a : Addr} {xs : List V} (h : SqT K H a xs) : SqT K H' a xs := by
 rcases h with h | h
 ·exact .inl (x.rd h)
 ·exact .inr h
theorem Ext.sqR {K : W.Frag} {H H' : Hp} (x : Ext H H') {a : Addr} {xs : List V} (h : SqR K H a xs) : SqR K H' a xs := by
 rcases h with ⟨o, h⟩ | h
 ·exact .inl ⟨o, x.frzs _ _ _ h⟩
 ·exact .inr h
mutual
theorem RV.mono {K : W.Frag} {ι ι' : List Addr} {H H' : Hp} (n : Nxt ι H ι' H') : ∀ (x : IV) (v : V), RV K ι H x v -> RV K ι' H' x v
 | .non, _, h => h
 | .bl _, _, h => h
 | .int _, _, h => h
 | .str _, _, h => h
 | .tup xs, _, h => by
  obtain ⟨a, vs, e, q, r⟩ := h
  exact ⟨a, vs, e, n.ext.sqT q, RVs.mono n xs vs r⟩
 | .rol xs, _, h => by
  obtain ⟨a, vs, e, q, r⟩ := h
  exact ⟨a, vs, e, n.ext.sqR q, RVs.mono n xs vs r⟩
 | .ref i, _, h => by
  obtain ⟨a, e, q⟩ := h
  exact ⟨a, e, n.at q⟩
theorem RVs.mono {K : W.Frag} {ι ι' : List Addr} {H H' : Hp} (n : Nxt ι H ι' H') : ∀ (xs : List IV) (vs : List V), RVs K ι H xs vs -> RVs K ι' H' xs vs
 | [], _, h => h
 | x :: xs, _, h => by
  obtain ⟨v, r, e, q, t⟩ := h
  exact ⟨v, r, e, RV.mono n x v q, RVs.mono n xs r t⟩
end
theorem RVs.length {K : W.Frag} {ι : List Addr} {H : Hp} : ∀ {xs : List IV} {vs : List V}, RVs K ι H xs vs -> vs.length = xs.length
 | [], _, h => by
  have e : _ = [] := h
  subst e
  rfl
 | x :: xs, _, h => by
  obtain ⟨v, r, e, _, t⟩ := h
  subst e
  simp [RVs.length t]
theorem RVs.get {K : W.Frag} {ι : List Addr} {H : Hp} : ∀ {xs : List IV} {vs : List V} {i : Nat} {x : IV}, RVs K ι H xs vs -> xs[i]? = some x -> ∃ v, vs[i]? = some v /\ RV K ι H x v
 | [], _, _, _, _, e => by simp at e
 | x :: xs, _, 0, y, h, e => by
  obtain ⟨v, r, e1, q, t⟩ := h
  subst e1
  simp at e
  subst e
  exact ⟨v, rfl, q⟩
 | x :: xs, _, i + 1, y, h, e => by
  obtain ⟨v, r, e1, q, t⟩ := h
  subst e1
  obtain ⟨u, h1, h2⟩ := RVs.get (i := i) (x := y) t (by simpa using e)
  exact ⟨u, by simpa using h1, h2⟩
theorem RVs.append {K : W.Frag} {ι : List Addr} {H : Hp} : ∀ {xs ys : List IV} {vs us : List V}, RVs K ι H xs vs -> RVs K ι H ys us -> RVs K ι H (xs ++ ys) (vs ++ us)
 | [], _, _, _, h, g => by
  have e : _ = [] := h
  subst e
  exact g
 | x :: xs, _, _, _, h, g => by
  obtain ⟨v, r, e, q, t⟩ := h
  subst e
  exact ⟨v, _, rfl, q, RVs.append t g⟩
theorem RVs.take {K : W.Frag} {ι : List Addr} {H : Hp} : ∀ {xs : List IV} {vs : List V} (n : Nat), RVs K ι H xs vs -> RVs K ι H (xs.take n) (vs.take n)
 | _, _, 0, _ => by simp; exact rfl
 | [], _, n + 1, h => by
  have e : _ = [] := h
  subst e
  exact rfl
 | x :: xs, _, n + 1, h => by
  obtain ⟨v, r, e, q, t⟩ := h
  subst e
  exact ⟨v, r.take n, rfl, q, RVs.take n t⟩
theorem RVs.drop {K : W.Frag} {ι : List Addr} {H : Hp} : ∀ {xs : List IV} {vs : List V} (n : Nat), RVs K ι H xs vs -> RVs K ι H (xs.drop n) (vs.drop n)
 | _, _, 0, h => h
 | [], _, n + 1, h => by
  have e : _ = [] := h
  subst e
  exact rfl
 | x :: xs, _, n + 1, h => by
  obtain ⟨v, r, e, q, t⟩ := h
  subst e
  exact RVs.drop n t
theorem RVs.set {K : W.Frag} {ι : List Addr} {H : Hp} {x : IV} {v : V} (q : RV K ι H x v) : ∀ {xs : List IV} {vs : List V} (i : Nat), RVs K ι H xs vs -> RVs K ι H (xs.set i x) (vs.set i v)
 | [], _, _, h => by
  have e : _ = [] := h
  subst e
  exact rfl
 | y :: xs, _, 0, h => by
  obtain ⟨u, r, e, _, t⟩ := h
  subst e
  exact ⟨v, r, rfl, q, t⟩
 | y :: xs, _, i + 1, h => by
  obtain ⟨u, r, e, p, t⟩ := h
  subst e
  exact ⟨u, r.set i v, rfl, p, RVs.set q i t⟩
theorem RVs.one {K : W.Frag} {ι : List Addr} {H : Hp} {x : IV} {v : V} (q : RV K ι H x v) : RVs K ι H [x] [v] := ⟨v, [], rfl, q, rfl⟩
theorem RVs.rev {K : W.Frag} {ι : List Addr} {H : Hp} : ∀ {xs : List IV} {vs : List V}, RVs K ι H xs vs -> RVs K ι H xs.reverse vs.reverse
 | [], _, h => by
  have e : _ = [] := h
  subst e
  exact rfl
 | x :: xs, _, h => by
  obtain ⟨v, r, e, q, t⟩ := h
  subst e
  rw [List.reverse_cons, List.reverse_cons]
  exact RVs.append (RVs.rev t) (RVs.one q)
theorem RVs.eraseIdx {K : W.Frag} {ι : List Addr} {H : Hp} : ∀ {xs : List IV} {vs : List V} (i : Nat), RVs K ι H xs vs -> RVs K ι H (xs.eraseIdx i) (vs.eraseIdx i)
 | [], _, _, h => by
  have e : _ = [] := h
  subst e
  exact rfl
 | x :: xs, _, 0, h => by
  obtain ⟨v, r, e, q, t⟩ := h
  subst e
  exact t
 | x :: xs, _, i + 1, h => by
  obtain ⟨v, r, e, q, t⟩ := h
  subst e
  exact ⟨v, r.eraseIdx i, rfl, q, RVs.eraseIdx i t⟩
theorem RVs.ints {K : W.Frag} {ι : List Addr} {H : Hp} : ∀ (ns : List Int), RVs K ι H (ns.map IV.int) (ns.map V.int)
 | [] => rfl
 | _ :: ns => ⟨_, _, rfl, rfl, RVs.ints ns⟩
noncomputable def RPs {κ : Type} (K : W.Frag) (ι : List Addr) (H : Hp) : List (κ × IV) -> List (κ × V) -> Prop
 | [], vs => vs = []
 | x :: xs, vs => ∃ v r, vs = (x.1, v) :: r /\ RV K ι H x.2 v /\ RPs K ι H xs r
theorem RPs.mono {κ : Type} {K : W.Frag} {ι ι' : List Addr} {H H' : Hp} (n : Nxt ι H ι' H') : ∀ (xs : List (κ × IV)) (vs : List (κ × V)), RPs K ι H xs vs -> RPs K ι' H' xs vs
 | [], _, h => h
 | x :: xs, _, h => by
  obtain ⟨v, r, e, q, t⟩ := h
  exact ⟨v, r, e, RV.mono n _ v q, RPs.mono n xs r t⟩
theorem RPs.length {κ : Type} {K : W.Frag} {ι : List Addr} {H : Hp} : ∀ {xs : List (κ × IV)} {vs : List (κ × V)}, RPs K ι H xs vs -> vs.length = xs.length
 | [], _, h => by
  have e : _ = [] := h
  subst e
  rfl
 | x :: xs, _, h => by
  obtain ⟨v, r, e, _, t⟩ := h
  subst e
  simp [RPs.length t]
theorem RPs.lookup {κ : Type} [BEq κ] {K : W.Frag} {ι : List Addr} {H : Hp} {f : κ} : ∀ {xs : List (κ × IV)} {vs : List (κ × V)}, RPs K ι H xs vs ->
  (∀ x, xs.lookup f = some x -> ∃ v, vs.lookup f = some v /\ RV K ι H x v) /\ (xs.lookup f = none -> vs.lookup f = none)
 | [], _, h => by
  have e : _ = [] := h
  subst e
  exact ⟨fun x e => by simp at e, fun _ => rfl⟩
 | (k, x) :: xs, _, h => by
  obtain ⟨v, r, e, q, t⟩ := h
  subst e
  have ih := RPs.lookup (f := f) t
  simp only [List.lookup_cons]
  cases hb : f == k with
  | true => exact ⟨fun y e => by cases e; exact ⟨v, rfl, q⟩, fun e => by cases e⟩
  | false => exact ih
noncomputable def Jl7 (H : Hp) (q : Str) (cv : Value) : Prop := ∃ c oc vs t, cv = .ref c /\ H c = some (.frz oc (.own 0)) /\ oc.data = .fields vs /\ vs[1]? = some (.str (q ++ ".<locals>." ++ "<lambda>") t)
noncomputable def TabO (K : W.Frag) (H : Hp) (q : Str) (a : Addr) : Prop := (∀ cdv, W.codeIn K cdv q = true -> ∃ c, cdv = .ref c /\ W.codeHdIn K c a = true) /\
 ∃ ps, H a = some (.tbl ps) /\ TriplesOk ps.toList /\ ∀ pos cv, codeAmong pos ps.toList = some cv -> Jl7 H q cv
theorem TabO.mono {K : W.Frag} {H H' : Hp} {q : Str} {a : Addr} (fz : ∀ b o u, H b = some (.frz o u) -> H' b = some (.frz o u)) (k : ∀ u, H a = some u -> H' a = some u) (h : TabO K H q a) : TabO K H' q a := by
 obtain ⟨h1, ps, e, ht, hc⟩ := h
 refine ⟨h1, ps, k _ e, ht, fun pos cv q => ?_⟩
 obtain ⟨c, oc, vs, t, e1, e2, r⟩ := hc pos cv q
 exact ⟨c, oc, vs, t, e1, fz _ _ _ e2, r⟩
noncomputable def ExF (a C : Addr) (tv : Value) : HO := .ext fun h => ∃ oe vs, h.get? a = some oe /\ oe.cls = .ref C /\ oe.data = .fields vs /\ vs[1]? = some tv
noncomputable def TvOk (H : Hp) (tv : Value) : Prop := tv = .none ∨ ∃ T oT ts, tv = .ref T /\ H T = some (.frz oT (.own 0)) /\ oT.data = .fields ts /\ ts[3]? = some .none
theorem TvOk.mono {H H' : Hp} {tv : Value} (fz : ∀ b o u, H b = some (.frz o u) -> H' b = some (.frz o u)) (h : TvOk H tv) : TvOk H' tv := by
 rcases h with h | ⟨T, oT, ts, e, q, r⟩
 ·exact .inl h
 ·exact .inr ⟨T, oT, ts, e, fz _ _ _ q, r⟩
noncomputable def RO (ce : Str -> Option Addr) (K : W.Frag) (ι : List Addr) (H : Hp) (a : Addr) : IO -> Prop
 | .lst xs => ∃ vs, H a = some (.lst vs) /\ RVs K ι H xs vs
 | .ins c fs => ∃ C dx vs, ce c = some C /\ H a = some (.ins C dx vs) /\ RPs K ι H fs vs
 | .dct kvs => ∃ vs, H a = some (.dK vs) /\ RPs K ι H kvs vs
 | .exc c fs => fs = [] /\ ∃ C tv, W.nsIn K mainGlobals c = some (some (.ref C)) /\ H a = some (ExF a C tv) /\ TvOk H tv
 | .tab q => TabO K H q a
theorem RO.some {ce : Str -> Option Addr} {K : W.Frag} {ι : List Addr} {H : Hp} {a : Addr} {o : IO} (h : RO ce K ι H a o) : ∃ u, H a = some u := by
 cases o with
 | lst xs => obtain ⟨vs, e, _⟩ := h; exact ⟨_, e⟩
 | ins c fs => obtain ⟨_, _, vs, _, e, _⟩ := h; exact ⟨_, e⟩
 | dct kvs => obtain ⟨vs, e, _⟩ := h; exact ⟨_, e⟩
 | exc c fs => obtain ⟨_, C, tv, _, e, _⟩ := h; exact ⟨_, e⟩
 | tab q => obtain ⟨_, ps, e, _⟩ := h; exact ⟨_, e⟩
theorem RO.mono {ce : Str -> Option Addr} {K : W.Frag} {ι ι' : List Addr} {H H' : Hp} {a : Addr} {o : IO} (n : Nxt ι H ι' H') (k : ∀ u, H a = Option.some u -> H' a = Option.some u) (h : RO ce K ι H a o) : RO ce K ι' H' a o := by
 cases o with
 | lst xs => obtain ⟨vs, e, r⟩ := h; exact ⟨vs, k _ e, RVs.mono n _ _ r⟩
 | ins c fs => obtain ⟨C, dx, vs, c1, e, r⟩ := h; exact ⟨C, dx, vs, c1, k _ e, RPs.mono n _ _ r⟩
 | dct kvs => obtain ⟨vs, e, r⟩ := h; exact ⟨vs, k _ e, RPs.mono n _ _ r⟩
 | exc c fs => obtain ⟨e0, C, tv, c1, e, r⟩ := h; exact ⟨e0, C, tv, c1, k _ e, r.mono n.ext.frzs⟩
 | tab q => exact TabO.mono n.ext.frzs k h
structure Rel (ce : Str -> Option Addr) (K : W.Frag) (ι : List Addr) (h : IH) (H : Hp) : Prop where
 len : ι.length = h.length
 nd : ι.Nodup
 at_ : ∀ (i : Nat) (o : IO), h[i]? = some o -> ∃ a, ι[i]? = some a /\ RO ce K ι H a o
section
variable {ce : Str -> Option Addr} {K : W.Frag} {ι : List Addr} {h : IH} {H : Hp}
theorem Rel.some (R : Rel ce K ι h H) {i : Nat} {a : Addr} (e : ι[i]? = some a) : ∃ u, H a = Option.some u := by
 have hi : i < h.length := by rw [<- R.len]; exact (List.getElem?_eq_some_iff.mp e).1
 obtain ⟨b, e', r⟩ := R.at_ i _ (List.getElem?_eq_getElem hi)
 rw [e] at e'
 cases e'
 exact r.some
theorem Rel.notin (R : Rel ce K ι h H) {l : Addr} (e : H l = none) : l ∉ ι := fun hl => by
 obtain ⟨i, hi, q⟩ := List.mem_iff_getElem.mp hl
 obtain ⟨u, hu⟩ := R.some (i := i) (a := l) (by rw [List.getElem?_eq_getElem hi, q])
 rw [e] at hu
 cases hu
theorem Ext.upd_new {l : Addr} {o : HO} (e : H l = none) : Ext H (upd H l o) :=
 ⟨fun b xs q => by rw [Jg (Jap q e)]; exact q, fun b o u q => by rw [Jg (Jap q e)]; exact q⟩
theorem Rel.grow {l : Addr} {o : HO} (R : Rel ce K ι h H) (e : H l = none) : Rel ce K ι h (upd H l o) /\ Nxt ι H ι (upd H l o) := by
 have n : Nxt ι H ι (upd H l o) := ⟨⟨[], by simp⟩, Ext.upd_new e⟩
 refine ⟨⟨R.len, R.nd, fun i u q => ?_⟩, n⟩
 obtain ⟨a, e1, r⟩ := R.at_ i u q
 exact ⟨a, e1, r.mono n fun w hw => by rw [Jg (Jap hw e)]; exact hw⟩
theorem Rel.alloc {l : Addr} {o : HO} {io : IO} (R : Rel ce K ι h H) (e : H l = none) (r : RO ce K (ι ++ [l]) (upd H l o) l io) : Rel ce K (ι ++ [l]) (h ++ [io]) (upd H l o) /\ Nxt ι H (ι ++ [l]) (upd H l o) := by
 have n : Nxt ι H (ι ++ [l]) (upd H l o) := ⟨⟨[l], rfl⟩, Ext.upd_new e⟩
 refine ⟨⟨by simp [R.len], ?_, fun i u q => ?_⟩, n⟩
 ·rw [List.nodup_append]
  refine ⟨R.nd, by simp, fun a ha b hb => ?_⟩
  have : b = l := by simpa using hb
  subst this
  rintro rfl
  exact R.notin e ha
 ·by_cases hi : i < h.length
  ·rw [List.getElem?_append_left hi] at q
   obtain ⟨a, e1, r1⟩ := R.at_ i u q
   exact ⟨a, n.at e1, r1.mono n fun w hw => by rw [Jg (Jap hw e)]; exact hw⟩
  ·have hi2 : i = h.length := by
    have := (List.getElem?_eq_some_iff.mp q).1
    simp at this
    omega
   subst hi2
   rw [List.getElem?_append_right (Nat.le_refl _)] at q
   simp at q
   subst q
   refine ⟨l, ?_, r⟩
   rw [<- R.len, List.getElem?_append_right (Nat.le_refl _)]
   simp
theorem Rel.inj (R : Rel ce K ι h H) {i j : Nat} {a : Addr} (e1 : ι[i]? = Option.some a) (e2 : ι[j]? = Option.some a) : i = j := by
 obtain ⟨h1, q1⟩ := List.getElem?_eq_some_iff.mp e1
 obtain ⟨h2, q2⟩ := List.getElem?_eq_some_iff.mp e2
 exact (List.getElem_inj R.nd).mp (q1.trans q2.symm)
theorem Ext.upd_mut {l : Addr} {o u : HO} (e : H l = Option.some u) (m : Mut (H l)) : Ext H (upd H l o) := by
 refine ⟨fun b xs q => ?_, fun b ob w q => ?_⟩
 ·by_cases hb : b = l
  ·subst hb
   rw [q] at m
   exact Zf m
  ·rw [Jg hb]; exact q
 ·by_cases hb : b = l
  ·subst hb
   rw [q] at m
   exact Zf m
  ·rw [Jg hb]; exact q
theorem Rel.write {i : Nat} {a : Addr} {o u : HO} {io : IO} (R : Rel ce K ι h H) (e : ι[i]? = Option.some a) (ha : H a = Option.some u) (m : Mut (H a)) (r : RO ce K ι (upd H a o) a io) : Rel ce K ι (h.set i io) (upd H a o) /\ Nxt ι H ι (upd H a o) := by
 have n : Nxt ι H ι (upd H a o) := ⟨⟨[], by simp⟩, Ext.upd_mut ha m⟩
 refine ⟨⟨by simp [R.len], R.nd, fun j w q => ?_⟩, n⟩
 by_cases hj : j = i
 ·subst hj
  have hl : j < h.length := by
   have := (List.getElem?_eq_some_iff.mp q).1
   simpa using this
  rw [List.getElem?_set_self hl] at q
  cases q
  exact ⟨a, e, r⟩
 ·rw [List.getElem?_set_ne (Ne.symm hj)] at q
  obtain ⟨b, e1, r1⟩ := R.at_ j w q
  refine ⟨b, e1, r1.mono n fun v hv => ?_⟩
  have : b ≠ a := by
   rintro rfl
   exact hj (R.inj e1 e)
  rw [Jg this]
  exact hv
end
end L3
namespace L3
open PySem PySem.Spec PyProof.Rows L2
structure RSt (K : W.Frag) (ι : List Addr) (H : Hp) (σi : ISt) (σ : L2.St) : Prop where
 len : σi.length = σ.length
 at_ : ∀ (j : Nat) (v : IV), σi[j]? = some (some v) -> ∃ u, σ[j]? = some (some u) /\ RV K ι H v u
theorem RSt.mono {K : W.Frag} {ι ι' : List Addr} {H H' : Hp} {σi : ISt} {σ : L2.St} (n : Nxt ι H ι' H') (r : RSt K ι H σi σ) : RSt K ι' H' σi σ :=
 ⟨r.len, fun j v e => let ⟨u, e1, q⟩ := r.at_ j v e; ⟨u, e1, RV.mono n _ _ q⟩⟩
theorem RSt.set {K : W.Frag} {ι : List Addr} {H : Hp} {σi : ISt} {σ : L2.St} (r : RSt K ι H σi σ) (i : Nat) {x : IV} {v : V} (q : RV K ι H x v) : RSt K ι H (σi.set i (some x)) (σ.set i (some v)) := by
 refine ⟨by simp [r.len], fun j w e => ?_⟩
 by_cases hj : j = i
 ·subst hj
  have hl : j < σi.length := by
   have := (List.getElem?_eq_some_iff.mp e).1
   simpa using this
  rw [List.getElem?_set_self hl] at e
  cases e
  exact ⟨v, by rw [List.getElem?_set_self (by rw [<- r.len]; exact hl)], q⟩
 ·rw [List.getElem?_set_ne (Ne.symm hj)] at e
  obtain ⟨u, e1, q1⟩ := r.at_ j w e
  exact ⟨u, by rw [List.getElem?_set_ne (Ne.symm hj)]; exact e1, q1⟩
structure Now (ce : Str -> Option Addr) (X : Cx) (pins : List (Addr × Obj)) (ι : List Addr) (σi : ISt) (h : IH) (σ : L2.St) (H : Hp) (s : Shared) : Prop where
 inv : Inv X pins σ H s
 rel : Rel ce X.K ι h H
 st : RSt X.K ι H σi σ
noncomputable def RU (K : W.Frag) (ι : List Addr) (H : Hp) (v : IV) (u : Value) : Prop := ∃ x, RelV x u /\ RV K ι H v x
theorem RU.mono {K : W.Frag} {ι ι' : List Addr} {H H' : Hp} {v : IV} {u : Value} (n : Nxt ι H ι' H') (r : RU K ι H v u) : RU K ι' H' v u :=
 let ⟨x, a, b⟩ := r; ⟨x, a, RV.mono n _ _ b⟩
noncomputable def RUs (K : W.Frag) (ι : List Addr) (H : Hp) (vs : List IV) (us : List Value) : Prop := ∃ xs, Vals xs us /\ RVs K ι H vs xs
theorem RUs.mono {K : W.Frag} {ι ι' : List Addr} {H H' : Hp} {v : List IV} {u : List Value} (n : Nxt ι H ι' H') (r : RUs K ι H v u) : RUs K ι' H' v u :=
 let ⟨x, a, b⟩ := r; ⟨x, a, RVs.mono n _ _ b⟩
noncomputable abbrev REL (α β : Type) := W.Frag -> List Addr -> Hp -> α -> β -> Prop
noncomputable def RB : REL Bool Bool := fun _ _ _ b c => c = b
section
variable {α β γ δ : Type}
noncomputable def Kont (ce : Str -> Option Addr) (X : Cx) (R : REL α β) (pins : List (Addr × Obj)) (ι : List Addr) (σi : ISt) (σ : L2.St) (H : Hp) (r : Res α) (Q : β -> Shared -> Prop) (E : Value -> Shared -> Prop) : Prop :=
 match r with
 | .ok v h' => ∀ u s' H' ι', Now ce X pins ι' σi h' σ H' s' -> Nxt ι H ι' H' -> R X.K ι' H' v u -> Q u s'
 | .exc n h' => ∀ pl a s' H' ι', Now ce X (pins ++ pl) ι' σi h' σ H' s' -> Nxt ι H ι' H' -> ι'[n]? = some a -> E (.ref a) s'
 | .stuck => False
variable {ce : Str -> Option Addr} {X : Cx} {R : REL α β} {R' : REL γ δ} {pins : List (Addr × Obj)} {ι ι' : List Addr} {σi : ISt} {σ : L2.St} {H H' : Hp}
theorem Kont.mono {r : Res α} {Q : β -> Shared -> Prop} {E : Value -> Shared -> Prop} (k : Kont ce X R pins ι σi σ H r Q E) (n : Nxt ι H ι' H') : Kont ce X R pins ι' σi σ H' r Q E := by
 cases r with
 | ok v h' => exact fun u s' H2 ι2 N n2 q => k u s' H2 ι2 N (n.trans n2) q
 | exc m h' => exact fun pl a s' H2 ι2 N n2 q => k pl a s' H2 ι2 N (n.trans n2) q
 | stuck => exact k
noncomputable def PX (ce : Str -> Option Addr) (X : Cx) (R : REL α β) (t : Sem β) (m : ISt -> IH -> Res α) : Prop :=
 ∀ (pins : List (Addr × Obj)) (s : Shared) (σ : L2.St) (H : Hp) (ι : List Addr) (σi : ISt) (h : IH) (Q : β -> Shared -> Prop) (E : Value -> Shared -> Prop), Now ce X pins ι σi h σ H s -> Kont ce X R pins ι σi σ H (m σi h) Q E ->
  wpAny (model X.prog X.w) X.A t Q E s
theorem PX.run {t : Sem β} {m : ISt -> IH -> Res α} (p : PX ce X R t m) {s : Shared} {h : IH} (N : Now ce X pins ι σi h σ H s) {g : α -> IH -> Res γ} {Q : δ -> Shared -> Prop} {E : Value -> Shared -> Prop} {Q1 : β -> Shared -> Prop}
  (K : Kont ce X R' pins ι σi σ H ((m σi h).bind g) Q E)
  (step : ∀ x h1 u s1 H1 ι1, Now ce X pins ι1 σi h1 σ H1 s1 -> Nxt ι H ι1 H1 -> R X.K ι1 H1 x u -> Kont ce X R' pins ι1 σi σ H1 (g x h1) Q E -> Q1 u s1) : wpAny (model X.prog X.w) X.A t Q1 E s := by
 refine p pins s σ H ι σi h Q1 E N ?_
 cases e : m σi h with
 | ok v h' =>
  rw [e] at K
  exact fun u s' H' ι' N' n' r => step v h' u s' H' ι' N' n' r (Kont.mono (r := g v h') K n')
 | exc n h' =>
  rw [e] at K
  exact K
 | stuck =>
  rw [e] at K
  exact K
end
noncomputable abbrev PEi (ce : Str -> Option Addr) (X : Cx) (e : Expr) (m : ISt -> IH -> Res IV) : Prop := PX ce X RU (eval e X.env) m
noncomputable abbrev PTi (ce : Str -> Option Addr) (X : Cx) (e : Expr) (m : ISt -> IH -> Res Bool) : Prop := PX ce X RB (isTrue e X.env (eval e X.env)) m
noncomputable def PWi (ce : Str -> Option Addr) (X : Cx) (e : Expr) (m : ISt -> IH -> Res Bool) : Prop := ∀ whole : Sem Value, PX ce X RB (isTrue e X.env whole) m
noncomputable def PAi (ce : Str -> Option Addr) (X : Cx) (es : List Expr) (m : ISt -> IH -> Res (List IV)) : Prop := ∀ pos : Pos, PX ce X RUs (spliced (backTo pos (starEach es X.env))) m
noncomputable abbrev E1 := ISt -> IH -> Res IV
noncomputable abbrev T1 := ISt -> IH -> Res Bool
noncomputable abbrev A1 := ISt -> IH -> Res (List IV)
noncomputable def eVar (i : Nat) : E1 := fun σ h => match σ[i]? with | some (some v) => .ok v h | _ => .stuck
noncomputable def eC (v : IV) : E1 := fun _ h => .ok v h
noncomputable def eBin (f : IV -> IV -> IH -> Res IV) (a b : E1) : E1 := fun σ h => (a σ h).bind fun x h1 => (b σ h1).bind fun y h2 => f x y h2
noncomputable def eUn (f : IV -> IH -> Res IV) (a : E1) : E1 := fun σ h => (a σ h).bind fun x h1 => f x h1
noncomputable def eAnd (a b : E1) (tr : IV -> IH -> Res Bool) : E1 := fun σ h => (a σ h).bind fun x h1 => (tr x h1).bind fun c h2 => if c then b σ h2 else .ok x h2
noncomputable def eOr (a b : E1) (tr : IV -> IH -> Res Bool) : E1 := fun σ h => (a σ h).bind fun x h1 => (tr x h1).bind fun c h2 => if c then .ok x h2 else b σ h2
noncomputable def eIf (t : T1) (a b : E1) : E1 := fun σ h => (t σ h).bind fun c h1 => if c then a σ h1 else b σ h1
noncomputable def Jn0 (a b : T1) : T1 := fun σ h => (a σ h).bind fun c h1 => if c then b σ h1 else .ok false h1
noncomputable def tOrI (a b : T1) : T1 := fun σ h => (a σ h).bind fun c h1 => if c then .ok true h1 else b σ h1
noncomputable def Jbd (a : T1) : T1 := fun σ h => (a σ h).bind fun c h1 => .ok (!c) h1
noncomputable def tOfB (tr : IV -> IH -> Res Bool) (a : E1) : T1 := fun σ h => (a σ h).bind fun x h1 => tr x h1
noncomputable def aNil : A1 := fun _ h => .ok [] h
noncomputable def Ja (a : E1) (r : A1) : A1 := fun σ h => (a σ h).bind fun x h1 => (r σ h1).bind fun xs h2 => .ok (x :: xs) h2
noncomputable def Jfw (f g : IV -> IV -> IH -> Res IV) (a b c : E1) : E1 := fun σ h => (a σ h).bind fun x h1 => (b σ h1).bind fun y h2 => (f x y h2).bind fun k h3 =>
 match k with
 | .bl true => (c σ h3).bind fun z h4 => g y z h4
 | .bl false => .ok (.bl false) h3
 | _ => .stuck
section
variable {ce : Str -> Option Addr} {X : Cx} {a b c : Expr} {ma mb mc : E1} {pos : Pos}
noncomputable def OpI (ce : Str -> Option Addr) (X : Cx) (f : Value -> Value -> Sem Value) (g : IV -> IV -> IH -> Res IV) : Prop :=
 ∀ (pins : List (Addr × Obj)) (s : Shared) (σ : L2.St) (H : Hp) (ι : List Addr) (σi : ISt) (h : IH) (x y : IV) (v u : Value) (Q : Value -> Shared -> Prop) (E : Value -> Shared -> Prop), Now ce X pins ι σi h σ H s -> RU X.K ι H x v -> RU X.K ι H y u ->
  Kont ce X RU pins ι σi σ H (g x y h) Q E -> wpAny (model X.prog X.w) X.A (f v u) Q E s
noncomputable def UnI (ce : Str -> Option Addr) (X : Cx) (f : Value -> Sem Value) (g : IV -> IH -> Res IV) : Prop :=
 ∀ (pins : List (Addr × Obj)) (s : Shared) (σ : L2.St) (H : Hp) (ι : List Addr) (σi : ISt) (h : IH) (x : IV) (v : Value) (Q : Value -> Shared -> Prop) (E : Value -> Shared -> Prop), Now ce X pins ι σi h σ H s -> RU X.K ι H x v ->
  Kont ce X RU pins ι σi σ H (g x h) Q E -> wpAny (model X.prog X.w) X.A (f v) Q E s
noncomputable def TrI (ce : Str -> Option Addr) (X : Cx) (g : IV -> IH -> Res Bool) : Prop :=
 ∀ (pins : List (Addr × Obj)) (s : Shared) (σ : L2.St) (H : Hp) (ι : List Addr) (σi : ISt) (h : IH) (x : IV) (v : Value) (Q : Bool -> Shared -> Prop) (E : Value -> Shared -> Prop), Now ce X pins ι σi h σ H s -> RU X.K ι H x v ->
  Kont ce X RB pins ι σi σ H (g x h) Q E -> wpAny (model X.prog X.w) X.A (truthy v) Q E s
noncomputable def Jkj (ce : Str -> Option Addr) (X : Cx) (f : Value) (g : List IV -> IH -> Res IV) : Prop :=
 ∀ (pins : List (Addr × Obj)) (s : Shared) (σ : L2.St) (H : Hp) (ι : List Addr) (σi : ISt) (h : IH) (xs : List IV) (us : List Value) (Q : Value -> Shared -> Prop) (E : Value -> Shared -> Prop), Now ce X pins ι σi h σ H s -> RUs X.K ι H xs us ->
  Kont ce X RU pins ι σi σ H (g xs h) Q E -> wpAny (model X.prog X.w) X.A (call f us) Q E s
theorem Jlk {pins : List (Addr × Obj)} {s : Shared} {σ : L2.St} {H : Hp} {Q : Value -> Shared -> Prop} {E : Value -> Shared -> Prop} {e : Expr} {t : TE} (p : PE (X.wish E) e t) (I : Inv X pins σ H s)
  (k : t σ H fun z H' => ∀ u s', Inv X pins σ H' s' -> RelV z u -> Q u s') : wpAny (model X.prog X.w) X.A (eval e X.env) Q E s :=
 wpAny_mono (p pins s σ H _ (I.wish E) k) (fun u s' ⟨_, _, I', r, q⟩ => q u s' I'.unwish r) fun _ _ z => z
theorem Jb8 {pins : List (Addr × Obj)} {s : Shared} {σ : L2.St} {H : Hp} {Q : Value -> Shared -> Prop} {E : Value -> Shared -> Prop} {f : Value -> Value -> Sem Value} {r : R2} {x y : V} {v u : Value} (p : OpR (X.wish E) f r) (I : Inv X pins σ H s) (rx : RelV x v) (ry : RelV y u)
  (k : r x y H fun z H' => ∀ u s', Inv X pins σ H' s' -> RelV z u -> Q u s') : wpAny (model X.prog X.w) X.A (f v u) Q E s :=
 wpAny_mono (p pins s σ H x y v u _ (I.wish E) rx ry k) (fun u s' ⟨_, _, I', r, q⟩ => q u s' I'.unwish r) fun _ _ z => z
theorem J0l {pins : List (Addr × Obj)} {s : Shared} {σ : L2.St} {H : Hp} {Q : Value -> Shared -> Prop} {E : Value -> Shared -> Prop} {f : Value -> Sem Value} {r : V -> Hp -> VK -> Prop} {x : V} {v : Value} (p : UnR (X.wish E) f r) (I : Inv X pins σ H s) (rx : RelV x v)
  (k : r x H fun z H' => ∀ u s', Inv X pins σ H' s' -> RelV z u -> Q u s') : wpAny (model X.prog X.w) X.A (f v) Q E s :=
 wpAny_mono (p pins s σ H x v _ (I.wish E) rx k) (fun u s' ⟨_, _, I', r, q⟩ => q u s' I'.unwish r) fun _ _ z => z
theorem Jf7 {pins : List (Addr × Obj)} {s : Shared} {σ : L2.St} {H : Hp} {Q : Bool -> Shared -> Prop} {E : Value -> Shared -> Prop} {r : V -> Hp -> (Bool -> Hp -> Prop) -> Prop} {x : V} {v : Value} (p : TruR (X.wish E) r) (I : Inv X pins σ H s) (rx : RelV x v)
  (k : r x H fun z H' => ∀ s', Inv X pins σ H' s' -> Q z s') : wpAny (model X.prog X.w) X.A (truthy v) Q E s :=
 wpAny_mono (p pins s σ H x v _ (I.wish E) rx k) (fun _ s' ⟨_, I', q⟩ => q s' I'.unwish) fun _ _ z => z
theorem Ja7 {pins : List (Addr × Obj)} {s : Shared} {σ : L2.St} {H : Hp} {Q : Value -> Shared -> Prop} {E : Value -> Shared -> Prop} {f : Value} {r : List V -> Hp -> VK -> Prop} {xs : List V} {us : List Value} (p : Jki (X.wish E) f r) (I : Inv X pins σ H s) (rx : Vals xs us)
  (k : r xs H fun z H' => ∀ u s', Inv X pins σ H' s' -> RelV z u -> Q u s') : wpAny (model X.prog X.w) X.A (call f us) Q E s :=
 wpAny_mono (p pins s σ H xs us _ (I.wish E) rx k) (fun u s' ⟨_, _, I', r, q⟩ => q u s' I'.unwish r) fun _ _ z => z
theorem J1z (i : Nat) {x : Str} {pos : Pos} (hN : X.N[i]? = some x := by rfl) (hv : Vis X.env.scope x := by assumption) (hd : (x == ("__debug__" : Str)) = false := by decide)
  (hcd : (x == ("__classdict__" : Str)) = false := by decide) : PEi ce X (.Name x pos) (eVar i) := by
 intro pins s σ H ι σi h Q E N K
 unfold eVar at K
 cases e : σi[i]? with
 | none =>
  rw [e] at K
  exact Zf K
 | some o =>
  cases o with
  | none =>
   rw [e] at K
   exact Zf K
  | some v =>
   rw [e] at K
   obtain ⟨u, e1, q⟩ := N.st.at_ i v e
   exact Jlk (J1r (X := X.wish E) hN hv hd hcd) N.inv ⟨u, e1, fun u' s' I' r' => K u' s' H ι ⟨I', N.rel, N.st⟩ .refl ⟨u, r', q⟩⟩
theorem J12 {i j pos} : PEi ce X (.Constant (.int i) j pos) (eC (.int i)) := fun _ _ _ H ι _ _ _ E N K => Jlk (J1a (X := X.wish E)) N.inv fun u' s' I' r' => K u' s' H ι ⟨I', N.rel, N.st⟩ .refl ⟨_, r', rfl⟩
theorem i_bl {i j pos} : PEi ce X (.Constant (.bool i) j pos) (eC (.bl i)) := fun _ _ _ H ι _ _ _ E N K => Jlk (pe_bl (X := X.wish E)) N.inv fun u' s' I' r' => K u' s' H ι ⟨I', N.rel, N.st⟩ .refl ⟨_, r', rfl⟩
theorem J0g {j pos} : PEi ce X (.Constant .none j pos) (eC .non) := fun _ _ _ H ι _ _ _ E N K => Jlk (J1p (X := X.wish E)) N.inv fun u' s' I' r' => K u' s' H ι ⟨I', N.rel, N.st⟩ .refl ⟨_, r', rfl⟩
theorem J1q {i j pos} : PEi ce X (.Constant (.str i) j pos) (eC (.str i)) := fun _ _ _ H ι _ _ _ E N K => Jlk (J0p (X := X.wish E)) N.inv fun u' s' I' r' => K u' s' H ι ⟨I', N.rel, N.st⟩ .refl ⟨_, r', rfl⟩
theorem J0r {x : Str} {v : V} {iv : IV} {u : Value} {pos : Pos} (hg : Gl X x) (hm : X.mg x = some u) (r : RelV v u) (q : ∀ ι H, RV X.K ι H iv v) (hd : (x == ("__debug__" : Str)) = false := by decide) : PEi ce X (.Name x pos) (eC iv) :=
 fun _ _ _ H ι _ _ _ E N K => Jlk (Jxt (X := X.wish E) hg hm r hd) N.inv fun u' s' I' r' => K u' s' H ι ⟨I', N.rel, N.st⟩ .refl ⟨_, r', q _ _⟩
theorem i_bin {op : Operator} {f : IV -> IV -> IH -> Res IV} (ho : OpI ce X (binaryOp op) f) (ha : PEi ce X a ma) (hb : PEi ce X b mb) : PEi ce X (.BinOp a op b pos) (eBin f ma mb) :=
 fun pins s σ H ι σi h Q E N K => wpAny_BinOp (ha.run N K fun x h1 u s1 H1 ι1 N1 n1 r1 K1 => hb.run N1 K1 fun y h2 w s2 H2 ι2 N2 n2 r2 K2 => ho pins s2 σ H2 ι2 σi h2 x y u w Q E N2 (r1.mono n2) r2 K2)
theorem i_un {op : UnaryOp} {f : IV -> IH -> Res IV} (ho : UnI ce X (unaryOp op) f) (ha : PEi ce X a ma) : PEi ce X (.UnaryOp op a pos) (eUn f ma) :=
 fun pins s σ H ι σi h Q E N K => UnaryOp_ (ha.run N K fun x h1 u s1 H1 ι1 N1 n1 r1 K1 => ho pins s1 σ H1 ι1 σi h1 x u Q E N1 r1 K1)
theorem i_cmp {op : CmpOp} {f : IV -> IV -> IH -> Res IV} (ho : OpI ce X (compareOp op) f) (ha : PEi ce X a ma) (hb : PEi ce X b mb) (hm : behindInMarks op b = false := by assumption) : PEi ce X (.Compare a [op] [b] pos) (eBin f ma mb) :=
 fun pins s σ H ι σi h Q E N K => wpAny_Compare1 (ha.run N K fun x h1 u s1 H1 ι1 N1 n1 r1 K1 => hb.run N1 K1 fun y h2 w s2 H2 ι2 N2 n2 r2 K2 => ho pins s2 σ H2 ι2 σi h2 x y u w Q E N2 (r1.mono n2) r2 K2) hm
noncomputable def asB : IV -> IH -> Res Bool
 | .bl b, h => .ok b h
 | _, _ => .stuck
theorem Kont.asB {pins : List (Addr × Obj)} {σ : L2.St} {H : Hp} {ι : List Addr} {σi : ISt} {r : Res IV} {Q : Bool -> Shared -> Prop} {E : Value -> Shared -> Prop} (K : Kont ce X RB pins ι σi σ H (r.bind asB) Q E) :
  Kont ce X RU pins ι σi σ H r (fun v s => wpAny (model X.prog X.w) X.A (truthy v) Q E s) E := by
 cases r with
 | exc n h => exact K
 | stuck => exact K
 | ok v h =>
  intro u s' H' ι' N n q
  obtain ⟨x, rx, q⟩ := q
  cases v with
  | bl b =>
   have e : x = .bl b := q
   subst e
   cases rx
   exact wpAny_truthy_bool (K b s' H' ι' N n rfl)
  | _ => exact Zf K
theorem Res.bind_bind {α β γ : Type} (r : Res α) (f : α -> IH -> Res β) (g : β -> IH -> Res γ) : (r.bind f).bind g = r.bind fun x h => (f x h).bind g := by
 cases r <;> rfl
theorem t_cmp {op : CmpOp} {f : IV -> IV -> IH -> Res IV} (ho : OpI ce X (compareOp op) f) (ha : PEi ce X a ma) (hb : PEi ce X b mb) (hm : behindInMarks op b = false := by assumption) : PTi ce X (.Compare a [op] [b] pos) (tOfB asB (eBin f ma mb)) :=
 fun pins s σ H ι σi h Q E N K => by
  have K' : Kont ce X RB pins ι σi σ H ((ma σi h).bind fun x h1 => (mb σi h1).bind fun y h2 => (f x y h2).bind asB) Q E := by
   unfold tOfB eBin at K
   rw [Res.bind_bind] at K
   simp only [Res.bind_bind] at K
   exact K
  exact wpAny_isTrue_Compare1 (ha.run N K' fun x h1 u s1 H1 ι1 N1 n1 r1 K1 => hb.run N1 K1 fun y h2 w s2 H2 ι2 N2 n2 r2 K2 => ho pins s2 σ H2 ι2 σi h2 x y u w _ E N2 (r1.mono n2) r2 (Kont.asB K2)) hm
theorem Jyp {tr : IV -> IH -> Res Bool} (ht : TrI ce X tr) (ha : PEi ce X a ma) (he : ∀ whole, isTrue a X.env whole = (do let v <- whole; standAt a.pos; holding [v] (truthy v)) := by intro _; rfl) : PTi ce X a (tOfB tr ma) :=
 fun pins s σ H ι σi h Q E N K => isTrue_plain (ha.run N K fun x h1 u s1 H1 ι1 N1 n1 r1 K1 => ht pins s1 σ H1 ι1 σi h1 x u Q E N1 r1 K1) (he _)
variable {rest : List Expr} {ta tb : T1}
theorem Jx0 (ha : PTi ce X a ta) : PWi ce X (.BoolOp .And [a] pos) ta := fun wh pins s σ H ι σi h Q E N K => by
 refine isTrue_and (ha pins s σ H ι σi h _ E N ?_)
 cases e : ta σi h with
 | ok v h' =>
  rw [e] at K
  intro u s' H' ι' N' n' r
  have r' : u = v := r
  subst r'
  cases u with
  | true => exact isTrue_and_nil (K true s' H' ι' N' n' rfl)
  | false => exact K false s' H' ι' N' n' rfl
 | exc n h' => rw [e] at K; exact K
 | stuck => rw [e] at K; exact K
theorem J03 (ha : PTi ce X a ta) : PWi ce X (.BoolOp .Or [a] pos) ta := fun wh pins s σ H ι σi h Q E N K => by
 refine isTrue_or (ha pins s σ H ι σi h _ E N ?_)
 cases e : ta σi h with
 | ok v h' =>
  rw [e] at K
  intro u s' H' ι' N' n' r
  have r' : u = v := r
  subst r'
  cases u with
  | false => exact isTrue_or_nil (K false s' H' ι' N' n' rfl)
  | true => exact K true s' H' ι' N' n' rfl
 | exc n h' => rw [e] at K; exact K
 | stuck => rw [e] at K; exact K
theorem Jz8 (ha : PTi ce X a ta) (hb : PWi ce X (.BoolOp .And (b :: rest) pos) tb) : PWi ce X (.BoolOp .And (a :: b :: rest) pos) (Jn0 ta tb) := fun wh pins s σ H ι σi h Q E N K =>
 isTrue_and (ha.run N K fun c h1 u s1 H1 ι1 N1 n1 r1 K1 => by
  have r' : u = c := r1
  subst r'
  cases u with
  | true => exact hb wh pins s1 σ H1 ι1 σi h1 Q E N1 K1
  | false => exact K1 false s1 H1 ι1 N1 .refl rfl)
theorem tw_or (ha : PTi ce X a ta) (hb : PWi ce X (.BoolOp .Or (b :: rest) pos) tb) : PWi ce X (.BoolOp .Or (a :: b :: rest) pos) (tOrI ta tb) := fun wh pins s σ H ι σi h Q E N K =>
 isTrue_or (ha.run N K fun c h1 u s1 H1 ι1 N1 n1 r1 K1 => by
  have r' : u = c := r1
  subst r'
  cases u with
  | false => exact hb wh pins s1 σ H1 ι1 σi h1 Q E N1 K1
  | true => exact K1 true s1 H1 ι1 N1 .refl rfl)
theorem PWi.t (h : PWi ce X a ta) : PTi ce X a ta := h _
theorem J1y (ha : PTi ce X a ta) : PTi ce X (.UnaryOp .Not a pos) (Jbd ta) := fun pins s σ H ι σi h Q E N K =>
 isTrue_not (ha.run N K fun c h1 u s1 H1 ι1 N1 n1 r1 K1 => by
  have r' : u = c := r1
  subst r'
  exact K1 (!u) s1 H1 ι1 N1 .refl rfl)
theorem J1o {op} (h : PEi ce X a ma) : PEi ce X (.BoolOp op [a] pos) ma := fun pins s σ H ι σi h' Q E N K => BoolOp_one (h pins s σ H ι σi h' Q E N K)
theorem i_and {tr : IV -> IH -> Res Bool} (ht : TrI ce X tr) (ha : PEi ce X a ma) (hb : PEi ce X (.BoolOp .And (b :: rest) pos) mb) : PEi ce X (.BoolOp .And (a :: b :: rest) pos) (eAnd ma mb tr) := fun pins s σ H ι σi h Q E N K =>
 BoolOp_and (ha.run N K fun x h1 u s1 H1 ι1 N1 n1 r1 K1 => by
  refine ht pins s1 σ H1 ι1 σi h1 x u _ E N1 r1 ?_
  cases e : tr x h1 with
  | ok c h2 =>
   rw [e] at K1
   intro d s2 H2 ι2 N2 n2 r2
   have r' : d = c := r2
   subst r'
   have K2 := Kont.mono (r := if d = true then mb σi h2 else .ok x h2) K1 n2
   cases d with
   | true => exact hb pins s2 σ H2 ι2 σi h2 Q E N2 K2
   | false => exact K2 u s2 H2 ι2 N2 .refl (r1.mono n2)
  | exc n h' => rw [e] at K1; exact K1
  | stuck => rw [e] at K1; exact K1)
theorem i_or {tr : IV -> IH -> Res Bool} (ht : TrI ce X tr) (ha : PEi ce X a ma) (hb : PEi ce X (.BoolOp .Or (b :: rest) pos) mb) : PEi ce X (.BoolOp .Or (a :: b :: rest) pos) (eOr ma mb tr) := fun pins s σ H ι σi h Q E N K =>
 BoolOp_or (ha.run N K fun x h1 u s1 H1 ι1 N1 n1 r1 K1 => by
  refine ht pins s1 σ H1 ι1 σi h1 x u _ E N1 r1 ?_
  cases e : tr x h1 with
  | ok c h2 =>
   rw [e] at K1
   intro d s2 H2 ι2 N2 n2 r2
   have r' : d = c := r2
   subst r'
   have K2 := Kont.mono (r := if d = true then .ok x h2 else mb σi h2) K1 n2
   cases d with
   | false => exact hb pins s2 σ H2 ι2 σi h2 Q E N2 K2
   | true => exact K2 u s2 H2 ι2 N2 .refl (r1.mono n2)
  | exc n h' => rw [e] at K1; exact K1
  | stuck => rw [e] at K1; exact K1)
noncomputable def Jpa (tr : IV -> IH -> Res Bool) : IV -> IH -> Res IV := fun x h => (tr x h).bind fun c h1 => .ok (.bl (!c)) h1
theorem Jyd {tr : IV -> IH -> Res Bool} (ht : TrI ce X tr) : UnI ce X (unaryOp .Not) (Jpa tr) := fun pins s σ H ι σi h x v Q E N r K => by
 refine not_of (ht pins s σ H ι σi h x v _ E N r ?_)
 unfold Jpa at K
 cases e : tr x h with
 | ok c h2 =>
  rw [e] at K
  intro d s2 H2 ι2 N2 n2 r2
  have r' : d = c := r2
  subst r'
  exact K _ s2 H2 ι2 N2 n2 ⟨.bl (!d), rfl, rfl⟩
 | exc n h' => rw [e] at K; exact K
 | stuck => rw [e] at K; exact K
theorem Jxr {t : Expr} {mt : T1} (ht : PTi ce X t mt) (ha : PEi ce X a ma) (hb : PEi ce X b mb) : PEi ce X (.IfExp t a b pos) (eIf mt ma mb) := fun pins s σ H ι σi h Q E N K =>
 wpAny_IfExp (ht.run N K fun c h1 u s1 H1 ι1 N1 n1 r1 K1 => by
  have r' : u = c := r1
  subst r'
  cases u with
  | true => exact ha pins s1 σ H1 ι1 σi h1 Q E N1 K1
  | false => exact hb pins s1 σ H1 ι1 σi h1 Q E N1 K1)
theorem Jye {op op' : CmpOp} {f g : IV -> IV -> IH -> Res IV} (ho : OpI ce X (compareOp op) f) (ho' : OpI ce X (compareOp op') g) (ha : PEi ce X a ma) (hb : PEi ce X b mb) (hc : PEi ce X c mc)
  (hm : lastMarks [op, op'] [b, c] = false := by with_unfolding_all rfl) : PEi ce X (.Compare a [op, op'] [b, c] pos) (Jfw f g ma mb mc) := fun pins s σ H ι σi h Q E N K =>
 Compare_chain (ha.run N K fun x h1 u s1 H1 ι1 N1 n1 r1 K1 => chain_link (hb.run N1 K1 fun y h2 w s2 H2 ι2 N2 n2 r2 K2 => by
  refine ho pins s2 σ H2 ι2 σi h2 x y u w _ E N2 (r1.mono n2) r2 ?_
  cases e : f x y h2 with
  | exc n h' => rw [e] at K2; exact K2
  | stuck => rw [e] at K2; exact K2
  | ok k h3 =>
   rw [e] at K2
   intro d s3 H3 ι3 N3 n3 r3
   obtain ⟨z, rz, q⟩ := r3
   cases k with
   | bl k =>
    have e' : z = .bl k := q
    subst e'
    cases rz
    refine wpAny_truthy_bool ?_
    have K3 := Kont.mono (r := match IV.bl k with | .bl true => (mc σi h3).bind fun z h4 => g y z h4 | .bl false => .ok (.bl false) h3 | _ => .stuck) K2 n3
    cases k with
    | false => exact ite_ff (K3 _ s3 H3 ι3 N3 .refl ⟨.bl false, rfl, rfl⟩)
    | true => exact ite_tt (chain_last (hc.run N3 K3 fun z h4 w' s4 H4 ι4 N4 n4 r4 K4 => ho' pins s4 σ H4 ι4 σi h4 y z w w' Q E N4 ((r2.mono n3).mono n4) r4 K4))
   | _ => exact Zf K2)) hm
theorem Jzi {op op' : CmpOp} {f g : IV -> IV -> IH -> Res IV} (ho : OpI ce X (compareOp op) f) (ho' : OpI ce X (compareOp op') g) (ha : PEi ce X a ma) (hb : PEi ce X b mb) (hc : PEi ce X c mc)
  (hm : lastMarks [op, op'] [b, c] = false := by with_unfolding_all rfl) : PTi ce X (.Compare a [op, op'] [b, c] pos) (tOfB asB (Jfw f g ma mb mc)) := fun pins s σ H ι σi h Q E N K => by
 have K' : Kont ce X RB pins ι σi σ H ((ma σi h).bind fun x h1 => (mb σi h1).bind fun y h2 => (f x y h2).bind fun k h3 => (match k with | .bl true => (mc σi h3).bind fun z h4 => g y z h4 | .bl false => .ok (.bl false) h3 | _ => .stuck : Res IV).bind asB) Q E := by
  unfold tOfB Jfw at K
  rw [Res.bind_bind] at K
  simp only [Res.bind_bind] at K
  exact K
 refine isTrue_chain (ha.run N K' fun x h1 u s1 H1 ι1 N1 n1 r1 K1 => test_link (hb.run N1 K1 fun y h2 w s2 H2 ι2 N2 n2 r2 K2 => ?_)) hm
 refine ho pins s2 σ H2 ι2 σi h2 x y u w _ E N2 (r1.mono n2) r2 ?_
 cases e : f x y h2 with
 | exc n h' => rw [e] at K2; exact K2
 | stuck => rw [e] at K2; exact K2
 | ok k h3 =>
  rw [e] at K2
  intro d s3 H3 ι3 N3 n3 r3
  obtain ⟨z, rz, q⟩ := r3
  cases k with
  | bl k =>
   have e' : z = .bl k := q
   subst e'
   cases rz
   refine wpAny_truthy_bool ?_
   have K3 := Kont.mono (r := (match IV.bl k with | .bl true => (mc σi h3).bind fun z h4 => g y z h4 | .bl false => .ok (.bl false) h3 | _ => .stuck : Res IV).bind asB) K2 n3
   cases k with
   | false => exact ite_ff (K3 _ s3 H3 ι3 N3 .refl rfl)
   | true =>
    have K3' : Kont ce X RB pins ι3 σi σ H3 ((mc σi h3).bind fun z h4 => (g y z h4).bind asB) Q E := by
     have := K3
     dsimp only at this
     rw [Res.bind_bind] at this
     exact this
    exact ite_tt (test_last (hc.run N3 K3' fun z h4 w' s4 H4 ι4 N4 n4 r4 K4 => ho' pins s4 σ H4 ι4 σi h4 y z w w' _ E N4 ((r2.mono n3).mono n4) r4 (Kont.asB K4)))
  | _ => exact Zf K2
variable {es : List Expr} {mr : A1}
theorem RUs.nil {K : W.Frag} {ι : List Addr} {H : Hp} : RUs K ι H [] [] := ⟨[], .nil, rfl⟩
theorem RUs.cons {K : W.Frag} {ι : List Addr} {H : Hp} {x : IV} {u : Value} {xs : List IV} {us : List Value} (a : RU K ι H x u) (b : RUs K ι H xs us) : RUs K ι H (x :: xs) (u :: us) :=
 let ⟨v, r, q⟩ := a; let ⟨vs, rs, qs⟩ := b; ⟨v :: vs, .cons r rs, v, vs, rfl, q, qs⟩
theorem Jmv : PAi ce X [] aNil := fun _ pins s σ H ι σi h Q E N K => Calls.spliced_nil (K [] s H ι N .refl .nil)
theorem Jgx (ha : PEi ce X a ma) (hr : PAi ce X es mr) (hs : starEach (a :: es) X.env = (false, eval a X.env) :: starEach es X.env := by rfl) : PAi ce X (a :: es) (Ja ma mr) := by
 intro pos pins s σ H ι σi h Q E N K
 rw [hs]
 show wpAny _ _ (spliced ((false, eval a X.env) :: backTo pos (starEach es X.env))) _ _ s
 exact Calls.spliced_cons (ha.run N K fun x h1 u s1 H1 ι1 N1 n1 r1 K1 => (hr pos).run N1 K1 fun xs h2 us s2 H2 ι2 N2 n2 r2 K2 => K2 _ s2 H2 ι2 N2 .refl (.cons (r1.mono n2) r2))
end
end L3
namespace L3
open PySem PySem.Spec PyProof.Rows L2
noncomputable def Jam : IV -> IV -> IH -> Res IV
 | .int i, .int j, h => .ok (.int (i + j)) h
 | .str x, .str y, h => if x.length + y.length <= sizeLine then .ok (.str (x ++ y)) h else .stuck
 | .ref i, .ref j, h => match h[i]?, h[j]? with
  | some (.lst xs), some (.lst ys) => if xs.length + ys.length <= sizeLine then .ok (.ref h.length) (h ++ [.lst (xs ++ ys)]) else .stuck
  | _, _ => .stuck
 | .tup xs, .tup ys, h => if xs ≠ [] /\ ys ≠ [] /\ xs.length + ys.length <= sizeLine then .ok (.tup (xs ++ ys)) h else .stuck
 | _, _, _ => .stuck
noncomputable def Jl5 : IV -> IV -> IH -> Res IV
 | .int i, .int j, h => .ok (.int (i - j)) h
 | _, _, _ => .stuck
noncomputable def Jat (i j : Int) : Prop := i.natAbs < 2 ^ 64 ∨ j.natAbs < 2 ^ 64 ∨ (i.natAbs.log2 < 1048576 /\ j.natAbs.log2 < 1048576)
noncomputable instance (i j : Int) : Decidable (Jat i j) := by unfold Jat; exact inferInstance
noncomputable def Jro : IV -> IV -> IH -> Res IV
 | .int i, .int j, h => if Jat i j then .ok (.int (i * j)) h else .stuck
 | .ref i, .int k, h => match h[i]? with
  | some (.lst xs) => if -(2 ^ 63) <= k /\ k < 2 ^ 63 /\ xs.length * k.toNat <= sizeLine then .ok (.ref h.length) (h ++ [.lst (List.replicate k.toNat xs).flatten]) else .stuck
  | _ => .stuck
 | _, _, _ => .stuck
noncomputable def Jdb : IV -> IV -> IH -> Res IV
 | .int i, .int j, h => if 0 < j /\ j.natAbs.log2 < 9000 then .ok (.int (i / j)) h else .stuck
 | _, _, _ => .stuck
noncomputable def Jbj : IV -> IV -> IH -> Res IV
 | .int i, .int j, h => if 0 < j then .ok (.int (i % j)) h else .stuck
 | _, _, _ => .stuck
noncomputable def Jkx : IV -> IV -> IH -> Res IV
 | .int i, .int j, h => if 0 <= j /\ j <= 1000000 /\ i.natAbs < 2 ^ 64 then .ok (.int (i ^ j.toNat)) h else .stuck
 | _, _, _ => .stuck
noncomputable def Jvy : IV -> IH -> Res IV
 | .int i, h => .ok (.int (-i)) h
 | _, _ => .stuck
section
variable {ce : Str -> Option Addr} {X : Cx}
theorem fin0 {pins : List (Addr × Obj)} {s : Shared} {σ : L2.St} {H : Hp} {ι : List Addr} {σi : ISt} {h : IH} {v : IV} {w : V} {Q : Value -> Shared -> Prop} {E : Value -> Shared -> Prop} (N : Now ce X pins ι σi h σ H s) (K : Kont ce X RU pins ι σi σ H (.ok v h) Q E)
  (q : RV X.K ι H v w) : ∀ u s', Inv X pins σ H s' -> RelV w u -> Q u s' := fun u s' I r => K u s' H ι ⟨I, N.rel, N.st⟩ .refl ⟨w, r, q⟩
theorem finA {pins : List (Addr × Obj)} {s : Shared} {σ : L2.St} {H : Hp} {ι : List Addr} {σi : ISt} {h : IH} {io : IO} {o : HO} {Q : Value -> Shared -> Prop} {E : Value -> Shared -> Prop} (N : Now ce X pins ι σi h σ H s)
  (K : Kont ce X RU pins ι σi σ H (.ok (.ref h.length) (h ++ [io])) Q E) (l : Addr) (e : H l = none) (r : RO ce X.K (ι ++ [l]) (upd H l o) l io) : ∀ u s', Inv X pins σ (upd H l o) s' -> RelV (.ref l) u -> Q u s' := fun u s' I ru => by
 obtain ⟨R, n⟩ := N.rel.alloc e r
 refine K u s' _ _ ⟨I, R, N.st.mono n⟩ n ⟨.ref l, ru, l, rfl, ?_⟩
 rw [<- N.rel.len, List.getElem?_append_right (Nat.le_refl _)]
 simp
theorem finT {pins : List (Addr × Obj)} {s : Shared} {σ : L2.St} {H : Hp} {ι : List Addr} {σi : ISt} {h : IH} {xs : List IV} {vs : List V} {Q : Value -> Shared -> Prop} {E : Value -> Shared -> Prop} (N : Now ce X pins ι σi h σ H s)
  (K : Kont ce X RU pins ι σi σ H (.ok (.tup xs) h) Q E) (l : Addr) (e : H l = none) (r : RVs X.K ι H xs vs) : ∀ u s', Inv X pins σ (upd H l (.tup vs)) s' -> RelV (.ref l) u -> Q u s' := fun u s' I ru => by
 obtain ⟨R, n⟩ := N.rel.grow (o := .tup vs) e
 exact K u s' _ _ ⟨I, R, N.st.mono n⟩ n ⟨.ref l, ru, l, vs, rfl, SqT.of Jk, RVs.mono n _ _ r⟩
theorem RVs.new {K : W.Frag} {ι : List Addr} {H : Hp} {l : Addr} {o : HO} (e : H l = none) {xs : List IV} {vs : List V} (r : RVs K ι H xs vs) : RVs K (ι ++ [l]) (upd H l o) xs vs := RVs.mono ⟨⟨[l], rfl⟩, Ext.upd_new e⟩ _ _ r
theorem Now.at {pins : List (Addr × Obj)} {s : Shared} {σ : L2.St} {H : Hp} {ι : List Addr} {σi : ISt} {h : IH} (N : Now ce X pins ι σi h σ H s) {i : Nat} {o : IO} (e : h[i]? = some o) {a : Addr} (ha : ι[i]? = some a) : RO ce X.K ι H a o := by
 obtain ⟨b, e1, r⟩ := N.rel.at_ i o e
 rw [ha] at e1
 cases e1
 exact r
theorem o_add : OpI ce X (binaryOp .Add) Jam := by
 intro pins s σ H ι σi h x y v u Q E N rx ry K
 obtain ⟨xv, rx, qx⟩ := rx
 obtain ⟨yv, ry, qy⟩ := ry
 cases x with
 | int i =>
  cases y with
  | int j =>
   have e1 : xv = .int i := qx
   have e2 : yv = .int j := qy
   subst e1 e2
   exact Jb8 (J08 (X := X.wish E)) N.inv rx ry ⟨i, j, rfl, rfl, fin0 N K rfl⟩
  | _ => exact Zf K
 | str i =>
  cases y with
  | str j =>
   have e1 : xv = .str i := qx
   have e2 : yv = .str j := qy
   subst e1 e2
   dsimp only [Jam] at K
   split at K
   ·rename_i hz
    exact Jb8 (Jsc (X := X.wish E)) N.inv rx ry ⟨i, j, rfl, rfl, hz, fin0 N K rfl⟩
   ·exact Zf K
  | _ => exact Zf K
 | tup xs =>
  cases y with
  | tup ys =>
   obtain ⟨a, vs, e1, sa, ra⟩ := qx
   obtain ⟨b, ws, e2, sb, rb⟩ := qy
   subst e1 e2
   dsimp only [Jam] at K
   split at K
   ·rename_i hz
    obtain ⟨h1, h2, h3⟩ := hz
    have n1 : vs ≠ [] := fun z => h1 (by have := ra.length; rw [z] at this; exact List.eq_nil_of_length_eq_zero this.symm)
    have n2 : ws ≠ [] := fun z => h2 (by have := rb.length; rw [z] at this; exact List.eq_nil_of_length_eq_zero this.symm)
    exact Jb8 (Jyc (X := X.wish E)) N.inv rx ry ⟨a, b, vs, ws, rfl, rfl, sa, sb, n1, by rw [ra.length, rb.length]; exact h3, fun z => absurd z n2, fun _ p hp => finT N K p hp (ra.append rb)⟩
   ·exact Zf K
  | _ => exact Zf K
 | ref i =>
  cases y with
  | ref j =>
   obtain ⟨a, e1, ha⟩ := qx
   obtain ⟨b, e2, hb⟩ := qy
   subst e1 e2
   dsimp only [Jam] at K
   cases hi : h[i]? with
   | none => rw [hi] at K; exact Zf K
   | some oi =>
    cases hj : h[j]? with
    | none => rw [hi, hj] at K; cases oi <;> exact Zf K
    | some oj =>
     rw [hi, hj] at K
     cases oi with
     | lst xs =>
      cases oj with
      | lst ys =>
       dsimp only at K
       split at K
       ·rename_i hz
        obtain ⟨vs, e1, r1⟩ := N.at hi ha
        obtain ⟨ws, e2, r2⟩ := N.at hj hb
        exact Jb8 (J00 (X := X.wish E)) N.inv rx ry ⟨a, b, vs, ws, rfl, rfl, e1, e2, by rw [r1.length, r2.length]; exact hz, fun p hp => finA N K p hp ⟨_, Jk, RVs.new hp (r1.append r2)⟩⟩
       ·exact Zf K
      | _ => exact Zf K
     | _ => exact Zf K
  | _ => exact Zf K
 | _ => cases y <;> exact Zf K
theorem o_sub : OpI ce X (binaryOp .Sub) Jl5 := by
 intro pins s σ H ι σi h x y v u Q E N rx ry K
 obtain ⟨xv, rx, qx⟩ := rx
 obtain ⟨yv, ry, qy⟩ := ry
 cases x with
 | int i =>
  cases y with
  | int j =>
   have e1 : xv = .int i := qx
   have e2 : yv = .int j := qy
   subst e1 e2
   exact Jb8 (J13 (X := X.wish E)) N.inv rx ry ⟨i, j, rfl, rfl, fin0 N K rfl⟩
  | _ => exact Zf K
 | _ => cases y <;> exact Zf K
theorem Jat.ok {i j : Int} (h : Jat i j) : IntMulOk i j := by
 rcases h with h | h | ⟨h1, h2⟩
 ·exact .of_left (intBits_le_64 (by omega) (by omega))
 ·exact .of_right (intBits_le_64 (by omega) (by omega))
 ·refine .of_bits ?_ ?_
  ·unfold Builtin.Int.intBits
   split
   ·exact Nat.zero_le _
   ·have : (2 : Nat) ^ 20 = 1048576 := by decide
    omega
  ·unfold Builtin.Int.intBits
   split
   ·exact Nat.zero_le _
   ·have : (2 : Nat) ^ 20 = 1048576 := by decide
    omega
theorem Jy6 : OpR X (binaryOp .Mult) (rI Jat fun i j => .int (i * j)) := opI fun _ _ _ _ _ _ _ hc q => mul_int q hc.ok
theorem o_mul : OpI ce X (binaryOp .Mult) Jro := by
 intro pins s σ H ι σi h x y v u Q E N rx ry K
 obtain ⟨xv, rx, qx⟩ := rx
 obtain ⟨yv, ry, qy⟩ := ry
 cases x with
 | int i =>
  cases y with
  | int j =>
   have e1 : xv = .int i := qx
   have e2 : yv = .int j := qy
   subst e1 e2
   dsimp only [Jro] at K
   split at K
   ·rename_i hz
    exact Jb8 (Jy6 (X := X.wish E)) N.inv rx ry ⟨i, j, rfl, rfl, hz, fin0 N K rfl⟩
   ·exact Zf K
  | _ => exact Zf K
 | ref i =>
  cases y with
  | int k =>
   obtain ⟨a, e1, ha⟩ := qx
   have e2 : yv = .int k := qy
   subst e1 e2
   dsimp only [Jro] at K
   cases hi : h[i]? with
   | none => rw [hi] at K; exact Zf K
   | some oi =>
    rw [hi] at K
    cases oi with
    | lst xs =>
     dsimp only at K
     split at K
     ·rename_i hz
      obtain ⟨vs, e1, r1⟩ := N.at hi ha
      have rr : ∀ n : Nat, RVs X.K ι H (List.replicate n xs).flatten (List.replicate n vs).flatten := fun n => by
       induction n with
       | zero => exact rfl
       | succ n ih =>
        rw [List.replicate_succ, List.replicate_succ, List.flatten_cons, List.flatten_cons]
        exact r1.append ih
      exact Jb8 (J0k (X := X.wish E)) N.inv rx ry ⟨a, k, vs, rfl, rfl, e1, hz.1, hz.2.1, by rw [r1.length]; exact hz.2.2, fun p hp => finA N K p hp ⟨_, Jk, RVs.new hp (rr _)⟩⟩
     ·exact Zf K
    | _ => exact Zf K
  | _ => exact Zf K
 | _ => cases y <;> exact Zf K
theorem Jvv : OpR X (binaryOp .FloorDiv) (rI (fun _ j => 0 < j /\ j.natAbs.log2 < 9000) fun i j => .int (i / j)) := opI fun i j _ _ _ _ _ hc q => by
 have h1 : (0 : Int) < j := hc.1
 exact floordiv_int (by omega) (by rw [Int.fdiv_eq_ediv_of_nonneg i (by omega)]; exact q) (.inl (PyProof.noPylong_of_log2 hc.2))
theorem J1l : OpI ce X (binaryOp .FloorDiv) Jdb := by
 intro pins s σ H ι σi h x y v u Q E N rx ry K
 obtain ⟨xv, rx, qx⟩ := rx
 obtain ⟨yv, ry, qy⟩ := ry
 cases x with
 | int i =>
  cases y with
  | int j =>
   have e1 : xv = .int i := qx
   have e2 : yv = .int j := qy
   subst e1 e2
   dsimp only [Jdb] at K
   split at K
   ·rename_i hz
    exact Jb8 (Jvv (X := X.wish E)) N.inv rx ry ⟨i, j, rfl, rfl, hz, fin0 N K rfl⟩
   ·exact Zf K
  | _ => exact Zf K
 | _ => cases y <;> exact Zf K
theorem o_mod : OpI ce X (binaryOp .Mod) Jbj := by
 intro pins s σ H ι σi h x y v u Q E N rx ry K
 obtain ⟨xv, rx, qx⟩ := rx
 obtain ⟨yv, ry, qy⟩ := ry
 cases x with
 | int i =>
  cases y with
  | int j =>
   have e1 : xv = .int i := qx
   have e2 : yv = .int j := qy
   subst e1 e2
   dsimp only [Jbj] at K
   split at K
   ·rename_i hz
    exact Jb8 (J0a (X := X.wish E)) N.inv rx ry ⟨i, j, rfl, rfl, hz, fin0 N K rfl⟩
   ·exact Zf K
  | _ => exact Zf K
 | _ => cases y <;> exact Zf K
theorem o_pow : OpI ce X (binaryOp .Pow) Jkx := by
 intro pins s σ H ι σi h x y v u Q E N rx ry K
 obtain ⟨xv, rx, qx⟩ := rx
 obtain ⟨yv, ry, qy⟩ := ry
 cases x with
 | int i =>
  cases y with
  | int j =>
   have e1 : xv = .int i := qx
   have e2 : yv = .int j := qy
   subst e1 e2
   dsimp only [Jkx] at K
   split at K
   ·rename_i hz
    exact Jb8 (J0t (X := X.wish E)) N.inv rx ry ⟨i, j, rfl, rfl, hz, fin0 N K rfl⟩
   ·exact Zf K
  | _ => exact Zf K
 | _ => cases y <;> exact Zf K
theorem u_neg : UnI ce X (unaryOp .USub) Jvy := by
 intro pins s σ H ι σi h x v Q E N rx K
 obtain ⟨xv, rx, qx⟩ := rx
 cases x with
 | int i =>
  have e1 : xv = .int i := qx
  subst e1
  exact J0l (J1s (X := X.wish E)) N.inv rx ⟨i, rfl, fin0 N K rfl⟩
 | _ => exact Zf K
noncomputable def cLt : IV -> IV -> IH -> Res IV
 | .int i, .int j, h => .ok (.bl (decide (i < j))) h
 | .str x, .str y, h => .ok (.bl (decide (x.cps.toList < y.cps.toList))) h
 | _, _, _ => .stuck
noncomputable def cLe : IV -> IV -> IH -> Res IV
 | .int i, .int j, h => .ok (.bl (decide (i <= j))) h
 | .str x, .str y, h => .ok (.bl (!decide (y.cps.toList < x.cps.toList))) h
 | _, _, _ => .stuck
noncomputable def cGt : IV -> IV -> IH -> Res IV
 | .int i, .int j, h => .ok (.bl (decide (j < i))) h
 | _, _, _ => .stuck
noncomputable def cGe : IV -> IV -> IH -> Res IV
 | .int i, .int j, h => .ok (.bl (decide (j <= i))) h
 | _, _, _ => .stuck
theorem o_lt : OpI ce X (compareOp .Lt) cLt := by
 intro pins s σ H ι σi h x y v u Q E N rx ry K
 obtain ⟨xv, rx, qx⟩ := rx
 obtain ⟨yv, ry, qy⟩ := ry
 cases x with
 | int i =>
  cases y with
  | int j =>
   have e1 : xv = .int i := qx
   have e2 : yv = .int j := qy
   subst e1 e2
   exact Jb8 (op_lt (X := X.wish E)) N.inv rx ry ⟨i, j, rfl, rfl, fin0 N K rfl⟩
  | _ => exact Zf K
 | str i =>
  cases y with
  | str j =>
   have e1 : xv = .str i := qx
   have e2 : yv = .str j := qy
   subst e1 e2
   exact Jb8 (Js1 (X := X.wish E)) N.inv rx ry ⟨i, j, rfl, rfl, fin0 N K rfl⟩
  | _ => exact Zf K
 | _ => cases y <;> exact Zf K
theorem o_le : OpI ce X (compareOp .LtE) cLe := by
 intro pins s σ H ι σi h x y v u Q E N rx ry K
 obtain ⟨xv, rx, qx⟩ := rx
 obtain ⟨yv, ry, qy⟩ := ry
 cases x with
 | int i =>
  cases y with
  | int j =>
   have e1 : xv = .int i := qx
   have e2 : yv = .int j := qy
   subst e1 e2
   exact Jb8 (op_le (X := X.wish E)) N.inv rx ry ⟨i, j, rfl, rfl, fin0 N K rfl⟩
  | _ => exact Zf K
 | str i =>
  cases y with
  | str j =>
   have e1 : xv = .str i := qx
   have e2 : yv = .str j := qy
   subst e1 e2
   obtain ⟨t, rfl⟩ := rx
   obtain ⟨t', rfl⟩ := ry
   exact PySem.P.le_str (fin0 N K rfl _ s N.inv rfl)
  | _ => exact Zf K
 | _ => cases y <;> exact Zf K
theorem o_gt : OpI ce X (compareOp .Gt) cGt := by
 intro pins s σ H ι σi h x y v u Q E N rx ry K
 obtain ⟨xv, rx, qx⟩ := rx
 obtain ⟨yv, ry, qy⟩ := ry
 cases x with
 | int i =>
  cases y with
  | int j =>
   have e1 : xv = .int i := qx
   have e2 : yv = .int j := qy
   subst e1 e2
   exact Jb8 (op_gt (X := X.wish E)) N.inv rx ry ⟨i, j, rfl, rfl, fin0 N K rfl⟩
  | _ => exact Zf K
 | _ => cases y <;> exact Zf K
theorem o_ge : OpI ce X (compareOp .GtE) cGe := by
 intro pins s σ H ι σi h x y v u Q E N rx ry K
 obtain ⟨xv, rx, qx⟩ := rx
 obtain ⟨yv, ry, qy⟩ := ry
 cases x with
 | int i =>
  cases y with
  | int j =>
   have e1 : xv = .int i := qx
   have e2 : yv = .int j := qy
   subst e1 e2
   exact Jb8 (op_ge (X := X.wish E)) N.inv rx ry ⟨i, j, rfl, rfl, fin0 N K rfl⟩
  | _ => exact Zf K
 | _ => cases y <;> exact Zf K
noncomputable def tru : IV -> IH -> Res Bool
 | .non, h => .ok false h
 | .bl b, h => .ok b h
 | .int i, h => .ok (i != 0) h
 | .str x, h => if x.length <= sizeLine then .ok ((x.length : Int) != 0) h else .stuck
 | .tup xs, h => .ok (!xs.isEmpty) h
 | .rol xs, h => .ok (!xs.isEmpty) h
 | .ref i, h => match h[i]? with
  | some (.lst xs) => .ok (!xs.isEmpty) h
  | some (.dct kvs) => .ok (!kvs.isEmpty) h
  | _ => .stuck
theorem RVs.empty {K : W.Frag} {ι : List Addr} {H : Hp} {xs : List IV} {vs : List V} (r : RVs K ι H xs vs) : vs.isEmpty = xs.isEmpty := by
 have := r.length
 cases xs <;> cases vs <;> simp_all
theorem RPs.empty {κ : Type} {K : W.Frag} {ι : List Addr} {H : Hp} {xs : List (κ × IV)} {vs : List (κ × V)} (r : RPs K ι H xs vs) : vs.isEmpty = xs.isEmpty := by
 have := r.length
 cases xs <;> cases vs <;> simp_all
theorem finB {pins : List (Addr × Obj)} {s : Shared} {σ : L2.St} {H : Hp} {ι : List Addr} {σi : ISt} {h : IH} {c : Bool} {Q : Bool -> Shared -> Prop} {E : Value -> Shared -> Prop} (N : Now ce X pins ι σi h σ H s) (K : Kont ce X RB pins ι σi σ H (.ok c h) Q E) :
  ∀ s', Inv X pins σ H s' -> Q c s' := fun s' I => K c s' H ι ⟨I, N.rel, N.st⟩ .refl rfl
theorem Jlm : TrI ce X tru := by
 intro pins s σ H ι σi h x v Q E N rx K
 obtain ⟨xv, rx, qx⟩ := rx
 cases x with
 | non =>
  have e1 : xv = .non := qx
  subst e1
  exact Jf7 (Jjo (X := X.wish E)) N.inv rx ⟨_, rfl, finB N K⟩
 | bl b =>
  have e1 : xv = .bl b := qx
  subst e1
  exact Jf7 (Jjo (X := X.wish E)) N.inv rx ⟨_, rfl, finB N K⟩
 | int i =>
  have e1 : xv = .int i := qx
  subst e1
  exact Jf7 (Jjo (X := X.wish E)) N.inv rx ⟨_, rfl, finB N K⟩
 | str y =>
  have e1 : xv = .str y := qx
  subst e1
  dsimp only [tru] at K
  split at K
  ·rename_i hz
   exact Jf7 (Jjo (X := X.wish E)) N.inv rx ⟨_, ⟨hz, rfl⟩, finB N K⟩
  ·exact Zf K
 | tup xs =>
  obtain ⟨a, vs, e1, sa, ra⟩ := qx
  subst e1
  exact Jf7 (Jjo (X := X.wish E)) N.inv rx ⟨!xs.isEmpty, .inr (.inl ⟨vs, sa, by rw [ra.empty]⟩), finB N K⟩
 | rol xs =>
  obtain ⟨a, vs, e1, sa, ra⟩ := qx
  subst e1
  exact Jf7 (Jjo (X := X.wish E)) N.inv rx ⟨!xs.isEmpty, .inl ⟨vs, sa.sq, by rw [ra.empty]⟩, finB N K⟩
 | ref i =>
  obtain ⟨a, e1, ha⟩ := qx
  subst e1
  dsimp only [tru] at K
  cases hi : h[i]? with
  | none => rw [hi] at K; exact Zf K
  | some oi =>
   rw [hi] at K
   cases oi with
   | lst xs =>
    obtain ⟨vs, e1, r1⟩ := N.at hi ha
    exact Jf7 (Jjo (X := X.wish E)) N.inv rx ⟨!xs.isEmpty, .inl ⟨vs, SqL.of e1, by rw [r1.empty]⟩, finB N K⟩
   | dct kvs =>
    obtain ⟨vs, e1, r1⟩ := N.at hi ha
    exact Jf7 (Jjo (X := X.wish E)) N.inv rx ⟨!kvs.isEmpty, .inr (.inr ⟨vs, e1, by rw [r1.empty]⟩), finB N K⟩
   | _ => exact Zf K
noncomputable def eTup (a : A1) : E1 := fun σ h => (a σ h).bind fun xs h1 => if xs.length <= sizeLine then .ok (.tup xs) h1 else .stuck
noncomputable def eLst (a : A1) : E1 := fun σ h => (a σ h).bind fun xs h1 => if xs.length <= sizeLine then .ok (.ref h1.length) (h1 ++ [.lst xs]) else .stuck
variable {es : List Expr} {mr : A1} {pos : Pos}
theorem J0n {x1} (hr : PAi ce X es mr) : PEi ce X (.Tuple es x1 pos) (eTup mr) := fun pins s σ H ι σi h Q E N K => by
 refine wpAny_Tuple_spliced ((hr pos).run N K fun xs h1 us s1 H1 ι1 N1 n1 r1 K1 => ?_)
 change Kont ce X RU pins ι1 σi σ H1 (if xs.length <= sizeLine then _ else _) Q E at K1
 split at K1
 ·rename_i hz
  obtain ⟨vs, rv, qs⟩ := r1
  have hl := rv.length
  have hl2 := qs.length
  have hf : H1 s1.heap.objs.size = none := N1.inv.hok.fresh (Nat.le_refl _)
  refine ⟨by rw [<- hl, hl2]; exact hz, ?_⟩
  exact finT N1 K1 s1.heap.objs.size hf qs _ _ (N1.inv.laid (t' := s1.toks) (fun b u e => Heap.get?_push_of_some _ e) (Nat.le_refl _) ⟨by rw [hl2]; exact hz, us, rv, ⟨_, Heap.get?_push_size _ rfl, rfl, _, rfl⟩⟩) rfl
 ·exact Zf K1
theorem J06 (hr : PAi ce X es mr) : PEi ce X (.List es pos) (eLst mr) := fun pins s σ H ι σi h Q E N K => by
 refine wpAny_List_spliced ((hr pos).run N K fun xs h1 us s1 H1 ι1 N1 n1 r1 K1 => ?_)
 change Kont ce X RU pins ι1 σi σ H1 (if xs.length <= sizeLine then _ else _) Q E at K1
 split at K1
 ·rename_i hz
  obtain ⟨vs, rv, qs⟩ := r1
  have hl := rv.length
  have hl2 := qs.length
  have hf : H1 s1.heap.objs.size = none := N1.inv.hok.fresh (Nat.le_refl _)
  refine ⟨by rw [<- hl, hl2]; exact hz, ?_⟩
  exact finA N1 K1 s1.heap.objs.size hf ⟨_, Jk, RVs.new hf qs⟩ _ _ (N1.inv.laid (t' := s1.toks) (fun b u e => Heap.get?_push_of_some _ e) (Nat.le_refl _) ⟨by rw [hl2]; exact hz, us, 0, rv, Heap.get?_push_size _ rfl⟩) rfl
 ·exact Zf K1
end
end L3
namespace L3
open PySem PySem.Spec PyProof.Rows L2
noncomputable abbrev S1 := ISt -> IH -> SRes
noncomputable def Jcj (ce : Str -> Option Addr) (X : Cx) (pins : List (Addr × Obj)) (ι : List Addr) (H : Hp) (r : SRes) (Q : Flow -> Shared -> Prop) (E : Value -> Shared -> Prop) : Prop :=
 match r with
 | .next σi' h' => ∀ s' σ' H' ι', Now ce X pins ι' σi' h' σ' H' s' -> Nxt ι H ι' H' -> Q .next s'
 | .brk σi' h' => ∀ s' σ' H' ι', Now ce X pins ι' σi' h' σ' H' s' -> Nxt ι H ι' H' -> Q .brk s'
 | .cont σi' h' => ∀ s' σ' H' ι', Now ce X pins ι' σi' h' σ' H' s' -> Nxt ι H ι' H' -> Q .cont s'
 | .ret v h' => ∀ u s' σi' σ' H' ι', Now ce X pins ι' σi' h' σ' H' s' -> Nxt ι H ι' H' -> RU X.K ι' H' v u -> Q (.ret u) s'
 | .exc n σi' h' => ∀ pl a s' σ' H' ι', Now ce X (pins ++ pl) ι' σi' h' σ' H' s' -> Nxt ι H ι' H' -> ι'[n]? = some a -> E (.ref a) s'
 | .stuck => False
theorem Jcj.mono {ce : Str -> Option Addr} {X : Cx} {pins : List (Addr × Obj)} {ι ι' : List Addr} {H H' : Hp} {r : SRes} {Q : Flow -> Shared -> Prop} {E : Value -> Shared -> Prop} (k : Jcj ce X pins ι H r Q E) (n : Nxt ι H ι' H') : Jcj ce X pins ι' H' r Q E := by
 cases r with
 | next σ h => exact fun s' σ' H2 ι2 N n2 => k s' σ' H2 ι2 N (n.trans n2)
 | brk σ h => exact fun s' σ' H2 ι2 N n2 => k s' σ' H2 ι2 N (n.trans n2)
 | cont σ h => exact fun s' σ' H2 ι2 N n2 => k s' σ' H2 ι2 N (n.trans n2)
 | ret v h => exact fun u s' σi' σ' H2 ι2 N n2 => k u s' σi' σ' H2 ι2 N (n.trans n2)
 | exc m σ h => exact fun pl a s' σ' H2 ι2 N n2 => k pl a s' σ' H2 ι2 N (n.trans n2)
 | stuck => exact k
noncomputable def PSi (ce : Str -> Option Addr) (X : Cx) (t : Sem Flow) (m : S1) : Prop :=
 ∀ (pins : List (Addr × Obj)) (s : Shared) (σ : L2.St) (H : Hp) (ι : List Addr) (σi : ISt) (h : IH) (Q : Flow -> Shared -> Prop) (E : Value -> Shared -> Prop), Now ce X pins ι σi h σ H s -> Jcj ce X pins ι H (m σi h) Q E -> wpAny (model X.prog X.w) X.A t Q E s
noncomputable abbrev PS1 (ce : Str -> Option Addr) (X : Cx) (st : Stmt) (m : S1) : Prop := PSi ce X (exec st X.env) m
noncomputable abbrev PS2 (ce : Str -> Option Addr) (X : Cx) (sts : List Stmt) (m : S1) : Prop := PSi ce X (execs sts X.env) m
noncomputable def sNil : S1 := fun σ h => .next σ h
noncomputable def sSeq (a b : S1) : S1 := fun σ h => match a σ h with
 | .next σ' h' => b σ' h'
 | r => r
noncomputable def Jvl : S1 := fun σ h => .next σ h
noncomputable def Jw6 : S1 := fun σ h => .brk σ h
noncomputable def J1c : S1 := fun σ h => .cont σ h
noncomputable def rS {α : Type} (σ : ISt) (r : Res α) (k : α -> IH -> SRes) : SRes := match r with
 | .ok a h => k a h
 | .exc n h => .exc n σ h
 | .stuck => .stuck
noncomputable def Jiq (e : E1) : S1 := fun σ h => rS σ (e σ h) fun _ h' => .next σ h'
noncomputable def sRet (e : E1) : S1 := fun σ h => rS σ (e σ h) fun v h' => .ret v h'
noncomputable def Jzx : S1 := fun _ h => .ret .non h
noncomputable def sIf (t : T1) (a b : S1) : S1 := fun σ h => rS σ (t σ h) fun c h' => if c then a σ h' else b σ h'
noncomputable def sSet (i : Nat) (e : E1) : S1 := fun σ h => rS σ (e σ h) fun v h' => .next (σ.set i (some v)) h'
section
variable {ce : Str -> Option Addr} {X : Cx} {st : Stmt} {rest : List Stmt} {m m1 m2 : S1} {e : Expr} {me : E1} {pos : Pos}
theorem krun {α β : Type} {R : REL α β} {t : Sem β} {mm : ISt -> IH -> Res α} (p : PX ce X R t mm) {pins : List (Addr × Obj)} {s : Shared} {σ : L2.St} {H : Hp} {ι : List Addr} {σi : ISt} {h : IH} (N : Now ce X pins ι σi h σ H s) {g : α -> IH -> SRes} {Q : Flow -> Shared -> Prop} {E : Value -> Shared -> Prop} {Q1 : β -> Shared -> Prop}
  (K : Jcj ce X pins ι H (rS σi (mm σi h) g) Q E)
  (step : ∀ x h1 u s1 H1 ι1, Now ce X pins ι1 σi h1 σ H1 s1 -> Nxt ι H ι1 H1 -> R X.K ι1 H1 x u -> Jcj ce X pins ι1 H1 (g x h1) Q E -> Q1 u s1) : wpAny (model X.prog X.w) X.A t Q1 E s := by
 refine p pins s σ H ι σi h Q1 E N ?_
 cases e : mm σi h with
 | ok v h' =>
  rw [e] at K
  exact fun u s' H' ι' N' n' r => step v h' u s' H' ι' N' n' r (Jcj.mono (r := g v h') K n')
 | exc n h' =>
  rw [e] at K
  exact fun pl a s' H' ι' N' n' q => K pl a s' σ H' ι' N' n' q
 | stuck =>
  rw [e] at K
  exact K
theorem J0v : PS2 ce X [] sNil := fun _ s σ H ι _ _ _ _ N K => wpAny_execs_nil (K s σ H ι N .refl)
theorem Jzo (h1 : PS1 ce X st m1) (h2 : PS2 ce X rest m2) : PS2 ce X (st :: rest) (sSeq m1 m2) := by
 intro pins s σ H ι σi h Q E N K
 refine wpAny_execs_cons (h1 pins s σ H ι σi h _ E N ?_)
 unfold sSeq at K
 cases e : m1 σi h with
 | next σ' h' =>
  rw [e] at K
  exact fun s' σ2 H' ι' N' n' => h2 pins s' σ2 H' ι' σ' h' Q E N' (Jcj.mono (r := m2 σ' h') K n')
 | brk σ' h' => rw [e] at K; exact K
 | cont σ' h' => rw [e] at K; exact K
 | ret v h' => rw [e] at K; exact K
 | exc n σ' h' => rw [e] at K; exact K
 | stuck => rw [e] at K; exact K
theorem J05 (h1 : PS1 ce X st m1) : PS2 ce X [st] m1 := by
 intro pins s σ H ι σi h Q E N K
 refine wpAny_execs_cons (h1 pins s σ H ι σi h _ E N ?_)
 cases e : m1 σi h with
 | next σ' h' =>
  rw [e] at K
  exact fun s' σ2 H' ι' N' n' => wpAny_execs_nil (K s' σ2 H' ι' N' n')
 | brk σ' h' => rw [e] at K; exact K
 | cont σ' h' => rw [e] at K; exact K
 | ret v h' => rw [e] at K; exact K
 | exc n σ' h' => rw [e] at K; exact K
 | stuck => rw [e] at K; exact K
theorem Jw2 : PS1 ce X (.Pass pos) Jvl := fun _ s σ H ι _ _ _ _ N K => wpAny_Pass (K s σ H ι N .refl)
theorem Jy2 : PS1 ce X (.Break pos) Jw6 := fun _ s σ H ι _ _ _ _ N K => wpAny_Break (K s σ H ι N .refl)
theorem J11 : PS1 ce X (.Continue pos) J1c := fun _ s σ H ι _ _ _ _ N K => wpAny_Continue (K s σ H ι N .refl)
theorem J1w (he : PEi ce X e me) (hs : swapsWith e none pos.line X.env = pure false := by rfl) : PS1 ce X (.Expr e pos) (Jiq me) := fun pins s σ H ι σi h Q E N K =>
 wpAny_Expr_any (krun he N K fun x h1 u s1 H1 ι1 N1 n1 r1 K1 => K1 s1 σ H1 ι1 N1 .refl) N.inv.quiet hs
theorem Jz9 (he : PEi ce X e me) : PS1 ce X (.Return (some e) pos) (sRet me) := fun pins s σ H ι σi h Q E N K =>
 wpAny_Return_some (krun he N K fun x h1 u s1 H1 ι1 N1 n1 r1 K1 => K1 u s1 σi σ H1 ι1 N1 .refl r1)
theorem Jz0 : PS1 ce X (.Return none pos) Jzx := fun pins s σ H ι σi h Q E N K => wpAny_Return_none (K .none s σi σ H ι N .refl ⟨.non, rfl, rfl⟩)
theorem s_if {c : Expr} {a b : List Stmt} {mt : T1} (hc : PTi ce X c mt) (ha : PS2 ce X a m1) (hb : PS2 ce X b m2) : PS1 ce X (.If c a b pos) (sIf mt m1 m2) := fun pins s σ H ι σi h Q E N K =>
 wpAny_If (krun hc N K fun x h1 u s1 H1 ι1 N1 n1 r1 K1 => by
  have r' : u = x := r1
  subst r'
  cases u with
  | true => exact ha pins s1 σ H1 ι1 σi h1 Q E N1 K1
  | false => exact hb pins s1 σ H1 ι1 σi h1 Q E N1 K1)
theorem Jxu {i : Nat} {x : Str} {pos' : Pos} (hN : X.N.Nodup) (he : PEi ce X e me) (hi : X.N[i]? = some x := by rfl) (hx : Loc X.env.scope x := by assumption) (hs : swapsWith e (some (.Name x pos')) pos.line X.env = pure false := by rfl)
  (hf : X.fn x = true ∨ X.env.scope.names.lookup x = some .local := by assumption) : PS1 ce X (.Assign [.Name x pos'] e pos) (sSet i me) := fun pins s σ H ι σi h Q E N K =>
 wpAny_Assign_Name (krun he N K fun v h1 u s1 H1 ι1 N1 n1 r1 K1 => by
  obtain ⟨w, rw', q⟩ := r1
  exact Jjz N1.inv hN hi hx rw' (fun s2 I2 => K1 s2 _ H1 ι1 ⟨I2, N1.rel, N1.st.set i q⟩ .refl) hf) hs
noncomputable abbrev G1 := IV -> ISt -> IH -> SRes
noncomputable def PGi (ce : Str -> Option Addr) (X : Cx) (tg : Expr) (g : G1) : Prop :=
 ∀ (pins : List (Addr × Obj)) (s : Shared) (σ : L2.St) (H : Hp) (ι : List Addr) (σi : ISt) (h : IH) (v : IV) (u : Value) (Q : Flow -> Shared -> Prop) (E : Value -> Shared -> Prop), Now ce X pins ι σi h σ H s -> RU X.K ι H v u -> Jcj ce X pins ι H (g v σi h) Q E ->
  wpAny (model X.prog X.w) X.A (assign tg X.env u) (fun _ s' => Q .next s') E s
noncomputable def gNm (i : Nat) : G1 := fun v σ h => .next (σ.set i (some v)) h
theorem g_nm {i : Nat} {x : Str} (hN : X.N.Nodup) (hi : X.N[i]? = some x := by rfl) (hx : Loc X.env.scope x := by assumption) (hf : X.fn x = true ∨ X.env.scope.names.lookup x = some .local := by assumption) : PGi ce X (.Name x pos) (gNm i) := by
 intro pins s σ H ι σi h v u Q E N r K
 obtain ⟨w, rw', q⟩ := r
 exact wpAny_assign_Name (Jjz N.inv hN hi hx rw' (fun s2 I2 => K s2 _ H ι ⟨I2, N.rel, N.st.set i q⟩ .refl) hf)
noncomputable def PGsi (ce : Str -> Option Addr) (X : Cx) (ts : List Expr) (g : List IV -> ISt -> IH -> SRes) : Prop :=
 ∀ (pins : List (Addr × Obj)) (s : Shared) (σ : L2.St) (H : Hp) (ι : List Addr) (σi : ISt) (h : IH) (vs : List IV) (us : List Value) (Q : Flow -> Shared -> Prop) (E : Value -> Shared -> Prop), Now ce X pins ι σi h σ H s -> RUs X.K ι H vs us -> Jcj ce X pins ι H (g vs σi h) Q E ->
  wpAny (model X.prog X.w) X.A (assignInOrder ((assignEach ts X.env).map (·.2)) us) (fun _ s' => Q .next s') E s
noncomputable def gN : List IV -> ISt -> IH -> SRes
 | [], σ, h => .next σ h
 | _ :: _, _, _ => .stuck
noncomputable def gC (g : G1) (r : List IV -> ISt -> IH -> SRes) : List IV -> ISt -> IH -> SRes
 | v :: vs, σ, h => match g v σ h with
  | .next σ' h' => r vs σ' h'
  | .exc n σ' h' => .exc n σ' h'
  | _ => .stuck
 | [], _, _ => .stuck
theorem J0h : PGsi ce X [] gN := by
 intro pins s σ H ι σi h vs us Q E N r K
 cases vs with
 | nil =>
  obtain ⟨xs, rv, q⟩ := r
  have e1 : xs = [] := q
  subst e1
  cases rv
  exact assignInOrder_nil (K s σ H ι N .refl)
 | cons v vs => exact Zf K
theorem Jxy {tg : Expr} {ts : List Expr} {g : G1} {r : List IV -> ISt -> IH -> SRes} (h1 : PGi ce X tg g) (h2 : PGsi ce X ts r)
  (hs : (assignEach (tg :: ts) X.env).map (·.2) = assign tg X.env :: (assignEach ts X.env).map (·.2) := by rfl) : PGsi ce X (tg :: ts) (gC g r) := by
 intro pins s σ H ι σi h vs us Q E N ru K
 cases vs with
 | nil => exact Zf K
 | cons v vs =>
  obtain ⟨xs, rv, x, xr, e1, q, qs⟩ := ru
  subst e1
  cases rv with
  | cons r1 r2 =>
   rw [hs]
   refine assignInOrder_cons (h1 pins s σ H ι σi h v _ (fun f s' => wpAny (model X.prog X.w) X.A (assignInOrder ((assignEach ts X.env).map (·.2)) _) (fun _ s' => Q .next s') E s') E N ⟨x, r1, q⟩ ?_)
   have K' : Jcj ce X pins ι H (match g v σi h with | .next σ' h' => r vs σ' h' | .exc n σ' h' => .exc n σ' h' | _ => .stuck) Q E := K
   cases e : g v σi h with
   | next σ' h' =>
    rw [e] at K'
    exact fun s' σ2 H' ι' N' n' => h2 pins s' σ2 H' ι' σ' h' vs _ Q E N' ⟨xr, r2, RVs.mono n' _ _ qs⟩ (Jcj.mono (r := r vs σ' h') K' n')
   | exc n σ' h' => rw [e] at K'; exact K'
   | _ => rw [e] at K'; exact (show False from K').elim
noncomputable def gTp (n : Nat) (g : List IV -> ISt -> IH -> SRes) : G1 := fun v σ h => match v with
 | .tup xs => if xs.length = n then g xs σ h else .stuck
 | _ => .stuck
theorem g_tup {es : List Expr} {k n : Nat} {g : List IV -> ISt -> IH -> SRes} (hc : X.calm = true) (hg : PGsi ce X es g) (hn : (assignEach es X.env).length = n := by rfl) (hst : (assignEach es X.env).findIdx? (·.1) = none := by rfl) : PGi ce X (.Tuple es k pos) (gTp n g) := by
 intro pins s σ H ι σi h v u Q E N r K
 obtain ⟨w, rw', q⟩ := r
 cases v with
 | tup xs =>
  obtain ⟨a, vs, e1, sa, ra⟩ := q
  subst e1
  cases rw'
  unfold gTp at K
  dsimp only at K
  split at K
  ·rename_i hl
   obtain ⟨its, rv, ht, hz⟩ := N.inv.tuple sa
   have l1 := ra.length
   have l2 := rv.length
   refine assign_Tuple_tuple (N.inv.ok.hd hc) ht (by simp only [List.size_toArray]; omega) hst fun h' hx => ?_
   have I1 : Inv X pins σ H { s with heap := h' } := N.inv.kept (t' := s.toks) fun b o e => hx b o (Nat.ne_of_lt (Heap.lt_size e)) e
   exact hg pins _ σ H ι σi h xs _ Q E ⟨I1, N.rel, N.st⟩ ⟨vs, by simpa using rv, ra⟩ K
  ·exact Zf K
 | _ => exact Zf K
noncomputable def sAsg (e : E1) (g : G1) : S1 := fun σ h => rS σ (e σ h) fun v h' => g v σ h'
theorem s_asg {tg : Expr} {g : G1} (he : PEi ce X e me) (hg : PGi ce X tg g) (hs : swapsWithSole [tg] e pos.line X.env = pure false := by rfl) (hw : swappedStores [tg] e X.env = pure none := by rfl)
  (h1 : (assignEach [tg] X.env).map (·.2) = [assign tg X.env] := by rfl) : PS1 ce X (.Assign [tg] e pos) (sAsg me g) := fun pins s σ H ι σi h Q E N K =>
 wpAny_Assign_stores (krun he N K fun v h2 u s1 H1 ι1 N1 n1 r1 K1 => by
  rw [h1]
  exact hg pins s1 σ H1 ι1 σi h2 v u Q E N1 r1 K1) hs hw
end
end L3
namespace L3
open PySem PySem.Spec PyProof.Rows L2
structure ItI where
 xs : List IV
 chk : IH -> Prop
open Classical in
noncomputable def Jg9 (chk : IH -> Prop) (g : G1) (b : S1) : List IV -> ISt -> IH -> SRes
 | [], σ, h => if chk h then .next σ h else .stuck
 | x :: xs, σ, h => if chk h then (match g x σ h with
   | .next σ1 h1 => (match b σ1 h1 with
    | .next σ2 h2 => Jg9 chk g b xs σ2 h2
    | .cont σ2 h2 => Jg9 chk g b xs σ2 h2
    | .brk σ2 h2 => .next σ2 h2
    | .ret v h2 => .ret v h2
    | _ => .stuck)
   | _ => .stuck) else .stuck
noncomputable abbrev I1 := ISt -> IH -> Res ItI
noncomputable def sFor (it : I1) (g : G1) (b : S1) : S1 := fun σ h => rS σ (it σ h) fun J h' => Jg9 J.chk g b J.xs σ h'
structure ItOk (ce : Str -> Option Addr) (K : W.Frag) (ι : List Addr) (H₀ : Hp) (J : It) (I : ItI) : Prop where
 go : ∀ (k : Nat) (x : IV) (h : IH) (H : Hp) (ι' : List Addr), Nxt ι H₀ ι' H -> Rel ce K ι' h H -> I.chk h -> I.xs[k]? = some x ->
  J.go k H /\ ∀ y H', J.yld k H y H' -> Rel ce K ι' h H' /\ Nxt ι' H ι' H' /\ RV K ι' H' x y
 stop : ∀ (k : Nat) (h : IH) (H : Hp) (ι' : List Addr), Nxt ι H₀ ι' H -> Rel ce K ι' h H -> I.chk h -> I.xs.length <= k -> J.stop k H
theorem Rel.get {ce : Str -> Option Addr} {K : W.Frag} {ι : List Addr} {h : IH} {H : Hp} (R : Rel ce K ι h H) {i : Nat} {o : IO} (e : h[i]? = Option.some o) {a : Addr} (ha : ι[i]? = Option.some a) : RO ce K ι H a o := by
 obtain ⟨b, e1, r⟩ := R.at_ i o e
 rw [ha] at e1
 cases e1
 exact r
noncomputable def RIt (ce : Str -> Option Addr) (X : Cx) (tg : Expr) (pins : List (Addr × Obj)) (ι' : List Addr) (I : ItI) (itv : Value) (s2 : Shared) (H' : Hp) : Prop :=
 ∃ (it : Addr) (fp : List Addr) (tn : Nat -> Heap -> Prop) (J : It), itv = .ref it /\ Turn X.prog X.w X.K tg J fp it tn /\ tn 0 s2.heap /\ (∀ b ∈ fp, FpOk X pins H' b) /\ ItOk ce X.K ι' H' J I
noncomputable def PIi (ce : Str -> Option Addr) (X : Cx) (tg iter : Expr) (m : I1) : Prop :=
 ∀ (pins : List (Addr × Obj)) (s : Shared) (σ : L2.St) (H : Hp) (ι : List Addr) (σi : ISt) (h : IH) (Q : Value -> Shared -> Prop) (E : Value -> Shared -> Prop), Now ce X pins ι σi h σ H s ->
  (match m σi h with
   | .ok I h' => ∀ itv s' H' ι', Now ce X pins ι' σi h' σ H' s' -> Nxt ι H ι' H' -> RIt ce X tg pins ι' I itv s' H' -> Q itv s'
   | .exc n h' => ∀ pl a s' H' ι', Now ce X (pins ++ pl) ι' σi h' σ H' s' -> Nxt ι H ι' H' -> ι'[n]? = some a -> E (.ref a) s'
   | .stuck => False) ->
  wpAny (model X.prog X.w) X.A (eval iter X.env) (fun v s1 => wpAny (model X.prog X.w) X.A (pyIter v) Q E s1) E s
section
variable {ce : Str -> Option Addr} {X : Cx}
theorem nof {M : Model} {A : Around} {α : Type} {t : Sem α} {Q : α -> Shared -> Prop} {E : Value -> Shared -> Prop} {s : Shared} (h : wpAny M A t Q (fun _ _ => False) s) : wpAny M A t Q E s := wpAny_mono h (fun _ _ x => x) fun _ _ z => z.elim
theorem Now.pins {pins : List (Addr × Obj)} {pl : List (Addr × Obj)} {ι : List Addr} {σi : ISt} {h : IH} {σ : L2.St} {H : Hp} {s : Shared} (N : Now ce X (pins ++ pl) ι σi h σ H s) : Now ce X pins ι σi h σ H s := ⟨N.inv.unpinned, N.rel, N.st⟩
theorem s_for {tg iter : Expr} {body : List Stmt} {mi : I1} {g : G1} {mb : S1} {pos : Pos} (hc : X.calm = true) (hi : PIi ce X tg iter mi) (hg : PGi ce X tg g) (hb : PS2 ce X body mb)
  (hs : ∀ x, foldedSetIterable iter X.env x = pure x := by intro _; rfl) : PS1 ce X (.For tg iter body [] pos) (sFor mi g mb) := by
 intro pins s σ H ι σi h Q E N K
 refine wpAny_For (hi pins s σ H ι σi h _ E N ?_) hs
 unfold sFor at K
 cases e0 : mi σi h with
 | exc n h' => rw [e0] at K; exact fun pl a s' H' ι' N' n' q => K pl a s' σ H' ι' N' n' q
 | stuck => rw [e0] at K; exact K
 | ok I h' =>
  rw [e0] at K
  intro itv s2 H2 ι2 N2 n2 R
  obtain ⟨it, fp, tn, J, e, T, st2, f2, OK⟩ := R
  subst e
  have stat : ∀ {H' : Hp}, (∀ b ∈ fp, H' b = none) -> ∀ b ∈ fp, FpOk X pins H' b := fun hn b hb => ⟨hn b hb, (f2 b hb).2⟩
  have K2 : Jcj ce X pins ι2 H2 (Jg9 I.chk g mb I.xs σi h') Q E := Jcj.mono (r := Jg9 I.chk g mb I.xs σi h') K n2
  refine codeAny_forLoop_any (fun n s' => ∃ k ιk σk hk σ' H', Now ce X pins ιk σk hk σ' H' s' /\ Nxt ι2 H2 ιk H' /\ tn k s'.heap /\ (∀ b ∈ fp, H' b = none) /\ n = I.xs.length - k /\ k <= I.xs.length /\ Jcj ce X pins ιk H' (Jg9 I.chk g mb (I.xs.drop k) σk hk) Q E) ?_ I.xs.length
   ⟨0, ι2, σi, h', σ, H2, N2, .refl, st2, fun b hb => (f2 b hb).1, by simp, Nat.zero_le _, by simpa using K2⟩
  rintro n s3 ⟨k, ιk, σk, hk, σ3, H3, N3, n3, st3, fr3, rfl, hkl, K3⟩
  by_cases hlt : k < I.xs.length
  ·-- a turn
   have hd : I.xs.drop k = I.xs[k] :: I.xs.drop (k + 1) := List.drop_eq_getElem_cons hlt
   rw [hd] at K3
   unfold Jg9 at K3
   split at K3
   ·rename_i hck
    obtain ⟨go, yl⟩ := OK.go k I.xs[k] hk H3 ιk n3 N3.rel hck (List.getElem?_eq_getElem hlt)
    refine nof (thn (T.item X rfl rfl rfl hc k pins s3 σ3 H3 (fun _ _ => False) N3.inv (stat fr3) st3 go) fun r s4 ⟨u, hr, h4⟩ => ?_)
    subst hr
    refine nof (thn h4 fun _ s5 ⟨x, H5, I5, r5, y5, st5, fr5⟩ => ?_)
    obtain ⟨R5, n5, q5⟩ := yl x H5 y5
    have I5' := I5.pinned (stat fr5) (T.obj _ _ st5)
    have N5 : Now ce X (pins ++ Jhi fp s5.heap) ιk σk hk σ3 H5 s5 := ⟨I5', R5, N3.st.mono n5⟩
    cases eg : g I.xs[k] σk hk with
    | next σg hgg =>
     rw [eg] at K3
     dsimp only at K3
     refine nof (hg _ s5 σ3 H5 ιk σk hk _ u (fun _ s6 => wpAny (model X.prog X.w) X.A (execs body X.env) _ _ s6) (fun _ _ => False) N5 ⟨x, r5, q5⟩ ?_)
     rw [eg]
     intro s6 σ6 H6 ι6 N6 n6
     refine nof (hb _ s6 σ6 H6 ι6 σg hgg _ (fun _ _ => False) N6 ?_)
     have again : ∀ {σ7 : L2.St} {H7 : Hp} {s7 : Shared} {σ7i : ISt} {h7 : IH} {ι7 : List Addr}, Now ce X (pins ++ Jhi fp s5.heap) ι7 σ7i h7 σ7 H7 s7 -> Nxt ι6 H6 ι7 H7 -> Jcj ce X pins ιk H3 (Jg9 I.chk g mb (I.xs.drop (k + 1)) σ7i h7) Q E ->
       ∃ m, m < I.xs.length - k /\ ∃ k ιk σk hk σ' H', Now ce X pins ιk σk hk σ' H' s7 /\ Nxt ι2 H2 ιk H' /\ tn k s7.heap /\ (∀ b ∈ fp, H' b = none) /\ m = I.xs.length - k /\ k <= I.xs.length /\ Jcj ce X pins ιk H' (Jg9 I.chk g mb (I.xs.drop k) σk hk) Q E :=
      fun {σ7 H7 s7 σ7i h7 ι7} N7 n7 K7 => by
       have nn : Nxt ιk H3 ι7 H7 := (n5.trans n6).trans n7
       refine ⟨I.xs.length - (k + 1), by omega, k + 1, ι7, σ7i, h7, σ7, H7, N7.pins, n3.trans nn, T.keep _ _ _ st5 fun b hb o e => (N7.inv.pin (b, o) (List.mem_append_right _ (List.mem_append_right _ (Jd8 hb e)))).1, fun b hb => ?_, rfl, hlt, K7.mono nn⟩
       obtain ⟨o, e, d⟩ := T.obj _ _ st5 b hb
       exact (N7.inv.pin (b, o) (List.mem_append_right _ (List.mem_append_right _ (Jd8 hb e)))).2.1
     cases eb : mb σg hgg with
     | next σ7i h7 =>
      rw [eb] at K3
      exact fun s7 σ7 H7 ι7 N7 n7 => again N7 n7 K3
     | cont σ7i h7 =>
      rw [eb] at K3
      exact fun s7 σ7 H7 ι7 N7 n7 => again N7 n7 K3
     | brk σ7i h7 =>
      rw [eb] at K3
      exact fun s7 σ7 H7 ι7 N7 n7 => K3 s7 σ7 H7 ι7 N7.pins ((n5.trans n6).trans n7)
     | ret v h7 =>
      rw [eb] at K3
      exact fun u s7 σ7i σ7 H7 ι7 N7 n7 r => K3 u s7 σ7i σ7 H7 ι7 N7.pins ((n5.trans n6).trans n7) r
     | exc n σ7i h7 => rw [eb] at K3; exact Zf K3
     | stuck => rw [eb] at K3; exact Zf K3
    | _ => rw [eg] at K3; exact Zf K3
   ·exact Zf K3
  ·have hke : I.xs.drop k = [] := List.drop_eq_nil_of_le (by omega)
   rw [hke] at K3
   unfold Jg9 at K3
   split at K3
   ·rename_i hck
    have stop := OK.stop k hk H3 ιk n3 N3.rel hck (by omega)
    refine nof (thn (T.done X rfl rfl rfl hc k pins s3 σ3 H3 (fun _ _ => False) N3.inv (stat fr3) st3 stop) fun r s4 ⟨hr, I4⟩ => ?_)
    subst hr
    exact wpAny_execs_nil (K3 s4 σ3 H3 ιk ⟨I4, N3.rel, N3.st⟩ .refl)
   ·exact Zf K3
noncomputable def itOf : IV -> IH -> Res ItI
 | .ref i, h => match h[i]? with
  | some (.lst xs) => .ok ⟨xs, fun h' => h'[i]? = some (.lst xs)⟩ h
  | _ => .stuck
 | .rol xs, h => .ok ⟨xs, fun _ => True⟩ h
 | .tup xs, h => .ok ⟨xs, fun _ => True⟩ h
 | _, _ => .stuck
noncomputable def iVal (e : E1) : I1 := fun σ h => (e σ h).bind itOf
variable {tg : Expr}
theorem J1e {a : Addr} {i : Nat} {xs : List IV} {ι : List Addr} {H₀ : Hp} (ha : ι[i]? = some a) : ItOk ce X.K ι H₀ (Itl X.K a) ⟨xs, fun h' => h'[i]? = some (.lst xs)⟩ := by
 refine ⟨fun k x h H ι' hp R hck hx => ?_, fun k h H ι' hp R hck hx => ?_⟩
 ·obtain ⟨vs, e1, r1⟩ := R.get hck (hp.at ha)
  obtain ⟨v, hv, qv⟩ := r1.get hx
  refine ⟨⟨vs, v, SqL.of e1, hv⟩, fun y H' hy => ?_⟩
  obtain ⟨rfl, hy⟩ := hy
  have := hy vs (SqL.of e1)
  rw [hv] at this
  cases this
  exact ⟨R, .refl, qv⟩
 ·obtain ⟨vs, e1, r1⟩ := R.get hck (hp.at ha)
  exact ⟨vs, SqL.of e1, by rw [r1.length]; exact hx⟩
theorem J0w {a : Addr} {xs : List IV} {vs : List V} {ι : List Addr} {H₀ : Hp} (sa : SqR X.K H₀ a vs) (ra : RVs X.K ι H₀ xs vs) : ItOk ce X.K ι H₀ (Itl X.K a) ⟨xs, fun _ => True⟩ := by
 refine ⟨fun k x h H ι' hp R hck hx => ?_, fun k h H ι' hp R hck hx => ?_⟩
 ·obtain ⟨v, hv, qv⟩ := ra.get hx
  have sq := (hp.ext.sqR sa).sq
  refine ⟨⟨vs, v, sq, hv⟩, fun y H' hy => ?_⟩
  obtain ⟨rfl, hy⟩ := hy
  have := hy vs sq
  rw [hv] at this
  cases this
  exact ⟨R, .refl, RV.mono hp _ _ qv⟩
 ·exact ⟨vs, (hp.ext.sqR sa).sq, by rw [ra.length]; exact hx⟩
theorem J1d {a : Addr} {xs : List IV} {vs : List V} {ι : List Addr} {H₀ : Hp} (sa : SqT X.K H₀ a vs) (ra : RVs X.K ι H₀ xs vs) : ItOk ce X.K ι H₀ (Itt X.K a) ⟨xs, fun _ => True⟩ := by
 refine ⟨fun k x h H ι' hp R hck hx => ?_, fun k h H ι' hp R hck hx => ?_⟩
 ·obtain ⟨v, hv, qv⟩ := ra.get hx
  have sq := hp.ext.sqT sa
  refine ⟨⟨vs, v, sq, hv⟩, fun y H' hy => ?_⟩
  obtain ⟨rfl, hy⟩ := hy
  have := hy vs sq
  rw [hv] at this
  cases this
  exact ⟨R, .refl, RV.mono hp _ _ qv⟩
 ·exact ⟨vs, hp.ext.sqT sa, by rw [ra.length]; exact hx⟩
theorem Ju5 {l : Expr} {ml : E1} (hl : PEi ce X l ml) : PIi ce X tg l (iVal ml) := by
 intro pins s σ H ι σi h Q E N K
 refine hl pins s σ H ι σi h _ E N ?_
 unfold iVal at K
 cases e0 : ml σi h with
 | exc n h' => rw [e0] at K; exact K
 | stuck => rw [e0] at K; exact K
 | ok v h' =>
  rw [e0] at K
  intro u s1 H1 ι1 N1 n1 r1
  obtain ⟨w, rw', q⟩ := r1
  have fresh : ∀ b ∈ [s1.heap.objs.size], FpOk X pins H1 b := fun b hb => by
   have e : b = s1.heap.objs.size := by simpa using hb
   subst e
   exact N1.inv.fpOk (Nat.le_refl _) (N1.inv.hok.fresh (Nat.le_refl _))
  cases v with
  | ref i =>
   obtain ⟨a, e1, ha⟩ := q
   subst e1
   cases rw'
   cases hi : h'[i]? with
   | none => simp only [Res.bind, itOf, hi] at K
   | some o =>
    cases o with
    | lst xs =>
     simp only [Res.bind, itOf, hi] at K
     obtain ⟨vs, e1, r1⟩ := N1.at hi ha
     obtain ⟨its, rv, p, hz⟩ := N1.inv.list (SqL.of e1)
     refine wpAny_pyIter_list p.isList (K _ _ H1 ι1 ⟨N1.inv.kept (t' := s1.toks) fun b o e => Heap.get?_push_of_some _ e, N1.rel, N1.st⟩ n1 ?_)
     exact ⟨s1.heap.objs.size, [s1.heap.objs.size], _, Itl X.K a, rfl, Jnh a _, ⟨_, Heap.get?_push_size _ rfl, rfl, rfl⟩, fresh, J1e ha⟩
    | _ => simp only [Res.bind, itOf, hi] at K
  | rol xs =>
   obtain ⟨a, vs, e1, sa, ra⟩ := q
   subst e1
   cases rw'
   simp only [Res.bind, itOf] at K
   obtain ⟨its, rv, p, hz⟩ := N1.inv.list sa.sq
   refine wpAny_pyIter_list p.isList (K _ _ H1 ι1 ⟨N1.inv.kept (t' := s1.toks) fun b o e => Heap.get?_push_of_some _ e, N1.rel, N1.st⟩ n1 ?_)
   exact ⟨s1.heap.objs.size, [s1.heap.objs.size], _, Itl X.K a, rfl, Jnh a _, ⟨_, Heap.get?_push_size _ rfl, rfl, rfl⟩, fresh, J0w sa ra⟩
  | tup xs =>
   obtain ⟨a, vs, e1, sa, ra⟩ := q
   subst e1
   cases rw'
   simp only [Res.bind, itOf] at K
   obtain ⟨its, rv, p, hz⟩ := N1.inv.tuple sa
   refine wpAny_pyIter_tuple (show s1.heap.IsTuple a its.toArray from p) (K _ _ H1 ι1 ⟨N1.inv.kept (t' := s1.toks) fun b o e => Heap.get?_push_of_some _ e, N1.rel, N1.st⟩ n1 ?_)
   exact ⟨s1.heap.objs.size, [s1.heap.objs.size], _, Itt X.K a, rfl, Jss a _, ⟨_, Heap.get?_push_size _ rfl, rfl, rfl⟩, fresh, J1d sa ra⟩
  | _ => simp only [Res.bind, itOf] at K
noncomputable def rngI (lo hi : Int) : List IV := (List.range (hi - lo).toNat).map fun k => .int (lo + (k : Nat))
noncomputable def Jc8 : List IV -> IH -> Res ItI
 | [.int j], h => if -(2 ^ 62) <= j /\ j < 2 ^ 62 then .ok ⟨rngI 0 j, fun _ => True⟩ h else .stuck
 | _, _ => .stuck
noncomputable def Jke : List IV -> IH -> Res ItI
 | [.int i, .int j], h => if -(2 ^ 62) <= i /\ i < 2 ^ 62 /\ -(2 ^ 62) <= j /\ j < 2 ^ 62 then .ok ⟨rngI i j, fun _ => True⟩ h else .stuck
 | _, _ => .stuck
theorem Joq {vs : List IV} {h : IH} (hv : ¬ ∃ i j, vs = [.int i, .int j]) : Jke vs h = .stuck := by
 unfold Jke
 split
 ·exact absurd ⟨_, _, rfl⟩ hv
 ·rfl
noncomputable def iRg (f : List IV -> IH -> Res ItI) (a : A1) : I1 := fun σ h => (a σ h).bind f
theorem J0j {lo hi : Int} {ι : List Addr} {H₀ : Hp} : ItOk ce X.K ι H₀ (Itr lo (hi - lo).toNat) ⟨rngI lo hi, fun _ => True⟩ := by
 refine ⟨fun k x h H ι' hp R hck hx => ?_, fun k h H ι' hp R hck hx => ?_⟩
 ·have hk : k < (hi - lo).toNat := by
   have := (List.getElem?_eq_some_iff.mp hx).1
   simpa [rngI] using this
  refine ⟨hk, fun y H' hy => ?_⟩
  obtain ⟨rfl, rfl⟩ := hy
  simp only [rngI, List.getElem?_map, List.getElem?_range hk] at hx
  cases hx
  exact ⟨R, .refl, rfl⟩
 ·have : (rngI lo hi).length = (hi - lo).toNat := by simp [rngI]
  show (hi - lo).toNat <= k
  rw [<- this]
  exact hx
theorem Jm8 {pins : List (Addr × Obj)} {σ : L2.St} {H : Hp} {ι : List Addr} {σi : ISt} {h : IH} {s : Shared} {Q : Value -> Shared -> Prop} {E : Value -> Shared -> Prop} {lo hi : Int} {t u v : Tok} {tk : Nat} (N : Now ce X pins ι σi h σ H s)
  (h1 : -(2 ^ 62) <= lo) (h2 : lo < 2 ^ 62) (h3 : -(2 ^ 62) <= hi) (h4 : hi < 2 ^ 62)
  (K : ∀ itv s' H' ι', Now ce X pins ι' σi h σ H' s' -> Nxt ι H ι' H' -> RIt ce X tg pins ι' ⟨rngI lo hi, fun _ => True⟩ itv s' H' -> Q itv s') :
  wpAny (model X.prog X.w) X.A (pyIter (.ref s.heap.objs.size)) Q E { s with heap := s.heap.push { cls := .type "range", data := .fields #[.int lo t, .int hi u, .int 1 v] }, toks := tk } := by
 have := Jwv (X := X) (tg := tg) (E := E) (R := fun J H' => J = Itr lo (hi - lo).toNat /\ H' = H) (t := t) (u := u) (v := v) (tk := tk) N.inv h1 h2 h3 h4 ⟨rfl, rfl⟩
 refine wpAny_mono this (fun itv s' hq => ?_) fun _ _ z => z
 obtain ⟨it, fp, tn, J, H', e, I', T, st, f, rfl, rfl⟩ := hq
 exact K itv s' _ ι ⟨I', N.rel, N.st⟩ .refl ⟨it, fp, tn, _, e, T, st, f, J0j⟩
theorem Jv1 {a : Expr} {ma : A1} {p pos : Pos} (hg : Gl X "range") (hm : X.mg "range" = none) (ha : PAi ce X [a] ma) (hs : starEach [a] X.env = [(false, eval a X.env)] := by rfl) : PIi ce X tg (.Call (.Name "range" p) [a] [] pos) (iRg Jc8 ma) := by
 intro pins s σ H ι σi h Q E N K
 refine Call_ (Jec N.inv hg hm boot_range (PyProof.Rows.callWith_type1 ?_ hs rfl))
 refine ha pos pins s σ H ι σi h _ E N ?_
 unfold iRg at K
 cases e0 : ma σi h with
 | exc n h' => rw [e0] at K; exact K
 | stuck => rw [e0] at K; exact K
 | ok vs h' =>
  rw [e0] at K
  intro us s1 H1 ι1 N1 n1 r1
  obtain ⟨xs, rv, qs⟩ := r1
  match vs, K with
  | [.int j], K =>
   obtain ⟨w, r, e1, q, q2⟩ := qs
   have e2 : r = [] := q2
   subst e1 e2
   have e3 : w = .int j := q
   subst e3
   cases rv with
   | cons r rr =>
    cases rr
    obtain ⟨t, rfl⟩ := r
    simp only [Res.bind, Jc8] at K
    by_cases hb : -(2 ^ 62) <= j /\ j < 2 ^ 62
    ·rw [if_pos hb] at K
     exact call_range_1 (Jm8 N1 (by omega) (by omega) hb.1 hb.2 fun itv s' H' ι' N' n' R => K itv s' H' ι' N' (n1.trans n') R)
    ·rw [if_neg hb] at K
     exact K.elim
  | [], K => exact Zf K
  | .non :: _, K => exact Zf K
  | .bl _ :: _, K => exact Zf K
  | .str _ :: _, K => exact Zf K
  | .tup _ :: _, K => exact Zf K
  | .rol _ :: _, K => exact Zf K
  | .ref _ :: _, K => exact Zf K
  | .int _ :: _ :: _, K => exact Zf K
theorem Jws {a b : Expr} {ma : A1} {p pos : Pos} (hg : Gl X "range") (hm : X.mg "range" = none) (ha : PAi ce X [a, b] ma) (hs : starEach [a, b] X.env = [(false, eval a X.env), (false, eval b X.env)] := by rfl) (hs2 : starEach [b] X.env = [(false, eval b X.env)] := by rfl) :
  PIi ce X tg (.Call (.Name "range" p) [a, b] [] pos) (iRg Jke ma) := by
 intro pins s σ H ι σi h Q E N K
 refine Call_ (Jec N.inv hg hm boot_range (PyProof.Rows.callWith_type1 ?_ (by rw [hs, hs2]) (by rw [hs2]; rfl)))
 refine ha pos pins s σ H ι σi h _ E N ?_
 unfold iRg at K
 cases e0 : ma σi h with
 | exc n h' => rw [e0] at K; exact K
 | stuck => rw [e0] at K; exact K
 | ok vs h' =>
  rw [e0] at K
  intro us s1 H1 ι1 N1 n1 r1
  obtain ⟨xs, rv, qs⟩ := r1
  by_cases hv : ∃ i j, vs = [.int i, .int j]
  ·obtain ⟨i, j, rfl⟩ := hv
   obtain ⟨w, r, e1, q, w', r', e1', q', q2⟩ := qs
   have e2 : r' = [] := q2
   subst e1 e1' e2
   have e3 : w = .int i := q
   have e4 : w' = .int j := q'
   subst e3 e4
   cases rv with
   | cons r rr =>
    cases rr with
    | cons r' rr =>
     cases rr
     obtain ⟨t, rfl⟩ := r
     obtain ⟨t', rfl⟩ := r'
     simp only [Res.bind, Jke] at K
     by_cases hb : -(2 ^ 62) <= i /\ i < 2 ^ 62 /\ -(2 ^ 62) <= j /\ j < 2 ^ 62
     ·rw [if_pos hb] at K
      exact call_range_2 (Jm8 N1 hb.1 hb.2.1 hb.2.2.1 hb.2.2.2 fun itv s' H' ι' N' n' R => K itv s' H' ι' N' (n1.trans n') R)
     ·rw [if_neg hb] at K
      exact K.elim
  ·simp only [Res.bind, Joq hv] at K
end
end L3
namespace L3
open PySem PySem.Spec PyProof.Rows L2
theorem ExF.ok {P : Program} {w : World} {H : Hp} {h : Heap} {a C : Addr} {tv : Value} {oe : Obj} {vs : Array Value} (e : h.get? a = some oe) (c : oe.cls = .ref C) (d : oe.data = .fields vs) (v : vs[1]? = some tv) : Jea P w H h a (ExF a C tv) :=
 ⟨⟨oe, vs, e, c, d, v⟩, ⟨oe, e⟩, fun _ _ ⟨o, us, e1, r⟩ k => ⟨o, us, k _ e1, r⟩⟩
theorem ExF.get {P : Program} {w : World} {H : Hp} {h : Heap} {a C : Addr} {tv : Value} (x : HOk P w H h) (e : H a = some (ExF a C tv)) : ∃ oe vs, h.get? a = some oe /\ oe.cls = .ref C /\ oe.data = .fields vs /\ vs[1]? = some tv :=
 (x a _ e).1
theorem Jxd {P : Program} {w : World} {H : Hp} {h : Heap} {a : Addr} : ∀ {o : HO}, Jea P w H h a o -> ∃ u, h.get? a = some u
 | .lst _, ⟨_, _, _, _, e⟩ => ⟨_, e⟩
 | .tup _, ⟨_, _, _, ⟨_, e, _⟩⟩ => ⟨_, e⟩
 | .dK _, ⟨_, _, _, _, o, _, _, e, _⟩ => ⟨o, e⟩
 | .dT _, ⟨_, _, _, _, o, _, _, e, _⟩ => ⟨o, e⟩
 | .set _ _, ⟨o, _, _, _, e, _⟩ => ⟨o, e⟩
 | .ins _ _ _, ⟨_, _, _, e, _⟩ => ⟨_, e⟩
 | .own _, ⟨_, e⟩ => ⟨_, e⟩
 | .xd _, ⟨_, ⟨_, _, _, e, _⟩, _⟩ => ⟨_, e⟩
 | .rng _ _, ⟨_, _, _, e⟩ => ⟨_, e⟩
 | .frz _ _, ⟨e, _⟩ => ⟨_, e⟩
 | .tbl _, e => ⟨_, (show h.get? a = some _ from e)⟩
 | .met _ _, e => ⟨_, (show h.get? a = some _ from e)⟩
 | .ext _, ⟨_, ⟨_, e⟩, _⟩ => ⟨_, e⟩
theorem Jul {h : Heap} {T : Addr} {oT : Obj} {ts : Array Value} (e : h.get? T = some oT) (d : oT.data = .fields ts) (q : ts[3]? = some .none) : (h.update T (Obj.mapFields (·.setIfInBounds 3 .none))).get? T = some oT := by
 have es : ts.setIfInBounds 3 .none = ts := by
  refine Array.ext (by simp) fun i h1 h2 => ?_
  rw [Array.getElem_setIfInBounds]
  split
  ·rename_i z
   subst z
   rw [Array.getElem?_eq_getElem h2] at q
   exact (Option.some.inj q).symm
  ·rfl
 have eo : Obj.mapFields (·.setIfInBounds 3 .none) oT = oT := by
  obtain ⟨c, dd, dt, sl⟩ := oT
  have d : dt = .fields ts := d
  subst d
  simp only [Obj.mapFields, es]
 rw [Heap.get?_update_self _ e (by rw [eo]; exact Obj.isFreed_of_fields d), eo]
theorem Juk {h B B' : Heap} : ∀ {l : List Env}, h.FunFrames B l -> (∀ b ∈ frs l, B'.get? b = none) -> h.FunFrames B' l
 | [], _, _ => trivial
 | env :: l, ⟨a, ⟨L, o, f, _, r⟩, t⟩, n => by
  have m : ∀ b, b ∈ frs (env :: l) ↔ b = L ∨ b ∈ frs l := fun b => by
   unfold frs
   rw [List.filterMap_cons, f]
   exact List.mem_cons
  exact ⟨a, ⟨L, o, f, n L ((m L).mpr (.inl rfl)), r⟩, Juk t fun b hb => n b ((m b).mpr (.inr hb))⟩
section
variable {X : Cx} {pins : List (Addr × Obj)} {σ : L2.St} {H : Hp} {s : Shared} {M : Model} {E : Value -> Shared -> Prop} {Q : Unit -> Shared -> Prop} {a C : Addr} {tv : Value}
structure Past (X : Cx) (H : Hp) (h : Heap) (a C : Addr) (T : Addr) (oT : Obj) (h' : Heap) : Prop where
 new : H T = none
 ne : T ≠ a
 fld : ∃ ts, oT.data = .fields ts /\ ts[3]? = some .none
 un : Un (frs X.stack) [] H (upd (upd H T (.frz oT (.own 0))) a (ExF a C (.ref T))) h h'
 hok : HOk X.prog X.w (upd (upd H T (.frz oT (.own 0))) a (ExF a C (.ref T))) h'
theorem Jyv {h h' : Heap} (I : Inv X pins σ H s) (hh : ∀ b, h.get? b = s.heap.get? b) (ha : H a = some (ExF a C tv)) (L : Heap.Left (W.hideAll h (a :: frs X.stack)) X.stack a (.ref C) h h') : ∃ T oT, Past X H s.heap a C T oT h' := by
 obtain ⟨l1, l2, ⟨oe, vs, T, oT, ts, e1, e2, e3, e4, e5, e6, e7, e8, e9⟩, l4⟩ := L
 have hok := I.hok
 have hfr : ∀ b ∈ frs X.stack, H b = none := I.stkFree
 have hfa : a ∉ frs X.stack := fun z => by rw [hfr a z] at ha; cases ha
 have nT : s.heap.get? T = none := by
  cases q : s.heap.get? T with
  | none => rfl
  | some o =>
   by_cases z : T ∈ frs X.stack
   ·obtain ⟨_, o', q1, q2⟩ := l2.mem z
    rw [e7] at q1
    cases q1
    exact absurd e8 (q2 _)
   ·have z2 : T ∉ a :: frs X.stack := fun y => (List.mem_cons.mp y).elim e6 z
    have := W.hideAll_get _ ((hh T).trans q) z2
    rw [e5] at this
    cases this
 have hT : H T = none := by
  cases q : H T with
  | none => rfl
  | some u =>
   obtain ⟨o, z⟩ := Jxd (hok T u q)
   rw [nT] at z
   cases z
 have keep : ∀ b o, s.heap.get? b = some o -> b ≠ a -> b ∉ frs X.stack -> h'.get? b = some o := fun b o q n1 n2 =>
  l1 b o (W.hideAll_get _ ((hh b).trans q) fun y => (List.mem_cons.mp y).elim n1 n2)
 have slot : ∀ b o, s.heap.get? b = some o -> b ∈ frs X.stack -> ∃ sl, h'.get? b = some { o with slots := sl } := fun b o q z => by
  obtain ⟨_, o', q1, q2⟩ := (show s.heap.FunFrames X.base X.stack from I.stack).mem z
  rw [q] at q1
  cases q1
  exact l4 b o ((hh b).trans q) q2
 have na : ∀ {b : Addr} {u : HO}, H b = some u -> (∀ φ, u ≠ .ext φ) -> b ≠ a := fun {b u} q n z => by
  subst z
  rw [ha] at q
  cases q
  exact n _ rfl
 have nTb : ∀ {b : Addr} {u : HO}, H b = some u -> b ≠ T := fun {b u} q z => by
  subst z
  rw [hT] at q
  cases q
 have up : ∀ {b : Addr} {u : HO}, H b = some u -> (∀ φ, u ≠ .ext φ) -> upd (upd H T (.frz oT (.own 0))) a (ExF a C (.ref T)) b = some u := fun {b u} q n => by
  rw [Jg (na q n), Jg (nTb q)]
  exact q
 refine ⟨T, oT, hT, e6, ⟨ts, e8, e9⟩, ⟨fun b o q n hb _ => keep b o q (fun z => by subst z; rw [ha] at n; cases n) hb, fun b o q _ hb _ => slot b o q hb, fun b o q n _ => ?_, fun b o q _ => ?_, fun b xs q => up q nofun, fun b o u q => up q nofun, fun b ps q => ⟨#[], by rw [up q nofun]; simp⟩⟩, fun b u q => ?_⟩
 ·rw [Jg (fun z => by subst z; rw [ha] at n; cases n), Jg (fun z => by subst z; rw [nT] at q; cases q)]
  exact n
 ·by_cases z : b = a
  ·subst z
   exact ⟨_, e1⟩
  ·by_cases y : b ∈ frs X.stack
   ·obtain ⟨sl, w⟩ := slot b o q y
    exact ⟨_, w⟩
   ·exact ⟨o, keep b o q z y⟩
 ·by_cases z : b = a
  ·subst z
   rw [Jk] at q
   cases q
   exact ExF.ok e1 e2 e3 e4
  ·rw [Jg z] at q
   by_cases y : b = T
   ·subst y
    rw [Jk] at q
    cases q
    exact ⟨e7, ⟨oT, e7⟩⟩
   ·rw [Jg y] at q
    refine (hok b u q).stay (fun c v hc p => ?_) (fun c p => up p nofun) fun c xs p => up p nofun
    refine keep c v p ?_ ?_
    ·rcases hc with rfl | hc
     ·exact z
     ·exact na hc nofun
    ·intro m
     rcases hc with rfl | hc
     ·rw [hfr _ m] at q; cases q
     ·rw [hfr _ m] at hc; cases hc
theorem Jq4 (I : Inv X pins σ H s) (hs : X.stack = X.env :: X.outer) (hf : X.env.frame = some X.env.locals) (ha : H a = some (ExF a C tv)) (ht : TvOk H tv)
  (k : ∀ T oT h', Past X H s.heap a C T oT h' -> Q () { s with heap := h' }) : wpAny M X.A (noteFrame (.ref a) X.env) (fun _ s' => wpAny M X.A (setFlight (.ref a) none) Q E s') E s := by
 obtain ⟨oe, vs, e1, e2, e3, e4⟩ := ExF.get I.hok ha
 have hfa : a ∉ frs X.stack := fun z => by rw [I.stkFree a z] at ha; cases ha
 have fr := I.ok.frames
 have ff : s.heap.FunFrames X.base X.stack := I.stack
 have len1 : 1 < vs.size := (Array.getElem?_eq_some_iff.mp e4).1
 have go : ∀ (h : Heap) {head : Value} {hn : Bool}, (∀ b, h.get? b = s.heap.get? b) -> wpAny M X.A (do let f <- frameOf X.env; let pl <- entryPlaceOf X.env.locals hn; let b <- EntryCells.newEntry head f .none (rawInt X.env.locals) .none pl; setField (.ref a) 1 b) (fun _ s' => wpAny M X.A (setFlight (.ref a) none) Q E s') E { s with heap := h } := by
  intro h head hn hh
  have ffh : h.FunFrames X.base X.stack := ff.of_keeps fun b o q _ => ⟨o, (hh b).trans q, rfl⟩
  have ff2 : h.FunFrames (W.hideAll h (a :: frs X.stack)) X.stack := Juk ffh fun b hb => W.hideAll_none _ (List.mem_cons_of_mem _ hb)
  rw [hs] at fr ff2
  refine wpAny_newEntry (s := { s with heap := h }) fr ff2 hf ((hh a).trans e1) (fun b o q => W.of_hideAll _ q) (W.hideAll_none _ List.mem_cons_self) e3 len1 fun h' l => ?_
  rw [e2, <- hs] at l
  obtain ⟨T, oT, p⟩ := Jyv I hh ha l
  exact k T oT h' p
 unfold noteFrame
 rw [hf]
 refine wpAny_bind (wpAny_field e1 e3 e4 ?_)
 rcases ht with rfl | ⟨T, oT, ts, rfl, q1, q2, q3⟩
 ·rw [if_neg (by decide)]
  exact go s.heap fun _ => rfl
 ·have gT : s.heap.get? T = some oT := (I.hok T _ q1).1
  rw [if_pos (by simp)]
  refine wpAny_bind (wpAny_field gT q2 q3 ?_)
  rw [if_neg (by simp [rawInt])]
  refine wpAny_bind (wpAny_setField gT q2 (Array.getElem?_eq_some_iff.mp q3).1 ?_)
  refine go _ fun b => ?_
  by_cases z : b = T
  ·subst z
   exact (Jul gT q2 q3).trans gT.symm
  ·exact Heap.get?_update_other _ _ (Ne.symm z)
theorem Js5 (I : Inv X pins σ H s) (hs : X.stack = X.env :: X.outer) (hf : X.env.frame = some X.env.locals) (ha : H a = some (ExF a C tv)) (ht : TvOk H tv)
  (k : ∀ T oT h', Past X H s.heap a C T oT h' -> Q () { s with heap := h' }) : wpAny M X.A (leaving X.env (.ref a)) Q E s := by
 unfold leaving
 exact wpAny_bind (Jq4 I hs hf ha ht k)
end
noncomputable def CXI (P : Program) (w : World) : CXT := fun outer H s E e s' => ∃ H', s'.os = s.os /\ AllBare s'.gens /\ Un (frs outer) [] H H' s.heap s'.heap /\ HOk P w H' s'.heap /\ E e none H'
theorem Un.tail {L : Addr} {fs : List Addr} {H H1 H2 : Hp} {h h1 h2 : Heap} (a : Un fs [] H H1 h h1) (b : Un (L :: fs) [] H1 H2 h1 h2) (n : h.get? L = none) : Un fs [] H H2 h h2 where
 keep := fun c o q m hc _ => b.keep c o (a.keep c o q m hc (by simp)) (a.free c o q m (by simp)) (fun z => (List.mem_cons.mp z).elim (fun y => by subst y; rw [n] at q; cases q) hc) (by simp)
 slot := fun c o q m hc _ => by
  obtain ⟨sl, e1⟩ := a.slot c o q m hc (by simp)
  obtain ⟨sl', e2⟩ := b.any e1 (a.free c o q m (by simp)) (by simp)
  exact ⟨sl', e2⟩
 free := fun c o q m _ => by
  obtain ⟨o', e1⟩ := a.there c o q (by simp)
  exact b.free c o' e1 (a.free c o q m (by simp)) (by simp)
 there := fun c o q _ => by
  obtain ⟨o', e1⟩ := a.there c o q (by simp)
  exact b.there c o' e1 (by simp)
 tups := fun c xs q => b.tups c xs (a.tups c xs q)
 frzs := fun c o u q => b.frzs c o u (a.frzs c o u q)
 tbls := fun c ps q => by
  obtain ⟨m1, e1⟩ := a.tbls c ps q
  obtain ⟨m2, e2⟩ := b.tbls c _ e1
  exact ⟨m1 ++ m2, by rw [e2, Array.append_assoc]⟩
section
variable {X : Cx} {pins : List (Addr × Obj)} {σ : L2.St} {H : Hp} {s : Shared} {k : Nat} {f C : Addr} {fd : FuncData} {ps : List Str} {sp : Sp} {dvs : List V} {ds : List Value} {E : XK} {Q : VK} {us : List Value} {vs : List V} {W : Value -> Shared -> Prop}
theorem Jw9 {e : Value} {s' : Shared} (I : Inv X pins σ H s) (h : CXI X.prog X.w X.stack H s E e s') : ∃ H', Inv X pins σ H' s' /\ E e none H' := by
 obtain ⟨H', os, bare, un, hok, q⟩ := h
 exact ⟨H', I.call' os un hok bare fun b z => absurd z (by simp), q⟩
theorem Jyf (F : FnOk X.prog X.w X.K X.mg X.base (CXI X.prog X.w) k f fd ps sp) (hr : Room k X.A) (hb : Jg1 X.K fd ps ds) (hd : Vals dvs ds) (I : Inv X pins σ H s) (r : Vals vs us) (h : sp (vs ++ dvs) H Q E)
  (hx : ∀ e s' H', Inv X pins σ H' s' -> E e none H' -> W e s') : wpAny (model X.prog X.w) X.A (call (.ref f) us) (EP X pins σ Q) W s := by
 have ra : Vals (vs ++ dvs) (us ++ ds) := r.append hd
 have la := ra.length
 have lf := F.len _ _ _ _ h
 refine wpAny_call (codeAny_mono (F.run _ _ _ _ ⟨us, []⟩ _ _ _ _ hr I.env0 (hb s us I.kIn (by omega)) ra h) fun res s' q => ?_)
 match res, q with
 | .error e, q =>
  obtain ⟨H', I', z⟩ := Jw9 I q
  exact hx e s' H' I' z
 | .ok (.ret u), q => exact I.after q
 | .ok .next, q => exact False.elim q
 | .ok .brk, q => exact False.elim q
 | .ok .cont, q => exact False.elim q
theorem Jux (M : Mk X.K C f) (F : FnOk X.prog X.w X.K X.mg X.base (CXI X.prog X.w) k f fd ps sp) (hr : Room (k + 1) X.A) (hb : Jg1 X.K fd ps ds) (hd : Vals dvs ds) (I : Inv X pins σ H s) (r : Vals vs us)
  (h : ∀ x dx, H x = none -> H dx = none -> dx ≠ x -> sp (.ref x :: (vs ++ dvs)) (upd (upd H dx (.own x)) x (.ins C dx [])) (fun v H2 => v = .non /\ Q (.ref x) H2) E)
  (hx : ∀ e s' H', Inv X pins σ H' s' -> E e none H' -> W e s') : wpAny (model X.prog X.w) X.A (call (.ref C) us) (EP X pins σ Q) W s := by
 have z0 := s.heap.objs.size
 have hq := h (s.heap.objs.size + 1) s.heap.objs.size (I.hok.fresh (Nat.le_succ _)) (I.hok.fresh (Nat.le_refl _)) (Nat.ne_of_lt (Nat.lt_succ_self _))
 have J := Inv.made (C := C) I
 have ra : Vals (V.ref (s.heap.objs.size + 1) :: (vs ++ dvs)) (Value.ref (s.heap.objs.size + 1) :: (us ++ ds)) := .cons rfl (r.append hd)
 have la := ra.length
 have lf := F.len _ _ _ _ hq
 have hl : (Value.ref (s.heap.objs.size + 1) :: us ++ ds).length = ps.length := by
  rw [List.cons_append]
  omega
 refine wpAny_call (Jvj (f := f) I.kIn M.makes M.init (beq_iff_eq.mp M.fn) (codeAny_mono (F.run _ _ _ _ ⟨.ref (s.heap.objs.size + 1) :: us, []⟩ _ _ _ _ (hr.make C us []) (J.env0.make C us []) (hb _ (.ref (s.heap.objs.size + 1) :: us) J.kIn hl) ra hq) fun res s' q => ?_))
 match res, q with
 | .error e, q =>
  obtain ⟨H', I', z⟩ := Jw9 J q
  exact hx e s' H' I' z
 | .ok (.ret u), q =>
  obtain ⟨v, H', J3, rv, ev, q3⟩ := J.after q
  subst ev
  exact ⟨rv, ⟨V.ref (s.heap.objs.size + 1), H', J3, rfl, q3⟩⟩
 | .ok .next, q => exact False.elim q
 | .ok .brk, q => exact False.elim q
 | .ok .cont, q => exact False.elim q
end
end L3
namespace L3
open PySem PySem.Spec PySem.Calls PyProof.Rows L2
section
variable {prog : Program} {w : World} {A : Around} {E : Value -> Shared -> Prop} {s : Shared} {K : W.Frag} {x D : Addr} {ox : Obj}
open PySem.W PySem.Builtin PySem.Builtin.ObjectAttr PySem.Builtin.Getset_descriptor in
theorem J0o {tp : Value} {R : Result -> Shared -> Prop} (X : K.In s.heap) (hx : s.heap.get? x = some ox) (hcl : ox.cls = .ref D) (hm : mroIn K D (.type "object") = some true) (k : R (.ok (.ret (.ref D))) s) :
  codeAny (model prog w) A (.call (.builtin "getset_descriptor.__get__") ⟨[.builtin "object.__class__", .ref x, tp], []⟩) R s := by
 obtain ⟨hh, g, d, t, os⟩ := s
 have L0 : Looks (model prog w) hh (typeOf (.ref x)) (.ref D) := hcl ▸ (Looks.ld hx).andThen .now
 have L5 := looks_mroIn (M := model prog w) X hm
 have sl := KF.slot_gs
 refine codeAny_call_builtin sl.plain KF.entry_gs (sl.check _ _ _ _ _ _ _ _ KF.type_class (KF.args_gs _ _ _) ?_)
 unfold Builtin.«getset_descriptor.__get__»
 unfold descrGet
 rw [dga_obj]
 apply wpAny_bind
 apply wpAny_pure
 unfold descrGetter descrCheckInstance
 unfold descrNameAndClass isInstance
 simp only [KF.owner_class]
 repeat lk
 have quiet := Code.quiet_builtin (id := "object.__class__") ⟨[.ref x], []⟩ (by decide +kernel)
 refine ⟨quiet, codeAny_builtin KF.entry_class ?_⟩
 unfold Builtin.«object.__class__»
 unfold shownTypeOf
 repeat lk
 exact k
theorem Jvi {tk : Tok} {Q : Fin -> Shared -> Prop} (X : K.In s.heap) (hx : s.heap.get? x = some ox) (hcl : ox.cls = .ref D) (hc : W.findIn K (.ref D) "__class__" = some (some (.builtin "object.__class__"))) (hm : W.mroIn K D (.type "object") = some true)
  (hq : Q (.done (.ret (.ref D))) s) : wpAny (model prog w) A (Builtin.«object.__getattribute__» ⟨[.ref x, .str "__class__" tk], []⟩) Q E s := by
 obtain ⟨hh, g, d, t, os⟩ := s
 have L0 : W.Looks (model prog w) hh (typeOf (.ref x)) (.ref D) := hcl ▸ (W.Looks.ld hx).andThen .now
 have L2 := W.looks_findIn (M := model prog w) X hc
 have hT5 : (⟨hh, g, d, t, os⟩ : Shared).TypeIs (.builtin "object.__class__") "getset_descriptor" := F.typeOf_object_class
 have f5 := F.typeOf_object_class
 have f6 := F.slot_gs_get.lookup
 have f7 := F.slot_gs_set.lookup
 repeat (any_goals (first | assumption | with_reducible refine L0.at ?_ | with_reducible refine L2.at ?_ | wp_step))
 refine J0o (s := ⟨hh, g, d, t, os⟩) X hx hcl hm ?_
 repeat (any_goals (first | assumption | wp_step))
theorem Jvn {v : Value} {Q : Unit -> Shared -> Prop} {M : Model} (X : K.In s.heap) (hx : s.heap.get? x = some ox) (hcl : ox.cls = .ref D) (hb : W.mroIn K D (.type "BaseException") = some true) (hq : Q () s) : wpAny M A (checkBuiltinCall "BaseException.__getattribute__" ⟨[.ref x, v], []⟩) Q E s := by
 obtain ⟨hh, g, d, t, os⟩ := s
 have L0 : W.Looks M hh (typeOf (.ref x)) (.ref D) := hcl ▸ (W.Looks.ld hx).andThen .now
 have L3 := W.looks_mroIn (M := M) X hb
 have k1 : builtinKind "BaseException.__getattribute__" = some .slot := by decide +kernel
 have k2 : splitId "BaseException.__getattribute__" = some ("BaseException", "__getattribute__") := by decide +kernel
 have k3 := F.args_bexc_ga (.ref x) v
 simp only [checkBuiltinCall, k1, k2]
 refine wpAny_bind ?_
 unfold isInstance
 repeat (first | with_reducible refine L0.at ?_ | with_reducible refine L3.at ?_ | wp_step)
 exact hq
theorem xc_by {tk : Tok} {Q : Value -> Shared -> Prop} (X : K.In s.heap) (hx : s.heap.get? x = some ox) (hcl : ox.cls = .ref D) (hg : W.findIn K (.ref D) "__getattribute__" = some (some (.builtin "BaseException.__getattribute__"))) (hb : W.mroIn K D (.type "BaseException") = some true) (hn : W.findIn K (.ref D) "__getattr__" = some none)
  (hc : W.findIn K (.ref D) "__class__" = some (some (.builtin "object.__class__"))) (hm : W.mroIn K D (.type "object") = some true) (hq : Q (.ref D) s) : wpAny (model prog w) A (getAttrBy (.ref x) (.str "__class__" tk) false) Q E s := by
 obtain ⟨hh, g, d, t, os⟩ := s
 have L0 : W.Looks (model prog w) hh (typeOf (.ref x)) (.ref D) := hcl ▸ (W.Looks.ld hx).andThen .now
 have L1 := W.looks_findIn (M := model prog w) X hg
 have L4 := W.looks_findIn (M := model prog w) X hn
 have f3 := F.attr_ValueError.ga.bind (.ref x)
 have hx2 : (Value.builtin "BaseException.__getattribute__" == Value.builtin "object.__getattribute__") = false := by decide +kernel
 have hx1 : (onTheHeap (Value.ref D) && Value.builtin "BaseException.__getattribute__" == Value.builtin "object.__getattribute__") = false := by rw [hx2]; rfl
 repeat (any_goals (first | assumption | with_reducible refine L0.at ?_ | with_reducible refine L1.at ?_ | with_reducible refine L4.at ?_ | wp_step))
 refine codeAny_call_builtin F.attr_ValueError.ga.plain F.entry_bexc_ga (Jvn (s := ⟨hh, g, d, t, os⟩) X hx hcl hb (Jvi (s := ⟨hh, g, d, t, os⟩) X hx hcl hc hm ?_))
 repeat (any_goals (first | assumption | wp_step))
theorem Jx1 {Q : Option Value -> Shared -> Prop} (X : K.In s.heap) (hx : s.heap.get? x = some ox) (hcl : ox.cls = .ref D) (hg : W.findIn K (.ref D) "__getattribute__" = some (some (.builtin "BaseException.__getattribute__"))) (hb : W.mroIn K D (.type "BaseException") = some true) (hn : W.findIn K (.ref D) "__getattr__" = some none)
  (hc : W.findIn K (.ref D) "__class__" = some (some (.builtin "object.__class__"))) (hm : W.mroIn K D (.type "object") = some true) (hq : Q (some (.ref D)) { s with toks := s.toks + 1 }) : wpAny (model prog w) A (getAttr? (.ref x) "__class__") Q E s := by
 obtain ⟨hh, g, d, t, os⟩ := s
 unfold getAttr? getAttrBy?
 refine wpAny_bind (wpAny_mkText (wpAny_bind (wpAny_attempt (xc_by (s := ⟨hh, g, d, t + 1, os⟩) X hx hcl hg hb hn hc hm ?_))))
 exact wpAny_pure hq
end
structure ExI (K : W.Frag) (C : Addr) : Prop where
 ga : W.findIn K (.ref C) "__getattribute__" = some (some (.builtin "BaseException.__getattribute__"))
 mb : W.mroIn K C (.type "BaseException") = some true
 gn : W.findIn K (.ref C) "__getattr__" = some none
 ca : W.findIn K (.ref C) "__class__" = some (some (.builtin "object.__class__"))
 mo : W.mroIn K C (.type "object") = some true
 hd : W.hasDictIn K C = true
theorem ExI.at_ {K : W.Frag} {C : Addr} (e : ExI K C) : ∃ c d cd sl, K.lookup C = some ⟨c, d, .cls cd, sl⟩ := by
 obtain ⟨cd, hc, _⟩ := W.any_some e.hd
 unfold W.clsIn at hc
 split at hc
 case h_2 => cases hc
 rename_i c d cd' sl ho
 exact ⟨c, d, cd', sl, ho⟩
theorem Jv6 {K : W.Frag} {x D : Addr} (e : ExI K D) : W.KitX K (.ref x) (.ref D) (fun h => ∃ ox, h.get? x = some ox /\ ox.cls = .ref D) where
 ty := fun _ _ _ ⟨ox, hx, hc⟩ => hc ▸ (W.Looks.ld hx).andThen .now
 it := fun _ _ X _ => by
  obtain ⟨c, d, cd, sl, ho⟩ := e.at_
  intro A' Q' E' s' kp q
  unfold isType
  unfold loadHead
  exact wpAny_bind (wpAny_loadPart (kp _ _ (X D _ ho)) (wpAny_pure q))
 ne := fun h tp dd its n sl X htp => by
  obtain ⟨c, d, cd, sl', ho⟩ := e.at_
  rw [Bool.eq_false_iff]
  intro q
  cases (Value.ref.inj (beq_iff_eq.mp q))
  have z := (X D _ ho).symm.trans htp
  cases z
 ca := fun X ⟨ox, hx, hc⟩ k => Jx1 X hx hc e.ga e.mb e.gn e.ca e.mo k
end L3
namespace L3
open PySem PySem.Spec PyProof.Rows L2
noncomputable def Jlr (n : Nat) (vs : List IV) : ISt := vs.map some ++ List.replicate (n - vs.length) none
noncomputable def SRes.fin (r : SRes) : Res IV := match r with
 | .next _ h' => .ok .non h'
 | .ret v h' => .ok v h'
 | .exc n _ h' => (match h'[n]? with
  | some (.exc _ _) => .exc n h'
  | _ => .stuck)
 | _ => .stuck
noncomputable def fnI (n : Nat) (m : S1) : List IV -> IH -> Res IV := fun vs h => (m (Jlr n vs) h).fin
noncomputable def spI (ce : Str -> Option Addr) (K : W.Frag) (ps : List Str) (f : List IV -> IH -> Res IV) : Sp := fun vs H Q E =>
 vs.length = ps.length /\ ∃ ι h ivs, Rel ce K ι h H /\ RVs K ι H ivs vs /\
  match f ivs h with
  | .ok v h' => ∀ x H' ι', Rel ce K ι' h' H' -> Nxt ι H ι' H' -> RV K ι' H' v x -> Q x H'
  | .exc n h' => ∀ a H' ι', Rel ce K ι' h' H' -> Nxt ι H ι' H' -> ι'[n]? = some a -> E (.ref a) none H'
  | .stuck => False
theorem RVs.start {K : W.Frag} {ι : List Addr} {H : Hp} {N : List Str} {ivs : List IV} {vs : List V} (r : RVs K ι H ivs vs) : RSt K ι H (Jlr N.length ivs) (L2.start N vs) := by
 have hl := r.length
 refine ⟨by simp [Jlr, L2.start, hl], fun j v e => ?_⟩
 unfold Jlr at e
 unfold L2.start
 by_cases hj : j < ivs.length
 ·rw [List.getElem?_append_left (by simpa using hj), List.getElem?_map] at e
  rw [List.getElem?_append_left (by simp; omega), List.getElem?_map]
  cases e1 : ivs[j]? with
  | none => rw [e1] at e; cases e
  | some w =>
   rw [e1] at e
   cases e
   obtain ⟨u, hu, q⟩ := r.get e1
   exact ⟨u, by rw [hu]; rfl, q⟩
 ·rw [List.getElem?_append_right (by simpa using hj), List.getElem?_replicate] at e
  split at e <;> cases e
theorem Jmk {α : Type} : ∀ {l : List α} {i : Nat} {x : α}, l[i]? = some x -> l.set i x = l
 | [], _, _, e => by simp at e
 | a :: l, 0, x, e => by cases e; rfl
 | a :: l, i + 1, x, e => by
  show a :: l.set i x = a :: l
  rw [Jmk (l := l) e]
theorem Jwr {ce : Str -> Option Addr} {K : W.Frag} {ι : List Addr} {h : IH} {H : Hp} {i : Nat} {o : IO} {a : Addr} (R : Rel ce K ι h H) (e : h[i]? = some o) (q : ι[i]? = some a) : RO ce K ι H a o := by
 obtain ⟨b, e1, r⟩ := R.at_ i o e
 rw [q] at e1
 cases e1
 exact r
structure FunD (K : W.Frag) (x qual : Str) (st : Stmt) (f : Addr) (fd : FuncData) (dV : Value) : Prop where
 ex : ∃ (oc : Value) (od : Option Addr) (kV doc pm : Value) (an : Option Addr) (cdv ct : Value) (osl : Array (Option Value)),
  fd = W.fnOf x qual (Jl st) (Jh st) (Jb st) dV kV doc pm an cdv ct /\ K.lookup f = some ⟨oc, od, .func fd, osl⟩ /\ W.codeIn K cdv qual = true
 kp : W.keepIn K (.ref f) = true
section
variable {P : Program} {w : World} {K : W.Frag} {mg : Str -> Option Value} {base : Heap} {ce : Str -> Option Addr}
theorem FunD.fn {x qual : Str} {st : Stmt} {f : Addr} {fd : FuncData} {dV : Value} {N ps : List Str} {k n : Nat} {m : S1} (F : FunD K x qual st f fd dV) (S : FnScope N ps (Jb st))
  (hbody : ∀ (cdv : Value) (A : Around) (outer : List Env) (s : Shared) (H : Hp) (E : XK), W.codeIn K cdv qual = true -> Room k (A.deeper (envOfC qual (Jb st) s.heap.objs.size f cdv)) -> PS2 ce (cxOf (CXI P w) P w K mg base N qual (Jb st) f cdv A outer s H E).nox (Jh st) m) (hn : N.length = n := by rfl) :
  FnOk P w K mg base (CXI P w) (k + 1) f fd ps (spI ce K ps (fnI n m)) := by
 subst hn
 obtain ⟨oc, od, kV, doc, pm, an, cdv, ct, osl, rfl, lk, hcd⟩ := F.ex
 refine J14 lk hcd S (fun vs H Q E h => h.1) fun A outer s H vs Q E hr hsp => ?_
 obtain ⟨hl, ι, h, ivs, R, rv, hk⟩ := hsp
 refine ⟨fun D σ H => ∃ ι σi h, Rel ce K ι h H /\ RSt K ι H σi σ /\ match m σi h with
  | .next σi' h' => ∀ σ' H' ι', Rel ce K ι' h' H' -> RSt K ι' H' σi' σ' -> Nxt ι H ι' H' -> D.nx σ' H'
  | .ret v h' => ∀ x H' ι', Rel ce K ι' h' H' -> Nxt ι H ι' H' -> RV K ι' H' v x -> D.rt x H'
  | .exc n _ h' => (∃ c fs, h'[n]? = some (.exc c fs)) /\ ∀ a H' ι', Rel ce K ι' h' H' -> Nxt ι H ι' H' -> ι'[n]? = some a -> E (.ref a) none H'
  | _ => False, fun pins s' σ' H' D I ht => ?_, ι, Jlr N.length ivs, h, R, rv.start, ?_⟩
 ·obtain ⟨ι, σi, h, R, rs, hm⟩ := ht
  refine wpAny_mono (hbody cdv A outer s H E hcd hr pins s' σ' H' ι σi h (SP _ pins D) _ ⟨I.wish _, R, rs⟩ ?_) (fun _ _ z => z) (fun _ _ z => z)
  cases e : m σi h with
  | next σ2 h2 =>
   rw [e] at hm
   exact fun s3 σ3 H3 ι3 N3 n3 => ⟨σ3, H3, N3.inv.unwish, hm σ3 H3 ι3 N3.rel N3.st n3⟩
  | ret v h2 =>
   rw [e] at hm
   exact fun u s3 σ3i σ3 H3 ι3 N3 n3 ⟨z, rz, q⟩ => ⟨z, σ3, H3, N3.inv.unwish, rz, hm z H3 ι3 N3.rel n3 q⟩
  | exc j σ2 h2 =>
   rw [e] at hm
   obtain ⟨⟨c, fs, hj⟩, hm⟩ := hm
   intro pl a s3 σ3 H3 ι3 N3 n3 hi
   have I3 := N3.inv.unwish
   obtain ⟨fe, C, tv, hC, ha, ht⟩ := Jwr N3.rel hj hi
   refine Js5 I3 rfl rfl ha ht fun T oT h' p => ?_
   have nl : s.heap.get? s.heap.objs.size = none := Heap.get?_none_of_le (Nat.le_refl _)
   obtain ⟨R4, n4⟩ := N3.rel.grow (o := .frz oT (.own 0)) p.new
   have ha4 : upd H3 T (.frz oT (.own 0)) a = some (ExF a C tv) := by rw [Jg (Ne.symm p.ne)]; exact ha
   obtain ⟨R5, n5⟩ := R4.write hi ha4 (by rw [ha4]; trivial) (o := ExF a C (.ref T)) (io := .exc c fs) ⟨fe, C, .ref T, hC, Jk, .inr ⟨T, oT, _, rfl, by rw [Jg p.ne, Jk], p.fld.choose_spec⟩⟩
   rw [Jmk hj] at R5
   exact ⟨_, I3.os, I3.bare, Un.tail I3.base p.un nl, p.hok, hm a _ ι3 R5 ((n3.trans n4).trans n5) hi⟩
  | _ => rw [e] at hm; exact hm.elim
 ·unfold fnI SRes.fin at hk
  cases e : m (Jlr N.length ivs) h with
  | next σ2 h2 =>
   rw [e] at hk
   exact fun σ3 H3 ι3 R3 _ n3 => hk .non H3 ι3 R3 n3 rfl
  | ret v h2 =>
   rw [e] at hk
   exact hk
  | exc j σ2 h2 =>
   rw [e] at hk
   dsimp only at hk
   cases q : h2[j]? with
   | none => rw [q] at hk; exact hk.elim
   | some o =>
    cases o with
    | exc c fs => rw [q] at hk; exact ⟨⟨c, fs, q⟩, hk⟩
    | _ => rw [q] at hk; exact hk.elim
  | _ => rw [e] at hk; exact hk.elim
end
noncomputable def Res.nx {α : Type} : Res α -> Res α
 | .ok a h => .ok a h
 | _ => .stuck
noncomputable def Jy (f : List IV -> IH -> Res IV) (dvs : List IV) (a : A1) : E1 := fun σ h => (a σ h).bind fun vs h1 => f (vs ++ dvs) h1
noncomputable def Jkq (c : Str) (f : List IV -> IH -> Res IV) (dvs : List IV) (a : A1) : E1 := fun σ h => (a σ h).bind fun vs h1 => (f (.ref h1.length :: (vs ++ dvs)) (h1 ++ [.ins c []])).bind fun r h2 => match r with
 | .non => .ok (.ref h1.length) h2
 | _ => .stuck
noncomputable def Jtp (m : Str) (disp : Str -> Option ((List IV -> IH -> Res IV) × List IV)) (o : E1) (a : A1) : E1 := fun σ h => (o σ h).bind fun v h1 => match v with
 | .ref i => (match h1[i]? with
  | some (.ins c fs) => (match disp c, fs.lookup m with
   | some (f, dvs), none => (a σ h1).bind fun vs h2 => f (.ref i :: (vs ++ dvs)) h2
   | _, _ => .stuck)
  | _ => .stuck)
 | _ => .stuck
section
variable {ce : Str -> Option Addr} {X : Cx} {k : Nat} {fa C : Addr} {fd : FuncData} {ps : List Str} {f : List IV -> IH -> Res IV} {dvs : List IV} {ds : List Value} {x m : Str} {p pos apos : Pos} {e o : Expr} {es : List Expr} {mo : E1} {ma : A1}
theorem RUs.vals {K : W.Frag} {ι : List Addr} {H : Hp} {xs : List IV} {us : List Value} (r : RUs K ι H xs us) : ∃ vs, Vals vs us /\ RVs K ι H xs vs := r
theorem Jmc {pins : List (Addr × Obj)} {σ : L2.St} {H : Hp} {ι : List Addr} {σi : ISt} {h : IH} {s : Shared} {Q : Value -> Shared -> Prop} {E : Value -> Shared -> Prop} {us : List Value} {xs : List IV} (F : FnOk X.prog X.w X.K X.mg X.base (CXI X.prog X.w) k fa fd ps (spI ce X.K ps f)) (hr : Room k X.A) (hb : Jg1 X.K fd ps ds)
  (hd : ∃ vs, Vals vs ds /\ ∀ ι H, RVs X.K ι H dvs vs) (hlen : us.length + ds.length = ps.length) (N : Now ce X pins ι σi h σ H s) (r : RUs X.K ι H xs us) (K : Kont ce X RU pins ι σi σ H (f (xs ++ dvs) h) Q E) : wpAny (model X.prog X.w) X.A (call (.ref fa) us) Q E s := by
 obtain ⟨vs, rv, q⟩ := r
 obtain ⟨dv, rd, qd⟩ := hd
 have hl1 := rv.length
 have hl2 := rd.length
 refine wpAny_mono (Jyf (Q := fun z H' => ∀ u s', Inv X pins σ H' s' -> RelV z u -> Q u s') (E := fun v _ H' => ∀ s', Inv X pins σ H' s' -> E v s') F hr hb rd N.inv rv ⟨by rw [List.length_append]; omega, ι, h, xs ++ dvs, N.rel, q.append (qd ι H), ?_⟩ fun _ s' _ I' z => z s' I')
  (fun u s' ⟨z, H', I', r', k'⟩ => k' u s' I' r') fun _ _ z => z
 cases e : f (xs ++ dvs) h with
 | ok v h' =>
  rw [e] at K
  exact fun z H' ι' R' n' qz u s' I' ru => K u s' H' ι' ⟨I', R', N.st.mono n'⟩ n' ⟨z, ru, qz⟩
 | exc n h' =>
  rw [e] at K
  exact fun a H' ι' R' n' hi s' I' => K [] a s' H' ι' ⟨by simpa using I', R', N.st.mono n'⟩ n' hi
 | stuck => rw [e] at K; exact K
theorem Jz6 (F : FnOk X.prog X.w X.K X.mg X.base (CXI X.prog X.w) k fa fd ps (spI ce X.K ps f)) (hr : Room k X.A) (hg : Gl X x) (hm : X.mg x = some (.ref fa)) (hk : W.keepIn X.K (.ref fa) = true) (hb : Jg1 X.K fd ps ds) (hd : ∃ vs, Vals vs ds /\ ∀ ι H, RVs X.K ι H dvs vs)
  (ha : PAi ce X (e :: es) ma) (hlen : ∀ σ h xs h', ma σ h = .ok xs h' -> xs.length + ds.length = ps.length) (hdb : (x == ("__debug__" : Str)) = false := by decide) (he : starEach (e :: es) X.env = (false, eval e X.env) :: starEach es X.env := by rfl) (hpl : (backTo pos (starEach es X.env)).any (·.1) = false := by rfl) :
  PEi ce X (.Call (.Name x p) (e :: es) [] pos) (Jy f dvs ma) := by
 intro pins s σ H ι σi h Q E N K
 refine wpAny_Call_Name_kw (Jg4 N.inv hg hm ?_ hdb)
 refine W.callWith_K (h₀ := X.base) N.inv.ok.mod.kin hk ?_ he hpl
 have K' := K
 unfold Jy at K'
 refine ha pos pins s σ H ι σi h _ E N ?_
 cases e0 : ma σi h with
 | exc n h' => rw [e0] at K'; exact K'
 | stuck => rw [e0] at K'; exact K'
 | ok xs h' =>
  rw [e0] at K'
  intro us s1 H1 ι1 N1 n1 r1
  have hl : xs.length = us.length := by
   obtain ⟨vs, rv, q⟩ := r1
   rw [<- rv.length, q.length]
  exact ⟨N1.inv.kIn, Jmc (us := us) F hr hb hd (by have := hlen σi h xs h' e0; omega) N1 r1 (Kont.mono (r := (f (xs ++ dvs) h')) K' n1)⟩
theorem Jzd (F : FnOk X.prog X.w X.K X.mg X.base (CXI X.prog X.w) k fa fd ps (spI ce X.K ps f)) (hr : Room k X.A) (hg : Gl X x) (hm : X.mg x = some (.ref fa)) (hk : W.keepIn X.K (.ref fa) = true) (hb : Jg1 X.K fd ps ds) (hd : ∃ vs, Vals vs ds /\ ∀ ι H, RVs X.K ι H dvs vs)
  (hlen : ds.length = ps.length) (hdb : (x == ("__debug__" : Str)) = false := by decide) : PEi ce X (.Call (.Name x p) [] [] pos) (Jy f dvs aNil) := by
 intro pins s σ H ι σi h Q E N K
 refine wpAny_Call_Name_kw (Jg4 N.inv hg hm ?_ hdb)
 exact W.callWith_K0 N.inv.kIn hk (Jmc (xs := []) F hr hb hd (by simpa using hlen) N .nil K)
theorem Joj {c : Str} {pins : List (Addr × Obj)} {σ : L2.St} {H : Hp} {ι : List Addr} {σi : ISt} {h : IH} {s : Shared} {Q : Value -> Shared -> Prop} {E : Value -> Shared -> Prop} {us : List Value} {xs : List IV} (M : Mk X.K C fa) (F : FnOk X.prog X.w X.K X.mg X.base (CXI X.prog X.w) k fa fd ps (spI ce X.K ps f)) (hC : ce c = some C) (hr : Room (k + 1) X.A) (hb : Jg1 X.K fd ps ds)
  (hd : ∃ vs, Vals vs ds /\ ∀ ι H, RVs X.K ι H dvs vs) (hlen : us.length + ds.length + 1 = ps.length) (N : Now ce X pins ι σi h σ H s) (r : RUs X.K ι H xs us)
  (K : Kont ce X RU pins ι σi σ H ((f (.ref h.length :: (xs ++ dvs)) (h ++ [.ins c []])).bind fun r h2 => match r with | .non => .ok (.ref h.length) h2 | _ => .stuck) Q E) : wpAny (model X.prog X.w) X.A (call (.ref C) us) Q E s := by
 obtain ⟨vs, rv, q⟩ := r
 obtain ⟨dv, rd, qd⟩ := hd
 have hl1 := rv.length
 have hl2 := rd.length
 refine wpAny_mono (Jux (Q := fun z H' => ∀ u s', Inv X pins σ H' s' -> RelV z u -> Q u s') (E := fun v _ H' => ∀ s', Inv X pins σ H' s' -> E v s') M F hr hb rd N.inv rv (fun x dx hx hdx hne => ⟨by rw [List.length_cons, List.length_append]; omega, ?_⟩) fun _ s' _ I' z => z s' I')
  (fun u s' ⟨z, H', I', r', k'⟩ => k' u s' I' r') fun _ _ z => z
 -- the new instance in the reading's heap
 obtain ⟨R1, n1⟩ := N.rel.grow (o := .own x) hdx
 have hx1 : upd H dx (.own x) x = none := by rw [Jg (Ne.symm hne)]; exact hx
 obtain ⟨R2, n2⟩ := R1.alloc (o := .ins C dx []) (io := .ins c []) hx1 ⟨C, dx, [], hC, Jk, rfl⟩
 have n12 := n1.trans n2
 have hat : (ι ++ [x])[h.length]? = some x := by
  rw [<- N.rel.len, List.getElem?_append_right (Nat.le_refl _)]
  simp
 refine ⟨ι ++ [x], h ++ [.ins c []], .ref h.length :: (xs ++ dvs), R2, ⟨_, _, rfl, ⟨x, rfl, hat⟩, (RVs.mono n12 _ _ q).append (qd _ _)⟩, ?_⟩
 cases e : f (.ref h.length :: (xs ++ dvs)) (h ++ [.ins c []]) with
 | ok v h' =>
  rw [e] at K
  intro z H' ι' R' n' qz
  cases v with
  | non =>
   have ez : z = .non := qz
   subst ez
   exact ⟨rfl, fun u s' I' ru => K u s' H' ι' ⟨I', R', N.st.mono (n12.trans n')⟩ (n12.trans n') ⟨.ref x, ru, x, rfl, n'.at hat⟩⟩
  | _ => exact Zf K
 | exc n h' =>
  rw [e] at K
  exact fun a H' ι' R' n' hi s' I' => K [] a s' H' ι' ⟨by simpa using I', R', N.st.mono (n12.trans n')⟩ (n12.trans n') hi
 | stuck => rw [e] at K; exact Zf K
theorem J0u {c : Str} (M : Mk X.K C fa) (F : FnOk X.prog X.w X.K X.mg X.base (CXI X.prog X.w) k fa fd ps (spI ce X.K ps f)) (hC : ce c = some C) (hr : Room (k + 1) X.A) (hg : Gl X x) (hm : X.mg x = some (.ref C)) (hb : Jg1 X.K fd ps ds) (hd : ∃ vs, Vals vs ds /\ ∀ ι H, RVs X.K ι H dvs vs)
  (ha : PAi ce X (e :: es) ma) (hlen : ∀ σ h xs h', ma σ h = .ok xs h' -> xs.length + ds.length + 1 = ps.length) (hdb : (x == ("__debug__" : Str)) = false := by decide) (he : starEach (e :: es) X.env = (false, eval e X.env) :: starEach es X.env := by rfl) (hpl : (backTo pos (starEach es X.env)).any (·.1) = false := by rfl) :
  PEi ce X (.Call (.Name x p) (e :: es) [] pos) (Jkq c f dvs ma) := by
 intro pins s σ H ι σi h Q E N K
 refine wpAny_Call_Name_kw (Jg4 N.inv hg hm ?_ hdb)
 refine W.callWith_K (h₀ := X.base) N.inv.ok.mod.kin M.kp ?_ he hpl
 have K' := K
 unfold Jkq at K'
 refine ha pos pins s σ H ι σi h _ E N ?_
 cases e0 : ma σi h with
 | exc n h' => rw [e0] at K'; exact K'
 | stuck => rw [e0] at K'; exact K'
 | ok xs h' =>
  rw [e0] at K'
  intro us s1 H1 ι1 N1 n1 r1
  have hl : xs.length = us.length := by
   obtain ⟨vs, rv, q⟩ := r1
   rw [<- rv.length, q.length]
  exact ⟨N1.inv.kIn, Joj (us := us) M F hC hr hb hd (by have := hlen σi h xs h' e0; omega) N1 r1 (Kont.mono (r := (f (IV.ref h'.length :: (xs ++ dvs)) (h' ++ [.ins c []])).bind fun r h2 => match r with | IV.non => Res.ok (IV.ref h'.length) h2 | _ => Res.stuck) K' n1)⟩
theorem Jx2 {c : Str} (M : Mk X.K C fa) (F : FnOk X.prog X.w X.K X.mg X.base (CXI X.prog X.w) k fa fd ps (spI ce X.K ps f)) (hC : ce c = some C) (hr : Room (k + 1) X.A) (hg : Gl X x) (hm : X.mg x = some (.ref C)) (hb : Jg1 X.K fd ps ds) (hd : ∃ vs, Vals vs ds /\ ∀ ι H, RVs X.K ι H dvs vs)
  (hlen : ds.length + 1 = ps.length) (hdb : (x == ("__debug__" : Str)) = false := by decide) : PEi ce X (.Call (.Name x p) [] [] pos) (Jkq c f dvs aNil) := by
 intro pins s σ H ι σi h Q E N K
 refine wpAny_Call_Name_kw (Jg4 N.inv hg hm ?_ hdb)
 exact W.callWith_K0 N.inv.kIn M.kp (Joj (xs := []) M F hC hr hb hd (by simpa using hlen) N .nil K)
noncomputable def Jt2 (ce : Str -> Option Addr) (X : Cx) (m : Str) (n : Nat) (disp : Str -> Option ((List IV -> IH -> Res IV) × List IV)) : Prop :=
 ∀ c f dvs, disp c = some (f, dvs) -> ∃ (C fa : Addr) (fd : FuncData) (k : Nat) (ps : List Str) (ds : List Value), ce c = some C /\ Cls X.K C /\ Meth X.K C m fa /\ FnOk X.prog X.w X.K X.mg X.base (CXI X.prog X.w) k fa fd ps (spI ce X.K ps f) /\ Room k X.A /\ Jg1 X.K fd ps ds /\ (∃ vs, Vals vs ds /\ ∀ ι H, RVs X.K ι H dvs vs) /\ n + ds.length + 1 = ps.length
theorem J1t {n : Nat} {disp : Str -> Option ((List IV -> IH -> Res IV) × List IV)} {pl : Sem Bool} (ho : PEi ce X o mo) (hd : Jt2 ce X m n disp) (ha : PAi ce X (e :: es) ma) (hlen : ∀ σ h xs h', ma σ h = .ok xs h' -> xs.length = n)
  (hst : starEach (e :: es) X.env = (false, eval e X.env) :: starEach es X.env := by rfl) (hpl : (backTo pos (starEach es X.env)).any (·.1) = false := by rfl)
  (ht : eval (.Call (.Attribute o m apos) (e :: es) [] pos) X.env = (do
   let ov <- eval o X.env
   standAt apos.atName
   let (f, first) <- holding [ov] (getMethod ov m pl)
   callWith pos f first (backTo pos (starEach (e :: es) X.env)) (backToKw pos (keywordEach [] X.env))) := by rfl) :
  PEi ce X (.Call (.Attribute o m apos) (e :: es) [] pos) (Jtp m disp mo ma) := by
 intro pins s σ H ι σi h Q E N K
 refine W.methodCall_KW (pl := pl) (ho.run N K fun v h1 u s1 H1 ι1 N1 n1 r1 K1 => ?_) ht
 cases v with
 | ref i =>
  obtain ⟨w, rw', a, e1, hi⟩ := r1
  subst e1
  cases rw'
  dsimp only at K1
  cases hh : h1[i]? with
  | none => rw [hh] at K1; exact Zf K1
  | some ob =>
   cases ob with
   | ins c fs =>
    rw [hh] at K1
    dsimp only at K1
    cases hd1 : disp c with
    | none => rw [hd1] at K1; exact Zf K1
    | some fd1 =>
     obtain ⟨f, dvs⟩ := fd1
     cases hl : fs.lookup m with
     | some z => rw [hd1, hl] at K1; exact Zf K1
     | none =>
      rw [hd1, hl] at K1
      dsimp only at K1
      obtain ⟨C, fa, fd, k, ps, ds, hC, cl, hm, F, hr, hb, hdv, hn⟩ := hd c f dvs hd1
      obtain ⟨C', dx, vs, hC', hH, rp⟩ := N1.at hh hi
      rw [hC] at hC'
      cases hC'
      refine Jlg N1.inv hH cl hm ((RPs.lookup rp).2 hl) ?_
      refine W.callWith_K (first := [.ref a]) (h₀ := X.base) N1.inv.ok.mod.kin hm.kp ?_ hst hpl
      refine ha pos pins s1 σ H1 ι1 σi h1 _ E N1 ?_
      cases e0 : ma σi h1 with
      | exc n h' => rw [e0] at K1; exact K1
      | stuck => rw [e0] at K1; exact K1
      | ok xs h' =>
       rw [e0] at K1
       intro us s2 H2 ι2 N2 n2 r2
       have hl : xs.length = us.length := by
        obtain ⟨vs, rv, q⟩ := r2
        rw [<- rv.length, q.length]
       have hl2 := hlen σi h1 xs h' e0
       refine ⟨N2.inv.kIn, Jmc (us := .ref a :: us) (xs := .ref i :: xs) F hr hb hdv (by rw [List.length_cons]; omega) N2 (.cons ⟨.ref a, rfl, a, rfl, n2.at hi⟩ r2) ?_⟩
       exact Kont.mono (r := (f (.ref i :: (xs ++ dvs)) h')) K1 n2
   | _ => rw [hh] at K1; exact Zf K1
 | _ => exact Zf K1
theorem Jx3 {disp : Str -> Option ((List IV -> IH -> Res IV) × List IV)} {pl : Sem Bool} (ho : PEi ce X o mo) (hd : Jt2 ce X m 0 disp)
  (ht : eval (.Call (.Attribute o m apos) [] [] pos) X.env = (do
   let ov <- eval o X.env
   standAt apos.atName
   let (f, first) <- holding [ov] (getMethod ov m pl)
   callWith pos f first (backTo pos (starEach [] X.env)) (backToKw pos (keywordEach [] X.env))) := by rfl) :
  PEi ce X (.Call (.Attribute o m apos) [] [] pos) (Jtp m disp mo aNil) := by
 intro pins s σ H ι σi h Q E N K
 refine W.methodCall_KW (pl := pl) (ho.run N K fun v h1 u s1 H1 ι1 N1 n1 r1 K1 => ?_) ht
 cases v with
 | ref i =>
  obtain ⟨w, rw', a, e1, hi⟩ := r1
  subst e1
  cases rw'
  dsimp only at K1
  cases hh : h1[i]? with
  | none => rw [hh] at K1; exact Zf K1
  | some ob =>
   cases ob with
   | ins c fs =>
    rw [hh] at K1
    dsimp only at K1
    cases hd1 : disp c with
    | none => rw [hd1] at K1; exact Zf K1
    | some fd1 =>
     obtain ⟨f, dvs⟩ := fd1
     cases hl : fs.lookup m with
     | some z => rw [hd1, hl] at K1; exact Zf K1
     | none =>
      rw [hd1, hl] at K1
      dsimp only at K1
      obtain ⟨C, fa, fd, k, ps, ds, hC, cl, hm, F, hr, hb, hdv, hn⟩ := hd c f dvs hd1
      obtain ⟨C', dx, vs, hC', hH, rp⟩ := N1.at hh hi
      rw [hC] at hC'
      cases hC'
      refine Jlg N1.inv hH cl hm ((RPs.lookup rp).2 hl) ?_
      exact W.callWith_K0 (first := [.ref a]) N1.inv.kIn hm.kp (Jmc (us := [.ref a]) (xs := [.ref i]) F hr hb hdv (by rw [List.length_cons, List.length_nil]; omega) N1 (.cons ⟨.ref a, rfl, a, rfl, hi⟩ .nil) K1)
   | _ => rw [hh] at K1; exact Zf K1
 | _ => exact Zf K1
noncomputable def eFld (f : Str) (o : E1) : E1 := fun σ h => (o σ h).bind fun v h1 => match v with
 | .ref i => (match h1[i]? with
  | some (.ins _ fs) => (match fs.lookup f with
   | some x => .ok x h1
   | none => .stuck)
  | _ => .stuck)
 | _ => .stuck
noncomputable def Jwh (ce : Str -> Option Addr) (K : W.Frag) (f : Str) : Prop := ∀ c C, ce c = some C -> Cls K C /\ Jh5 K C f
theorem i_fld {fl : Str} (ho : PEi ce X o mo) (hf : Jwh ce X.K fl) (hb : attributeBase o fl X.env (eval o X.env) = eval o X.env := by rfl) : PEi ce X (.Attribute o fl pos) (eFld fl mo) := by
 intro pins s σ H ι σi h Q E N K
 refine Jy5 hb (ho.run N K fun v h1 u s1 H1 ι1 N1 n1 r1 K1 => ?_)
 cases v with
 | ref i =>
  obtain ⟨w, rw', a, e1, hi⟩ := r1
  subst e1
  cases rw'
  dsimp only at K1
  cases hh : h1[i]? with
  | none => rw [hh] at K1; exact Zf K1
  | some ob =>
   cases ob with
   | ins c fs =>
    rw [hh] at K1
    dsimp only at K1
    cases hl : fs.lookup fl with
    | none => rw [hl] at K1; exact Zf K1
    | some z =>
     rw [hl] at K1
     obtain ⟨C, dx, vs, hC, hH, rp⟩ := N1.at hh hi
     obtain ⟨cl, na⟩ := hf c C hC
     obtain ⟨y, hy, q⟩ := (RPs.lookup rp).1 z hl
     exact Jr7 N1.inv hH cl na hy fun u' s2 I2 ru => K1 u' s2 H1 ι1 ⟨I2, N1.rel, N1.st⟩ .refl ⟨y, ru, q⟩
   | _ => rw [hh] at K1; exact Zf K1
 | _ => exact Zf K1
noncomputable def putI (f : Str) (v : IV) : List (Str × IV) -> List (Str × IV)
 | [] => [(f, v)]
 | (g, x) :: r => if g = f then (g, v) :: r else (g, x) :: putI f v r
theorem RPs.put {K : W.Frag} {ι : List Addr} {H : Hp} {fl : Str} {v : IV} {y : V} (q : RV K ι H v y) : ∀ {fs : List (Str × IV)} {vs : List (Str × V)}, RPs K ι H fs vs -> RPs K ι H (putI fl v fs) (putF fl y vs)
 | [], _, h => by
  have e : _ = [] := h
  subst e
  exact ⟨y, [], rfl, q, rfl⟩
 | (g, x) :: r, _, h => by
  obtain ⟨w, vr, e, qx, t⟩ := h
  subst e
  show RPs K ι H (if g = fl then (g, v) :: r else (g, x) :: putI fl v r) (if g = fl then (g, y) :: vr else (g, w) :: putF fl y vr)
  by_cases hg : g = fl
  ·rw [if_pos hg, if_pos hg]
   exact ⟨y, vr, rfl, q, t⟩
  ·rw [if_neg hg, if_neg hg]
   exact ⟨w, _, rfl, qx, RPs.put q t⟩
noncomputable def Jju (f : Str) (o e : E1) : S1 := fun σ h => rS σ (e σ h) fun v h1 => rS σ (o σ h1) fun ov h2 => match ov with
 | .ref i => (match h2[i]? with
  | some (.ins c fs) => if fs.length < 1000 then .next σ (h2.set i (.ins c (putI f v fs))) else .stuck
  | _ => .stuck)
 | _ => .stuck
theorem s_fld {fl : Str} {value : Expr} {mv : E1} {pos' : Pos} (ho : PEi ce X o mo) (hv : PEi ce X value mv) (hf : Jwh ce X.K fl) (hs : swapsWith value (some (.Attribute o fl pos')) pos.line X.env = pure false := by rfl) : PS1 ce X (.Assign [.Attribute o fl pos'] value pos) (Jju fl mo mv) := by
 intro pins s σ H ι σi h Q E N K
 refine plainObj_wpAny_Assign_Attribute (krun hv N K fun v h1 u s1 H1 ι1 N1 n1 r1 K1 => krun ho N1 K1 fun ov h2 w s2 H2 ι2 N2 n2 r2 K2 => ?_) hs
 cases ov with
 | ref i =>
  obtain ⟨w, rw', a, e1, hi⟩ := r2
  subst e1
  cases rw'
  dsimp only at K2
  cases hh : h2[i]? with
  | none => rw [hh] at K2; exact Zf K2
  | some ob =>
   cases ob with
   | ins c fs =>
    rw [hh] at K2
    dsimp only at K2
    split at K2
    ·rename_i hz
     obtain ⟨C, dx, vs, hC, hH, rp⟩ := N2.at hh hi
     obtain ⟨cl, na⟩ := hf c C hC
     obtain ⟨y, ry, q⟩ := r1
     refine Jsi N2.inv hH cl na (by rw [rp.length]; exact hz) ry fun s3 I3 => ?_
     have n3 : Nxt ι2 H2 ι2 (upd H2 a (.ins C dx (putF fl y vs))) := ⟨⟨[], by simp⟩, Ext.upd_mut hH (by rw [hH]; exact True.intro)⟩
     obtain ⟨R3, _⟩ := N2.rel.write (o := .ins C dx (putF fl y vs)) (io := .ins c (putI fl v fs)) hi hH (by rw [hH]; exact True.intro) ⟨C, dx, _, hC, Jk, RPs.put (RV.mono (n2.trans n3) _ _ q) (RPs.mono n3 _ _ rp)⟩
     exact K2 s3 σ _ ι2 ⟨I3, R3, N2.st.mono n3⟩ n3
    ·exact Zf K2
   | _ => rw [hh] at K2; exact Zf K2
 | _ => exact Zf K2
end
end L3
namespace L3
open PySem PySem.Spec PyProof.Rows L2
section
variable {ce : Str -> Option Addr} {X : Cx} {a b c : Expr} {ma mb mc : E1} {pos : Pos}
noncomputable def opIx : IV -> IV -> IH -> Res IV
 | .ref i, .int k, h => match h[i]? with
  | some (.lst xs) => (match atI xs k with
   | some v => .ok v h
   | none => .stuck)
  | _ => .stuck
 | .rol xs, .int k, h => match atI xs k with
  | some v => .ok v h
  | none => .stuck
 | .tup xs, .int k, h => match atI xs k with
  | some v => .ok v h
  | none => .stuck
 | .str x, .int k, h => if x.length <= sizeLine then (match atI x.cps.toList k with
  | some c => .ok (.str ⟨#[c]⟩) h
  | none => .stuck) else .stuck
 | _, _, _ => .stuck
theorem Jps {K : W.Frag} {ι : List Addr} {H : Hp} {xs : List IV} {vs : List V} {k : Int} {v : IV} (r : RVs K ι H xs vs) (e : atI xs k = some v) : ∃ u, atI vs k = some u /\ RV K ι H v u := by
 unfold atI at e ⊢
 rw [r.length]
 cases q : ixN xs.length k with
 | none => rw [q] at e; cases e
 | some j =>
  rw [q] at e
  exact r.get e
noncomputable def IxI (ce : Str -> Option Addr) (X : Cx) (g : IV -> IV -> IH -> Res IV) : Prop :=
 ∀ (value slice : Expr) (pins : List (Addr × Obj)) (s : Shared) (σ : L2.St) (H : Hp) (ι : List Addr) (σi : ISt) (h : IH) (x y : IV) (v u : Value) (Q : Value -> Shared -> Prop) (E : Value -> Shared -> Prop), Now ce X pins ι σi h σ H s -> RU X.K ι H x v -> RU X.K ι H y u ->
  Kont ce X RU pins ι σi σ H (g x y h) Q E -> subscripted slice false v u = operate [v, u] (getItem v u) -> wpAny (model X.prog X.w) X.A (subscriptTail value slice v u) Q E s
theorem Jqv {pins : List (Addr × Obj)} {s : Shared} {σ : L2.St} {H : Hp} {Q : Value -> Shared -> Prop} {E : Value -> Shared -> Prop} {r : R2} {value slice : Expr} {x y : V} {v u : Value} (p : IxR (X.wish E) r) (I : Inv X pins σ H s) (rx : RelV x v) (ry : RelV y u)
  (k : r x y H fun z H' => ∀ u s', Inv X pins σ H' s' -> RelV z u -> Q u s') (hs : subscripted slice false v u = operate [v, u] (getItem v u)) : wpAny (model X.prog X.w) X.A (subscriptTail value slice v u) Q E s :=
 wpAny_mono (p value slice pins s σ H x y v u _ (I.wish E) rx ry k hs) (fun u s' ⟨_, _, I', r, q⟩ => q u s' I'.unwish r) fun _ _ z => z
theorem x_ix : IxI ce X opIx := by
 intro value slice pins s σ H ι σi h x y v u Q E N rx ry K hs
 obtain ⟨xv, rx, qx⟩ := rx
 obtain ⟨yv, ry, qy⟩ := ry
 cases y with
 | int k =>
  have e2 : yv = .int k := qy
  subst e2
  cases x with
  | ref i =>
   obtain ⟨a, e1, ha⟩ := qx
   subst e1
   dsimp only [opIx] at K
   cases hi : h[i]? with
   | none => rw [hi] at K; exact Zf K
   | some ob =>
    rw [hi] at K
    cases ob with
    | lst xs =>
     dsimp only at K
     cases hk : atI xs k with
     | none => rw [hk] at K; exact Zf K
     | some z =>
      rw [hk] at K
      obtain ⟨vs, e1, r1⟩ := N.at hi ha
      obtain ⟨w, hw, qw⟩ := Jps r1 hk
      exact Jqv (Jta (X := X.wish E)) N.inv rx ry ⟨a, vs, k, w, rfl, rfl, SqL.of e1, hw, fin0 N K qw⟩ hs
    | _ => exact Zf K
  | rol xs =>
   obtain ⟨a, vs, e1, sa, ra⟩ := qx
   subst e1
   dsimp only [opIx] at K
   cases hk : atI xs k with
   | none => rw [hk] at K; exact Zf K
   | some z =>
    rw [hk] at K
    obtain ⟨w, hw, qw⟩ := Jps ra hk
    exact Jqv (Jta (X := X.wish E)) N.inv rx ry ⟨a, vs, k, w, rfl, rfl, sa.sq, hw, fin0 N K qw⟩ hs
  | tup xs =>
   obtain ⟨a, vs, e1, sa, ra⟩ := qx
   subst e1
   dsimp only [opIx] at K
   cases hk : atI xs k with
   | none => rw [hk] at K; exact Zf K
   | some z =>
    rw [hk] at K
    obtain ⟨w, hw, qw⟩ := Jps ra hk
    exact Jqv (J0q (X := X.wish E)) N.inv rx ry ⟨a, vs, k, w, rfl, rfl, sa, hw, fin0 N K qw⟩ hs
  | str x =>
   have e1 : xv = .str x := qx
   subst e1
   dsimp only [opIx] at K
   split at K
   ·rename_i hz
    cases hk : atI x.cps.toList k with
    | none => rw [hk] at K; exact Zf K
    | some z =>
     rw [hk] at K
     exact Jqv (Jzy (X := X.wish E)) N.inv rx ry ⟨x, k, z, rfl, rfl, hz, hk, fin0 N K rfl⟩ hs
   ·exact Zf K
  | _ => exact Zf K
 | _ => cases x <;> exact Zf K
theorem i_ix {g : IV -> IV -> IH -> Res IV} (hg : IxI ce X g) (ha : PEi ce X a ma) (hb : PEi ce X b mb) (hs : Juw b := by intro _ _; rfl) : PEi ce X (.Subscript a b pos) (eBin g ma mb) := fun pins s σ H ι σi h Q E N K =>
 Subscript_ (ha.run N K fun x h1 u s1 H1 ι1 N1 n1 r1 K1 => hb.run N1 K1 fun y h2 w s2 H2 ι2 N2 n2 r2 K2 => hg a b pins s2 σ H2 ι2 σi h2 x y u w Q E N2 (r1.mono n2) r2 K2 (hs _ _))
noncomputable abbrev O1 := ISt -> IH -> Res (Option Int)
noncomputable def RPart : REL (Option Int) Value := fun _ _ _ o u => IsPart u o
noncomputable def PPi (ce : Str -> Option Addr) (X : Cx) (e : Option Expr) (m : O1) : Prop := PX ce X RPart (evalPart e X.env) m
noncomputable def Jmh : O1 := fun _ h => .ok none h
noncomputable def Jle (e : E1) : O1 := fun σ h => (e σ h).bind fun v h1 => match v with
 | .int i => .ok (some i) h1
 | _ => .stuck
theorem J1b : PPi ce X none Jmh := by
 intro pins s σ H ι σi h Q E N K
 rw [evalPart_none]
 exact wpAny_pure (K _ s H ι N .refl .none)
theorem J1u (ha : PEi ce X a ma) : PPi ce X (some a) (Jle ma) := by
 intro pins s σ H ι σi h Q E N K
 rw [evalPart_some]
 refine ha.run N K fun x h1 u s1 H1 ι1 N1 n1 r1 K1 => ?_
 cases x with
 | int i =>
  obtain ⟨w, rw', q⟩ := r1
  have e : w = .int i := q
  subst e
  obtain ⟨t, rfl⟩ := rw'
  exact K1 _ s1 H1 ι1 N1 .refl (.int i t)
 | _ => exact Zf K1
noncomputable def cutI {α : Type} (xs : List α) (lo hi : Option Int) : List α := (xs.drop (HT.sIx xs.length 0 lo)).take (HT.sIx xs.length xs.length hi - HT.sIx xs.length 0 lo)
noncomputable def slI : IV -> Option Int -> Option Int -> IH -> Res IV
 | .ref i, lo, hi, h => match h[i]? with
  | some (.lst xs) => .ok (.ref h.length) (h ++ [.lst (cutI xs lo hi)])
  | _ => .stuck
 | .rol xs, lo, hi, h => .ok (.ref h.length) (h ++ [.lst (cutI xs lo hi)])
 | .tup xs, lo, hi, h => if HT.sIx xs.length 0 lo = 0 /\ HT.sIx xs.length xs.length hi = xs.length then .stuck else .ok (.tup (cutI xs lo hi)) h
 | _, _, _, _ => .stuck
theorem RVs.cut {K : W.Frag} {ι : List Addr} {H : Hp} {xs : List IV} {vs : List V} (r : RVs K ι H xs vs) (lo hi : Option Int) : RVs K ι H (cutI xs lo hi) (cutV vs lo hi) := by
 unfold cutI cutV
 rw [r.length]
 exact (r.drop _).take _
noncomputable def eSl (f : IV -> Option Int -> Option Int -> IH -> Res IV) (e : E1) (lo hi : O1) : E1 := fun σ h => (e σ h).bind fun x h1 => (lo σ h1).bind fun l h2 => (hi σ h2).bind fun u h3 => f x l u h3
noncomputable def SlI (ce : Str -> Option Addr) (X : Cx) (g : IV -> Option Int -> Option Int -> IH -> Res IV) : Prop :=
 ∀ (pins : List (Addr × Obj)) (s : Shared) (σ : L2.St) (H : Hp) (ι : List Addr) (σi : ISt) (h : IH) (x : IV) (v vl vu : Value) (lo hi : Option Int) (sl : Addr) (Q : Value -> Shared -> Prop) (E : Value -> Shared -> Prop), Now ce X pins ι σi h σ H s -> RU X.K ι H x v -> s.heap.IsSliceOf sl vl vu .none -> IsPart vl lo -> IsPart vu hi ->
  Kont ce X RU pins ι σi σ H (g x lo hi h) Q E -> ∃ T id, typeLookup (.type T) "__getitem__" = pure (some (.builtin id)) /\ s.TypeIs v T /\ wpAny (model X.prog X.w) X.A (getItem v (.ref sl)) Q E s
theorem Jtz {pins : List (Addr × Obj)} {s : Shared} {σ : L2.St} {H : Hp} {Q : Value -> Shared -> Prop} {E : Value -> Shared -> Prop} {r : V -> Option Int -> Option Int -> Hp -> VK -> Prop} {x : V} {v vl vu : Value} {lo hi : Option Int} {sl : Addr} (p : SlR (X.wish E) r) (I : Inv X pins σ H s) (rx : RelV x v)
  (hs : s.heap.IsSliceOf sl vl vu .none) (pl : IsPart vl lo) (pu : IsPart vu hi) (k : r x lo hi H fun z H' => ∀ u s', Inv X pins σ H' s' -> RelV z u -> Q u s') :
  ∃ T id, typeLookup (.type T) "__getitem__" = pure (some (.builtin id)) /\ s.TypeIs v T /\ wpAny (model X.prog X.w) X.A (getItem v (.ref sl)) Q E s := by
 obtain ⟨T, id, h1, h2, h3⟩ := p pins s σ H x v vl vu lo hi sl _ (I.wish E) rx hs pl pu k
 exact ⟨T, id, h1, h2, wpAny_mono h3 (fun u s' ⟨_, _, I', r, q⟩ => q u s' I'.unwish r) fun _ _ z => z⟩
theorem Jx5 {g : IV -> Option Int -> Option Int -> IH -> Res IV} {lo hi : Option Expr} {ml mh : O1} {p2 : Pos} (hr : SlI ce X g) (he : PEi ce X a ma) (hl : PPi ce X lo ml) (hu : PPi ce X hi mh) : PEi ce X (.Subscript a (.Slice lo hi none p2) pos) (eSl g ma ml mh) := by
 intro pins s σ H ι σi h Q E N K
 refine Subscript_ (he.run N K fun x h1 v s1 H1 ι1 N1 n1 r1 K1 => ?_)
 refine wpAny_Slice (PX.run hl N1 K1 fun l h2 vl s2 H2 ι2 N2 n2 pl K2 => PX.run hu N2 K2 fun u h3 vu s3 H3 ι3 N3 n3 pu K3 => ?_)
 rw [evalPart_none]
 refine wpAny_pure ?_
 have I4 : Inv X pins σ H3 { s3 with heap := s3.heap.push { cls := .type "slice", data := .fields #[vl, vu, .none] } } := N3.inv.kept (t' := s3.toks) fun b ob q => Heap.get?_push_of_some _ q
 obtain ⟨T, id, hT, ht, hg⟩ := hr pins { s3 with heap := s3.heap.push { cls := .type "slice", data := .fields #[vl, vu, .none] } } σ H3 ι3 σi h3 x v vl vu l u s3.heap.objs.size Q E ⟨I4, N3.rel, N3.st⟩ ((r1.mono n2).mono n3) (Heap.IsSliceOf.new ..) pl pu K3
 show wpAny (model X.prog X.w) X.A (subscriptTail a (.Slice lo hi none p2) v (.ref s3.heap.objs.size)) Q E { s3 with heap := s3.heap.push { cls := .type "slice", data := .fields #[vl, vu, .none] } }
 exact tail_any (ops := [.ref s3.heap.objs.size, v]) ht hT hg (by with_unfolding_all rfl)
noncomputable def eCB (f : List IV -> IH -> Res IV) (a : A1) : E1 := fun σ h => (a σ h).bind f
variable {es : List Expr} {mr : A1} {x : Str} {p : Pos} {id T : String} {g : List IV -> IH -> Res IV}
theorem Jks (hc : Jkj ce X (.builtin id) g) (hg : Gl X x) (hm : X.mg x = none) (hv : bootBuiltins x = some (.builtin id)) (ha : PAi ce X (a :: es) mr) (hn : x ≠ "__name__" := by decide) (hdb : (x == ("__debug__" : Str)) = false := by decide)
  (he : starEach (a :: es) X.env = (false, eval a X.env) :: starEach es X.env := by rfl) (hpl : (backTo pos (starEach es X.env)).any (·.1) = false := by rfl) : PEi ce X (.Call (.Name x p) (a :: es) [] pos) (eCB g mr) := fun pins s σ H ι σi h Q E N K =>
 wpAny_Call_Name_kw (Jec N.inv hg hm hv (PyProof.Rows.callWith_builtin1 ((ha pos).run N K fun xs h1 us s1 H1 ι1 N1 n1 r1 K1 => hc pins s1 σ H1 ι1 σi h1 xs us Q E N1 r1 K1) he hpl) hn hdb)
theorem Jpy (hc : Jkj ce X (.type T) g) (hg : Gl X x) (hm : X.mg x = none) (hv : bootBuiltins x = some (.type T)) (ha : PAi ce X (a :: es) mr) (hn : x ≠ "__name__" := by decide) (hdb : (x == ("__debug__" : Str)) = false := by decide)
  (he : starEach (a :: es) X.env = (false, eval a X.env) :: starEach es X.env := by rfl) (hpl : (backTo pos (starEach es X.env)).any (·.1) = false := by rfl) : PEi ce X (.Call (.Name x p) (a :: es) [] pos) (eCB g mr) := fun pins s σ H ι σi h Q E N K =>
 wpAny_Call_Name_kw (Jec N.inv hg hm hv (PyProof.Rows.callWith_type1 ((ha pos).run N K fun xs h1 us s1 H1 ι1 N1 n1 r1 K1 => hc pins s1 σ H1 ι1 σi h1 xs us Q E N1 r1 K1) he hpl) hn hdb)
noncomputable def on1 (f : IV -> IH -> Res IV) : List IV -> IH -> Res IV
 | [x], h => f x h
 | _, _ => .stuck
noncomputable def on2 (f : IV -> IV -> IH -> Res IV) : List IV -> IH -> Res IV
 | [x, y], h => f x y h
 | _, _ => .stuck
theorem RVs.one_of {K : W.Frag} {ι : List Addr} {H : Hp} {x : IV} {vs : List V} (r : RVs K ι H [x] vs) : ∃ v, vs = [v] /\ RV K ι H x v := by
 obtain ⟨v, r', e, q, q2⟩ := r
 have e2 : r' = [] := q2
 subst e2
 exact ⟨v, e, q⟩
theorem RVs.two_of {K : W.Frag} {ι : List Addr} {H : Hp} {x y : IV} {vs : List V} (r : RVs K ι H [x, y] vs) : ∃ v w, vs = [v, w] /\ RV K ι H x v /\ RV K ι H y w := by
 obtain ⟨v, r', e, q, r2⟩ := r
 obtain ⟨w, e2, q2⟩ := r2.one_of
 subst e2
 exact ⟨v, w, e, q, q2⟩
theorem Jrv {fv : Value} {f : IV -> IH -> Res IV} (hh : ∀ (pins : List (Addr × Obj)) (s : Shared) (σ : L2.St) (H : Hp) (ι : List Addr) (σi : ISt) (h : IH) (x : IV) (xv : V) (u : Value) (Q : Value -> Shared -> Prop) (E : Value -> Shared -> Prop), Now ce X pins ι σi h σ H s -> RelV xv u -> RV X.K ι H x xv ->
  Kont ce X RU pins ι σi σ H (f x h) Q E -> wpAny (model X.prog X.w) X.A (call fv [u]) Q E s) : Jkj ce X fv (on1 f) := by
 intro pins s σ H ι σi h xs us Q E N r K
 obtain ⟨vs, rv, q⟩ := r
 match xs, K with
 | [x], K =>
  obtain ⟨v, e, qx⟩ := q.one_of
  subst e
  obtain ⟨u, rfl, ru⟩ := Jkk rv
  exact hh pins s σ H ι σi h x v u Q E N ru qx K
 | [], K => exact Zf K
 | _ :: _ :: _, K => exact Zf K
noncomputable def lenI : IV -> IH -> Res IV
 | .str x, h => if x.length <= sizeLine then .ok (.int x.length) h else .stuck
 | .tup xs, h => .ok (.int xs.length) h
 | .rol xs, h => .ok (.int xs.length) h
 | .ref i, h => match h[i]? with
  | some (.lst xs) => .ok (.int xs.length) h
  | _ => .stuck
 | _, _ => .stuck
theorem c_len : Jkj ce X (.builtin "len") (on1 lenI) := Jrv fun pins s σ H ι σi h x xv u Q E N ru qx K => by
 cases x with
 | str y =>
  have e : xv = .str y := qx
  subst e
  dsimp only [lenI] at K
  split at K
  ·rename_i hz
   exact Ja7 (Jjy (X := X.wish E)) N.inv (.cons ru .nil) ⟨_, _, rfl, ⟨hz, rfl⟩, fin0 N K rfl⟩
  ·exact Zf K
 | tup xs =>
  obtain ⟨a, vs, e1, sa, ra⟩ := qx
  subst e1
  exact Ja7 (Jjy (X := X.wish E)) N.inv (.cons ru .nil) ⟨_, xs.length, rfl, .inr ⟨vs, sa, ra.length.symm⟩, fin0 N K rfl⟩
 | rol xs =>
  obtain ⟨a, vs, e1, sa, ra⟩ := qx
  subst e1
  exact Ja7 (Jjy (X := X.wish E)) N.inv (.cons ru .nil) ⟨_, xs.length, rfl, .inl ⟨vs, sa.sq, ra.length.symm⟩, fin0 N K rfl⟩
 | ref i =>
  obtain ⟨a, e1, ha⟩ := qx
  subst e1
  dsimp only [lenI] at K
  cases hi : h[i]? with
  | none => rw [hi] at K; exact Zf K
  | some ob =>
   rw [hi] at K
   cases ob with
   | lst xs =>
    obtain ⟨vs, e1, r1⟩ := N.at hi ha
    exact Ja7 (Jjy (X := X.wish E)) N.inv (.cons ru .nil) ⟨_, xs.length, rfl, .inl ⟨vs, SqL.of e1, r1.length.symm⟩, fin0 N K rfl⟩
   | _ => exact Zf K
 | _ => exact Zf K
end
end L3
namespace L3
open PySem PySem.Spec PyProof.Rows L2
noncomputable def ALen (n : Nat) (m : A1) : Prop := ∀ σ h xs h', m σ h = .ok xs h' -> xs.length = n
theorem Jww : ALen 0 aNil := fun _ _ xs _ e => by
 unfold aNil at e
 cases e
 rfl
theorem Js6 {n : Nat} {e : E1} {r : A1} (hr : ALen n r) : ALen (n + 1) (Ja e r) := fun σ h xs h' q => by
 unfold Ja at q
 cases e1 : e σ h with
 | ok x h1 =>
  rw [e1] at q
  change (r σ h1).bind (fun xs h2 => .ok (x :: xs) h2) = _ at q
  cases e2 : r σ h1 with
  | ok ys h2 =>
   rw [e2] at q
   cases q
   rw [List.length_cons, hr σ h1 ys _ e2]
  | exc n h2 => rw [e2] at q; cases q
  | stuck => rw [e2] at q; cases q
 | exc n h1 => rw [e1] at q; cases q
 | stuck => rw [e1] at q; cases q
theorem hl1 {n : Nat} {ma : A1} {ds : List Value} {ps : List Str} (l : ALen n ma) (hn : n + ds.length + 1 = ps.length := by rfl) : ∀ σ h xs h', ma σ h = .ok xs h' -> xs.length + ds.length + 1 = ps.length := fun σ h xs h' e => by
 rw [l σ h xs h' e]
 exact hn
noncomputable def Jrw (K : W.Frag) (x : Str) (f : List IV -> IH -> Res IV) : Sp := fun vs H Q E => ∀ ce, spI ce K [x] f vs H Q E
theorem Jv4 {P : Program} {w : World} {K : W.Frag} {mg : Str -> Option Value} {base : Heap} {k : Nat} {fa : Addr} {fd : FuncData} {x : Str} {f : List IV -> IH -> Res IV} {ce : Str -> Option Addr} (F : FnOk P w K mg base (CXI P w) k fa fd [x] (spI ce K [x] f)) :
  FnOk P w K mg base (CXI P w) k fa fd [x] (Jrw K x f) := F.imp fun _ _ _ _ h => h ce
theorem Jur {K : W.Frag} {x : Str} {f : List IV -> IH -> Res IV} {H : Hp} {a : Addr} {ns : List Int} (hO : Only H) (hS : SqL K H a (ns.map V.int)) (hf : ∃ h', f [.rol (ns.map IV.int)] [] = .ok (.bl true) h') :
  Jrw K x f [.ref a] H (fun v _ => v = .bl true) fun _ _ _ => False := by
 intro ce
 obtain ⟨h', hf⟩ := hf
 have sr : SqR K H a (ns.map V.int) := by
  rcases hS with (h | ⟨o, h⟩) | h
  ·rcases hO a with z | ⟨ob, xs, z⟩
   ·rw [z] at h; cases h
   ·rw [z] at h; cases h
  ·exact .inl ⟨o, h⟩
  ·exact .inr h
 refine ⟨rfl, [], [], [.rol (ns.map IV.int)], ⟨rfl, List.nodup_nil, fun i o e => by simp at e⟩, ⟨.ref a, [], rfl, ⟨a, _, rfl, sr, RVs.ints ns⟩, rfl⟩, ?_⟩
 rw [hf]
 intro v H' ι' _ _ q
 exact q
end L3
namespace L3
open PySem PySem.Spec PyProof.Rows L2
noncomputable def toD (h : IH) : Nat -> IV -> Option PyData
 | 0 => fun v => match v with
  | .non => some .none
  | .bl b => some (.bool b)
  | .int i => some (.int i)
  | .str x => some (.str x)
  | _ => none
 | n + 1 => fun v => match v with
  | .non => some .none
  | .bl b => some (.bool b)
  | .int i => some (.int i)
  | .str x => some (.str x)
  | .tup xs => (xs.mapM (toD h n)).map .tuple
  | .rol xs => (xs.mapM (toD h n)).map .list
  | .ref i => match h[i]? with
   | some (.lst xs) => (xs.mapM (toD h n)).map .list
   | _ => none
section
variable {ce : Str -> Option Addr} {X : Cx}
theorem Je0 {pins : List (Addr × Obj)} {s : Shared} {σ : L2.St} {H : Hp} {ι : List Addr} {σi : ISt} {h : IH} {n : Nat} (N : Now ce X pins ι σi h σ H s)
  (ih : ∀ (v : IV) (d : PyData) (x : V) (u : Value), toD h n v = some d -> RV X.K ι H v x -> RelV x u -> ∃ as, Reads s.heap u d as) :
  ∀ (xs : List IV) (ds : List PyData) (vs : List V) (us : List Value), xs.mapM (toD h n) = some ds -> RVs X.K ι H xs vs -> Vals vs us -> ∃ as, ReadsAll s.heap us ds as
 | [], ds, vs, us, e, q, r => by
  have e1 : vs = [] := q
  subst e1
  cases r
  simp at e
  subst e
  exact ⟨_, .nil⟩
 | x :: xs, ds, vs, us, e, q, r => by
  obtain ⟨v, vr, e1, q1, q2⟩ := q
  subst e1
  cases r with
  | cons r1 r2 =>
   rw [List.mapM_cons] at e
   cases e2 : toD h n x with
   | none => rw [e2] at e; cases e
   | some d =>
    rw [e2] at e
    cases e3 : xs.mapM (toD h n) with
    | none => rw [e3] at e; cases e
    | some dr =>
     rw [e3] at e
     cases e
     obtain ⟨as, h1⟩ := ih x d v _ e2 q1 r1
     obtain ⟨bs, h2⟩ := Je0 N ih xs dr vr _ e3 q2 r2
     exact ⟨_, .cons h1 h2⟩
theorem Jcd {pins : List (Addr × Obj)} {s : Shared} {σ : L2.St} {H : Hp} {ι : List Addr} {σi : ISt} {h : IH} (N : Now ce X pins ι σi h σ H s) : ∀ (n : Nat) (v : IV) (d : PyData) (x : V) (u : Value), toD h n v = some d -> RV X.K ι H v x -> RelV x u -> ∃ as, Reads s.heap u d as := by
 have flat : ∀ (v : IV) (d : PyData) (x : V) (u : Value), toD h 0 v = some d -> RV X.K ι H v x -> RelV x u -> ∃ as, Reads s.heap u d as := by
  intro v d x u e q r
  cases v with
  | non => cases e; have e1 : x = .non := q; subst e1; cases r; exact ⟨_, .none⟩
  | bl b => cases e; have e1 : x = .bl b := q; subst e1; cases r; exact ⟨_, .bool b⟩
  | int i => cases e; have e1 : x = .int i := q; subst e1; obtain ⟨t, rfl⟩ := r; exact ⟨_, .int i t⟩
  | str z => cases e; have e1 : x = .str z := q; subst e1; obtain ⟨t, rfl⟩ := r; exact ⟨_, .str z t⟩
  | _ => cases e
 intro n
 induction n with
 | zero => exact flat
 | succ n ih =>
  intro v d x u e q r
  cases v with
  | non => exact flat .non d x u e q r
  | bl b => exact flat (.bl b) d x u e q r
  | int i => exact flat (.int i) d x u e q r
  | str z => exact flat (.str z) d x u e q r
  | tup xs =>
   obtain ⟨a, vs, e1, sa, ra⟩ := q
   subst e1
   cases r
   obtain ⟨ds, e2, rfl⟩ := Option.map_eq_some_iff.mp (show (xs.mapM (toD h n)).map PyData.tuple = some d from e)
   obtain ⟨its, rv, ⟨o, ho, hc, m, hd⟩, hz⟩ := N.inv.tuple sa
   obtain ⟨as, h1⟩ := Je0 N ih xs ds vs its e2 ra rv
   exact ⟨_, .tuple ho hc hd h1⟩
  | rol xs =>
   obtain ⟨a, vs, e1, sa, ra⟩ := q
   subst e1
   cases r
   obtain ⟨ds, e2, rfl⟩ := Option.map_eq_some_iff.mp (show (xs.mapM (toD h n)).map PyData.list = some d from e)
   obtain ⟨its, rv, ⟨o, m, ho, hc, _, hd⟩, hz⟩ := N.inv.list sa.sq
   obtain ⟨as, h1⟩ := Je0 N ih xs ds vs its e2 ra rv
   exact ⟨_, .list ho hc hd h1⟩
  | ref i =>
   obtain ⟨a, e1, ha⟩ := q
   subst e1
   cases r
   have e' : (match h[i]? with | some (.lst xs) => (xs.mapM (toD h n)).map PyData.list | _ => none) = some d := e
   cases hi : h[i]? with
   | none => rw [hi] at e'; cases e'
   | some ob =>
    rw [hi] at e'
    cases ob with
    | lst xs =>
     obtain ⟨ds, e2, rfl⟩ := Option.map_eq_some_iff.mp e'
     obtain ⟨vs, e1, r1⟩ := N.at hi ha
     obtain ⟨its, rv, ⟨o, m, ho, hc, _, hd⟩, hz⟩ := N.inv.list (SqL.of e1)
     obtain ⟨as, h1⟩ := Je0 N ih xs ds vs its e2 r1 rv
     exact ⟨_, .list ho hc hd h1⟩
    | _ => cases e'
theorem Jew {n : Nat} {f : IV -> Option PyData} (hf : ∀ v d, f v = some d -> d.depth <= n) : ∀ (xs : List IV) (ds : List PyData), xs.mapM f = some ds -> PyData.depthAll ds <= n
 | [], ds, e => by simp at e; subst e; exact Nat.zero_le _
 | x :: xs, ds, e => by
  rw [List.mapM_cons] at e
  cases e2 : f x with
  | none => rw [e2] at e; cases e
  | some d =>
   rw [e2] at e
   cases e3 : xs.mapM f with
   | none => rw [e3] at e; cases e
   | some dr =>
    rw [e3] at e
    cases e
    have h1 := hf x d e2
    have h2 := Jew hf xs dr e3
    show max d.depth (PyData.depthAll dr) <= n
    omega
theorem Jif {h : IH} : ∀ (n : Nat) (v : IV) (d : PyData), toD h n v = some d -> d.depth <= n := by
 intro n
 induction n with
 | zero =>
  intro v d e
  cases v <;> cases e <;> exact Nat.le_refl _
 | succ n ih =>
  intro v d e
  cases v with
  | non => cases e; exact Nat.zero_le _
  | bl b => cases e; exact Nat.zero_le _
  | int i => cases e; exact Nat.zero_le _
  | str z => cases e; exact Nat.zero_le _
  | tup xs =>
   obtain ⟨ds, e2, rfl⟩ := Option.map_eq_some_iff.mp (show (xs.mapM (toD h n)).map PyData.tuple = some d from e)
   exact Nat.succ_le_succ (Jew ih xs ds e2)
  | rol xs =>
   obtain ⟨ds, e2, rfl⟩ := Option.map_eq_some_iff.mp (show (xs.mapM (toD h n)).map PyData.list = some d from e)
   exact Nat.succ_le_succ (Jew ih xs ds e2)
  | ref i =>
   have e' : (match h[i]? with | some (.lst xs) => (xs.mapM (toD h n)).map PyData.list | _ => none) = some d := e
   cases hi : h[i]? with
   | none => rw [hi] at e'; cases e'
   | some ob =>
    rw [hi] at e'
    cases ob with
    | lst xs =>
     obtain ⟨ds, e2, rfl⟩ := Option.map_eq_some_iff.mp e'
     exact Nat.succ_le_succ (Jew ih xs ds e2)
    | _ => cases e'
noncomputable def Jlq : IV -> IV -> Option Bool
 | .non, .non => some true
 | .int i, .int j => some (decide (i = j))
 | .str i, .str j => some (decide (i = j))
 | .bl i, .bl j => some (decide (i = j))
 | _, _ => none
noncomputable def Job (x y : IV) (h : IH) : Option Bool := match toD h 6 x, toD h 6 y with
 | some a, some b => if a.canLay0 = true /\ b.canLay0 = true then some (PyData.eqv a b) else none
 | _, _ => none
noncomputable def cEq (x y : IV) (h : IH) : Res IV := match Jlq x y with
 | some b => .ok (.bl b) h
 | none => match Job x y h with
  | some b => .ok (.bl b) h
  | none => .stuck
noncomputable def cNe (x y : IV) (h : IH) : Res IV := match Jlq x y with
 | some b => .ok (.bl (!b)) h
 | none => match Job x y h with
  | some b => .ok (.bl (!b)) h
  | none => .stuck
theorem Jq6 {x y : IV} {h : IH} {b : Bool} (e : Job x y h = some b) : ∃ da db, toD h 6 x = some da /\ toD h 6 y = some db /\ da.canLay0 = true /\ db.canLay0 = true /\ b = PyData.eqv da db := by
 unfold Job at e
 cases e1 : toD h 6 x with
 | none => rw [e1] at e; cases e
 | some da =>
  cases e2 : toD h 6 y with
  | none => rw [e1, e2] at e; cases e
  | some db =>
   rw [e1, e2] at e
   dsimp only at e
   split at e
   ·rename_i hz
    cases e
    exact ⟨da, db, rfl, rfl, hz.1, hz.2, rfl⟩
   ·cases e
theorem Jou {K : W.Frag} {ι : List Addr} {H : Hp} {x y : IV} {b : Bool} {xv yv : V} (e : Jlq x y = some b) (qx : RV K ι H x xv) (qy : RV K ι H y yv) : scal xv yv = true /\ decide (xv = yv) = b := by
 cases x with
 | non =>
  cases y with
  | non => cases e; cases (show xv = .non from qx); cases (show yv = .non from qy); exact ⟨rfl, rfl⟩
  | _ => cases e
 | int i =>
  cases y with
  | int j => cases e; cases (show xv = .int i from qx); cases (show yv = .int j from qy); exact ⟨rfl, by simp⟩
  | _ => cases e
 | str i =>
  cases y with
  | str j => cases e; cases (show xv = .str i from qx); cases (show yv = .str j from qy); exact ⟨rfl, by simp⟩
  | _ => cases e
 | bl i =>
  cases y with
  | bl j => cases e; cases (show xv = .bl i from qx); cases (show yv = .bl j from qy); exact ⟨rfl, by simp⟩
  | _ => cases e
 | _ => cases y <;> cases e
theorem o_eq (hu : X.A.units + 64 < cLine) : OpI ce X (compareOp .Eq) cEq := by
 intro pins s σ H ι σi h x y v u Q E N rx ry K
 obtain ⟨xv, rx, qx⟩ := rx
 obtain ⟨yv, ry, qy⟩ := ry
 unfold cEq at K
 cases es : Jlq x y with
 | some b =>
  rw [es] at K
  obtain ⟨h1, h2⟩ := Jou es qx qy
  exact Jb8 (op_eq (X := X.wish E)) N.inv rx ry ⟨h1, by rw [h2]; exact fin0 N K rfl⟩
 | none =>
  rw [es] at K
  dsimp only at K
  cases ed : Job x y h with
  | none => rw [ed] at K; exact Zf K
  | some b =>
   rw [ed] at K
   obtain ⟨da, db, e1, e2, c1, c2, rfl⟩ := Jq6 ed
   obtain ⟨as, r1⟩ := Jcd N 6 x da xv v e1 qx rx
   obtain ⟨bs, r2⟩ := Jcd N 6 y db yv u e2 qy ry
   have d1 := Jif 6 x da e1
   exact PySem.SeqAt.compareEq_reads r1 r2 c1 c2 (by omega) (fin0 N K rfl _ s N.inv rfl)
theorem o_ne (hu : X.A.units + 64 < cLine) : OpI ce X (compareOp .NotEq) cNe := by
 intro pins s σ H ι σi h x y v u Q E N rx ry K
 obtain ⟨xv, rx, qx⟩ := rx
 obtain ⟨yv, ry, qy⟩ := ry
 unfold cNe at K
 cases es : Jlq x y with
 | some b =>
  rw [es] at K
  obtain ⟨h1, h2⟩ := Jou es qx qy
  exact Jb8 (op_ne (X := X.wish E)) N.inv rx ry ⟨h1, by rw [h2]; exact fin0 N K rfl⟩
 | none =>
  rw [es] at K
  dsimp only at K
  cases ed : Job x y h with
  | none => rw [ed] at K; exact Zf K
  | some b =>
   rw [ed] at K
   obtain ⟨da, db, e1, e2, c1, c2, rfl⟩ := Jq6 ed
   obtain ⟨as, r1⟩ := Jcd N 6 x da xv v e1 qx rx
   obtain ⟨bs, r2⟩ := Jcd N 6 y db yv u e2 qy ry
   have d1 := Jif 6 x da e1
   exact PySem.SeqAt.compareNe_reads r1 r2 c1 c2 (by omega) (fin0 N K rfl _ s N.inv rfl)
noncomputable def inI (x c : IV) (h : IH) : Option Bool := match toD h 6 c, toD h 6 x with
 | some (.list ds), some d => if PyData.canLayAll0 ds = true /\ d.canLay0 = true then some (ds.any fun y => PyData.eqv y d) else none
 | some (.tuple ds), some d => if PyData.canLayAll0 ds = true /\ d.canLay0 = true then some (ds.any fun y => PyData.eqv y d) else none
 | _, _ => none
noncomputable def cIn (x c : IV) (h : IH) : Res IV := match inI x c h with
 | some b => .ok (.bl b) h
 | none => .stuck
noncomputable def Jj9 (x c : IV) (h : IH) : Res IV := match inI x c h with
 | some b => .ok (.bl (!b)) h
 | none => .stuck
theorem Jw0 {x c : IV} {h : IH} {b : Bool} (e : inI x c h = some b) : ∃ ds d, (toD h 6 c = some (.list ds) ∨ toD h 6 c = some (.tuple ds)) /\ toD h 6 x = some d /\ PyData.canLayAll0 ds = true /\ d.canLay0 = true /\ b = ds.any fun y => PyData.eqv y d := by
 unfold inI at e
 cases e1 : toD h 6 c with
 | none => rw [e1] at e; cases e
 | some dc =>
  cases e2 : toD h 6 x with
  | none => rw [e1, e2] at e; cases dc <;> cases e
  | some d =>
   rw [e1, e2] at e
   cases dc with
   | list ds =>
    dsimp only at e
    split at e
    ·rename_i hz; cases e; exact ⟨ds, d, .inl rfl, rfl, hz.1, hz.2, rfl⟩
    ·cases e
   | tuple ds =>
    dsimp only at e
    split at e
    ·rename_i hz; cases e; exact ⟨ds, d, .inr rfl, rfl, hz.1, hz.2, rfl⟩
    ·cases e
   | _ => cases e
theorem o_in (hu : X.A.units + 64 < cLine) : OpI ce X (compareOp .In) cIn := by
 intro pins s σ H ι σi h x y v u Q E N rx ry K
 obtain ⟨xv, rx, qx⟩ := rx
 obtain ⟨yv, ry, qy⟩ := ry
 unfold cIn at K
 cases ei : inI x y h with
 | none => rw [ei] at K; exact Zf K
 | some b =>
  rw [ei] at K
  obtain ⟨ds, d, hc, e2, c1, c2, rfl⟩ := Jw0 ei
  obtain ⟨bs, r2⟩ := Jcd N 6 x d xv v e2 qx rx
  have d2 := Jif 6 x d e2
  rcases hc with e1 | e1
  ·obtain ⟨as, r1⟩ := Jcd N 6 y _ yv u e1 qy ry
   exact PySem.SeqAt.in_list_reads r1 r2 c1 c2 (by omega) (fin0 N K rfl _ s N.inv rfl)
  ·obtain ⟨as, r1⟩ := Jcd N 6 y _ yv u e1 qy ry
   exact PySem.SeqAt.in_tuple_reads r1 r2 c1 c2 (by omega) (fin0 N K rfl _ s N.inv rfl)
theorem Jy4 (hu : X.A.units + 64 < cLine) : OpI ce X (compareOp .NotIn) Jj9 := by
 intro pins s σ H ι σi h x y v u Q E N rx ry K
 obtain ⟨xv, rx, qx⟩ := rx
 obtain ⟨yv, ry, qy⟩ := ry
 unfold Jj9 at K
 cases ei : inI x y h with
 | none => rw [ei] at K; exact Zf K
 | some b =>
  rw [ei] at K
  obtain ⟨ds, d, hc, e2, c1, c2, rfl⟩ := Jw0 ei
  obtain ⟨bs, r2⟩ := Jcd N 6 x d xv v e2 qx rx
  have d2 := Jif 6 x d e2
  rcases hc with e1 | e1
  ·obtain ⟨as, r1⟩ := Jcd N 6 y _ yv u e1 qy ry
   exact PySem.SeqAt.notIn_list_reads r1 r2 c1 c2 (by omega) (fin0 N K rfl _ s N.inv rfl)
  ·obtain ⟨as, r1⟩ := Jcd N 6 y _ yv u e1 qy ry
   exact PySem.SeqAt.notIn_tuple_reads r1 r2 c1 c2 (by omega) (fin0 N K rfl _ s N.inv rfl)
noncomputable def isI : IV -> IV -> Option Bool
 | .non, .non => some true
 | .bl a, .bl b => some (a == b)
 | .bl _, .non => some false
 | .int _, .non => some false
 | .str _, .non => some false
 | .tup _, .non => some false
 | .rol _, .non => some false
 | .ref _, .non => some false
 | .non, .bl _ => some false
 | .int _, .bl _ => some false
 | .str _, .bl _ => some false
 | .tup _, .bl _ => some false
 | .rol _, .bl _ => some false
 | .ref _, .bl _ => some false
 | _, _ => none
noncomputable def cIs (x y : IV) (h : IH) : Res IV := match isI x y with
 | some b => .ok (.bl b) h
 | none => .stuck
noncomputable def Ju3 (x y : IV) (h : IH) : Res IV := match isI x y with
 | some b => .ok (.bl (!b)) h
 | none => .stuck
theorem Jxg {K : W.Frag} {ι : List Addr} {H : Hp} {x y : IV} {b : Bool} {v u : Value} (e : isI x y = some b) (rx : RU K ι H x v) (ry : RU K ι H y u) : plainIs v u = true /\ (v == u) = b := by
 obtain ⟨xv, rx, qx⟩ := rx
 obtain ⟨yv, ry, qy⟩ := ry
 cases y with
 | non =>
  cases (show yv = .non from qy)
  cases ry
  cases x with
  | non => cases e; cases (show xv = .non from qx); cases rx; exact ⟨rfl, rfl⟩
  | bl c => cases e; cases (show xv = .bl c from qx); cases rx; exact ⟨rfl, rfl⟩
  | int c => cases e; cases (show xv = .int c from qx); obtain ⟨t, rfl⟩ := rx; exact ⟨rfl, rfl⟩
  | str c => cases e; cases (show xv = .str c from qx); obtain ⟨t, rfl⟩ := rx; exact ⟨rfl, rfl⟩
  | tup c => cases e; obtain ⟨a, vs, rfl, _⟩ := qx; cases rx; exact ⟨rfl, rfl⟩
  | rol c => cases e; obtain ⟨a, vs, rfl, _⟩ := qx; cases rx; exact ⟨rfl, rfl⟩
  | ref c => cases e; obtain ⟨a, rfl, _⟩ := qx; cases rx; exact ⟨rfl, rfl⟩
 | bl d =>
  cases (show yv = .bl d from qy)
  cases ry
  cases x with
  | non => cases e; cases (show xv = .non from qx); cases rx; exact ⟨rfl, rfl⟩
  | bl c => cases e; cases (show xv = .bl c from qx); cases rx; cases c <;> cases d <;> exact ⟨rfl, rfl⟩
  | int c => cases e; cases (show xv = .int c from qx); obtain ⟨t, rfl⟩ := rx; exact ⟨rfl, rfl⟩
  | str c => cases e; cases (show xv = .str c from qx); obtain ⟨t, rfl⟩ := rx; exact ⟨rfl, rfl⟩
  | tup c => cases e; obtain ⟨a, vs, rfl, _⟩ := qx; cases rx; exact ⟨rfl, rfl⟩
  | rol c => cases e; obtain ⟨a, vs, rfl, _⟩ := qx; cases rx; exact ⟨rfl, rfl⟩
  | ref c => cases e; obtain ⟨a, rfl, _⟩ := qx; cases rx; exact ⟨rfl, rfl⟩
 | _ => cases x <;> cases e
theorem o_is : OpI ce X (compareOp .Is) cIs := by
 intro pins s σ H ι σi h x y v u Q E N rx ry K
 unfold cIs at K
 cases ei : isI x y with
 | none => rw [ei] at K; exact Zf K
 | some b =>
  rw [ei] at K
  obtain ⟨h1, h2⟩ := Jxg ei rx ry
  exact wpAny_is_plain h1 (by rw [h2]; exact fin0 N K rfl _ s N.inv rfl)
theorem Jzv : OpI ce X (compareOp .IsNot) Ju3 := by
 intro pins s σ H ι σi h x y v u Q E N rx ry K
 unfold Ju3 at K
 cases ei : isI x y with
 | none => rw [ei] at K; exact Zf K
 | some b =>
  rw [ei] at K
  obtain ⟨h1, h2⟩ := Jxg ei rx ry
  exact wpAny_isNot_plain h1 (by rw [h2]; exact fin0 N K rfl _ s N.inv rfl)
inductive Ty where
 | non | bl | int | str | lst | tup | dct | ins (c : Str) | exc (c : Str)
noncomputable def tyI : IV -> IH -> Option Ty
 | .non, _ => some .non
 | .bl _, _ => some .bl
 | .int _, _ => some .int
 | .str _, _ => some .str
 | .tup _, _ => some .tup
 | .rol _, _ => some .lst
 | .ref i, h => match h[i]? with
  | some (.lst _) => some .lst
  | some (.dct _) => some .dct
  | some (.ins c _) => some (.ins c)
  | some (.exc c _) => some (.exc c)
  | _ => none
structure ClsI (K : W.Frag) (C : Addr) : Prop where
 cl : Cls K C
 ha : W.findIn K (.ref C) "__class__" = some (some (.builtin "object.__class__"))
 hn : W.specialIn K (.builtin "object.__class__") "__get__" = some (some (.builtin "getset_descriptor.__get__"))
 htk : W.takesIn K (.builtin "object.__class__") = some true
 hm : W.mroIn K C (.type "object") = some true
structure IsOk (ce : Str -> Option Addr) (K : W.Frag) (c : Value) (ans : Ty -> Option Bool) : Prop where
 non : ∀ b, ans .non = some b -> W.kitOne K (.type "NoneType") c = some b
 bl : ∀ b, ans .bl = some b -> W.kitOne K (.type "bool") c = some b
 int : ∀ b, ans .int = some b -> W.kitOne K (.type "int") c = some b
 str : ∀ b, ans .str = some b -> W.kitOne K (.type "str") c = some b
 lst : ∀ b, ans .lst = some b -> W.kitOne K (.type "list") c = some b
 tup : ∀ b, ans .tup = some b -> W.kitOne K (.type "tuple") c = some b
 dct : ∀ b, ans .dct = some b -> W.kitOne K (.type "dict") c = some b
 ins : ∀ k C b, ans (.ins k) = some b -> ce k = some C -> ClsI K C /\ W.kitOne K (.ref C) c = some b
 exc : ∀ k C b, ans (.exc k) = some b -> W.nsIn K mainGlobals k = some (some (.ref C)) -> ExI K C /\ W.kitOne K (.ref C) c = some b
noncomputable def eIsi (ans : Ty -> Option Bool) (e : E1) : E1 := fun σ h => (e σ h).bind fun v h1 => match (tyI v h1).bind ans with
 | some b => .ok (.bl b) h1
 | none => .stuck
theorem Jzn {pins : List (Addr × Obj)} {s : Shared} {σ : L2.St} {H : Hp} {ι : List Addr} {σi : ISt} {h : IH} {x : IV} {u c : Value} {ans : Ty -> Option Bool} {b : Bool} {Q : Value -> Shared -> Prop} {E : Value -> Shared -> Prop} {A : Around} (N : Now ce X pins ι σi h σ H s) (rx : RU X.K ι H x u) (O : IsOk ce X.K c ans)
  (e : (tyI x h).bind ans = some b) (hq : ∀ tk, Q (.bool b) { s with toks := tk }) : wpAny (model X.prog X.w) A (call (.builtin "isinstance") [u, c]) Q E s := by
 obtain ⟨xv, rx, qx⟩ := rx
 cases x with
 | non => cases (show xv = .non from qx); cases rx; exact W.kia_one W.kitx_none N.inv.kIn True.intro (O.non b e) (fun z => nomatch z) hq
 | bl i => cases (show xv = .bl i from qx); cases rx; exact W.kia_one W.kitx_bool N.inv.kIn True.intro (O.bl b e) (fun z => nomatch z) hq
 | int i => cases (show xv = .int i from qx); obtain ⟨t, rfl⟩ := rx; exact W.kia_one W.kitx_int N.inv.kIn True.intro (O.int b e) (fun z => nomatch z) hq
 | str i => cases (show xv = .str i from qx); obtain ⟨t, rfl⟩ := rx; exact W.kia_one W.kitx_str N.inv.kIn True.intro (O.str b e) (fun z => nomatch z) hq
 | tup xs =>
  obtain ⟨a, vs, rfl, sa, _⟩ := qx
  cases rx
  obtain ⟨its, rv, ⟨o, ho, hc, m, hd⟩, hz⟩ := N.inv.tuple sa
  exact W.kia_one W.kitx_tuple N.inv.kIn ⟨o, ho, hc⟩ (O.tup b e) (fun z => nomatch z) hq
 | rol xs =>
  obtain ⟨a, vs, rfl, sa, _⟩ := qx
  cases rx
  obtain ⟨its, rv, ⟨o, m, ho, hc, _, hd⟩, hz⟩ := N.inv.list sa.sq
  exact W.kia_one W.kitx_list N.inv.kIn ⟨o, ho, hc⟩ (O.lst b e) (fun z => nomatch z) hq
 | ref i =>
  obtain ⟨a, rfl, ha⟩ := qx
  cases rx
  cases hi : h[i]? with
  | none => simp [tyI, hi] at e
  | some ob =>
   cases ob with
   | lst xs =>
    simp only [tyI, hi] at e
    obtain ⟨vs, e1, r1⟩ := N.at hi ha
    obtain ⟨its, rv, ⟨o, m, ho, hc, _, hd⟩, hz⟩ := N.inv.list (SqL.of e1)
    exact W.kia_one W.kitx_list N.inv.kIn ⟨o, ho, hc⟩ (O.lst b e) (fun z => nomatch z) hq
   | dct kvs =>
    simp only [tyI, hi] at e
    obtain ⟨vs, e1, r1⟩ := N.at hi ha
    obtain ⟨_, _, ws, _, p⟩ := (show Jea X.prog X.w H s.heap a (.dK vs) from N.inv.hok a _ e1)
    obtain ⟨o, es, ep, h1, h2, _⟩ := p
    exact W.kia_one W.kitx_dict N.inv.kIn ⟨o, h1, h2.1⟩ (O.dct b e) (fun z => nomatch z) hq
   | ins c fs =>
    simp only [tyI, hi] at e
    obtain ⟨C, dx, vs, hC, hH, rp⟩ := N.at hi ha
    obtain ⟨I, hk⟩ := O.ins c C b e hC
    obtain ⟨mA, Ob, _⟩ := Jlv N.inv.hok hH
    obtain ⟨od, J, _⟩ := Ob.look
    exact W.kia_one (W.kitx_own (I.cl.get _) I.cl.hd I.ha I.hn I.htk I.hm) N.inv.kIn J hk (fun z => nomatch z) hq
   | exc c fs =>
    simp only [tyI, hi] at e
    obtain ⟨_, C, tv, hC, hH, _⟩ := N.at hi ha
    obtain ⟨I, hk⟩ := O.exc c C b e hC
    obtain ⟨oe, vs, e1, e2, _⟩ := ExF.get N.inv.hok hH
    exact W.kia_one (Jv6 I) N.inv.kIn ⟨oe, e1, e2⟩ hk (fun z => nomatch z) hq
   | tab q => simp [tyI, hi] at e
variable {a cx : Expr} {ma : E1} {pos p : Pos}
noncomputable def ClsE (X : Cx) (cx : Expr) (c : Value) : Prop := ∀ (pins : List (Addr × Obj)) (σ : L2.St) (H : Hp) (s : Shared) (Q : Value -> Shared -> Prop) (E : Value -> Shared -> Prop), Inv X pins σ H s -> Q c s -> wpAny (model X.prog X.w) X.A (eval cx X.env) Q E s
theorem Jg8 {x : Str} {c : Value} (hg : Gl X x) (hm : X.mg x = none) (hv : bootBuiltins x = some c) (hn : x ≠ "__name__" := by decide) (hdb : (x == ("__debug__" : Str)) = false := by decide) : ClsE X (.Name x p) c := fun _ _ _ _ _ _ I q => Jec I hg hm hv q hn hdb
theorem Jqc {x : Str} {c : Value} (hg : Gl X x) (hm : X.mg x = some c) (hdb : (x == ("__debug__" : Str)) = false := by decide) : ClsE X (.Name x p) c := fun _ _ _ _ _ _ I q => Jg4 I hg hm q hdb
theorem J0s {ans : Ty -> Option Bool} {c : Value} (hc : ClsE X cx c) (O : IsOk ce X.K c ans) (ha : PEi ce X a ma) (hg : Gl X "isinstance") (hm : X.mg "isinstance" = none) (hv : bootBuiltins "isinstance" = some (.builtin "isinstance") := by rfl)
  (he : starEach [a, cx] X.env = (false, eval a X.env) :: starEach [cx] X.env := by rfl) (he2 : starEach [cx] X.env = (false, eval cx X.env) :: starEach [] X.env := by rfl) (hpl : (backTo pos (starEach [cx] X.env)).any (·.1) = false := by rfl) : PEi ce X (.Call (.Name "isinstance" p) [a, cx] [] pos) (eIsi ans ma) := by
 intro pins s σ H ι σi h Q E N K
 refine wpAny_Call_Name_kw (Jec N.inv hg hm hv ?_ (by decide) (by decide))
 refine PyProof.Rows.callWith_builtin1 ?_ he hpl
 rw [he]
 show wpAny _ _ (spliced ((false, eval a X.env) :: backTo pos (starEach [cx] X.env))) _ _ s
 refine Calls.spliced_cons (ha.run N K fun x h1 u s1 H1 ι1 N1 n1 r1 K1 => ?_)
 rw [he2]
 show wpAny _ _ (spliced ((false, eval cx X.env) :: backTo pos (starEach [] X.env))) _ _ s1
 refine Calls.spliced_cons (hc pins σ H1 s1 _ E N1.inv ?_)
 refine Calls.spliced_nil ?_
 cases e : (tyI x h1).bind ans with
 | none => rw [e] at K1; exact Zf K1
 | some b =>
  rw [e] at K1
  exact Jzn N1 r1 O e fun tk => K1 _ _ H1 ι1 ⟨N1.inv.tok tk, N1.rel, N1.st⟩ .refl ⟨.bl b, rfl, rfl⟩
noncomputable def Jbk : Ty -> Option Bool
 | .int => some true | .bl => some true | .ins _ => none | .exc _ => none | _ => some false
noncomputable def Jaj : Ty -> Option Bool
 | .bl => some true | .ins _ => none | .exc _ => none | _ => some false
noncomputable def Jaw : Ty -> Option Bool
 | .str => some true | .ins _ => none | .exc _ => none | _ => some false
noncomputable def Jan : Ty -> Option Bool
 | .lst => some true | .ins _ => none | .exc _ => none | _ => some false
noncomputable def Jbu : Ty -> Option Bool
 | .tup => some true | .ins _ => none | .exc _ => none | _ => some false
theorem Juv {K : W.Frag} : IsOk ce K (.type "bool") Jaj := by
 refine ⟨?_, ?_, ?_, ?_, ?_, ?_, ?_, (fun k C b e => by cases e), (fun k C b e => by cases e)⟩ <;> (intro b e; cases e; first | rfl | with_unfolding_all rfl | kernel_rfl)
theorem Jv7 {K : W.Frag} : IsOk ce K (.type "str") Jaw := by
 refine ⟨?_, ?_, ?_, ?_, ?_, ?_, ?_, (fun k C b e => by cases e), (fun k C b e => by cases e)⟩ <;> (intro b e; cases e; first | rfl | with_unfolding_all rfl | kernel_rfl)
theorem Jtd {K : W.Frag} : IsOk ce K (.type "list") Jan := by
 refine ⟨?_, ?_, ?_, ?_, ?_, ?_, ?_, (fun k C b e => by cases e), (fun k C b e => by cases e)⟩ <;> (intro b e; cases e; first | rfl | with_unfolding_all rfl | kernel_rfl)
theorem Ju7 {K : W.Frag} : IsOk ce K (.type "tuple") Jbu := by
 refine ⟨?_, ?_, ?_, ?_, ?_, ?_, ?_, (fun k C b e => by cases e), (fun k C b e => by cases e)⟩ <;> (intro b e; cases e; first | rfl | with_unfolding_all rfl | kernel_rfl)
theorem Jwn {K : W.Frag} : IsOk ce K (.type "int") Jbk := by
 refine ⟨?_, ?_, ?_, ?_, ?_, ?_, ?_, (fun k C b e => by cases e), (fun k C b e => by cases e)⟩ <;> (intro b e; cases e; first | rfl | with_unfolding_all rfl | kernel_rfl)
end
end L3
namespace L3
open PySem PySem.Spec PyProof.Rows L2
noncomputable def clOf (cells : List (Str × Addr)) : List (Str × NameKind) -> List (Str × Addr) -> List (Str × Addr)
 | [], acc => acc
 | (n, k) :: r, acc => clOf cells r (if (k == NameKind.free) = true then (match cells.lookup n with | some c => (n, c) :: acc | none => acc) else acc)
theorem Jlf {env : Env} (names : List (Str × NameKind)) (acc : List (Str × Addr)) (h : ∀ x ∈ names, x.2 = .free -> ∃ c, env.cells.lookup x.1 = some c) :
  (forIn names acc (fun (x : Str × NameKind) (r : List (Str × Addr)) => if (x.2 == NameKind.free) = true then (do let c <- cellOf env x.1; pure (ForInStep.yield ((x.1, c) :: r))) else pure (ForInStep.yield r)) : Sem (List (Str × Addr))) = pure (clOf env.cells names acc) := by
 induction names generalizing acc with
 | nil => rfl
 | cons x r ih =>
  obtain ⟨n, k⟩ := x
  have ih' := fun a => ih a fun y hy => h y (List.mem_cons_of_mem _ hy)
  rw [List.forIn_cons]
  by_cases hk : (k == NameKind.free) = true
  ·have hk' : k = .free := by
    cases k <;> first | rfl | exact absurd hk (by decide)
   obtain ⟨c, hc⟩ := h (n, k) List.mem_cons_self hk'
   have e1 : cellOf env n = pure c := by unfold cellOf; rw [hc]
   simp only [hk, if_true, e1, pure_bind]
   rw [ih']
   simp only [clOf, hk, if_true, hc]
  ·simp only [hk, Bool.false_eq_true, if_false, pure_bind]
   rw [ih']
   simp only [clOf, hk, Bool.false_eq_true, if_false]
theorem Jmb {scope : Scope} {env : Env} (h : ∀ x ∈ scope.names, x.2 = .free -> ∃ c, env.cells.lookup x.1 = some c) : closureFor scope env = pure (clOf env.cells scope.names []) := by
 have e := Jlf (env := env) scope.names [] h
 have e2 : closureFor scope env = ((forIn scope.names [] (fun (x : Str × NameKind) (r : List (Str × Addr)) => if (x.2 == NameKind.free) = true then (do let c <- cellOf env x.1; pure (ForInStep.yield ((x.1, c) :: r))) else pure (ForInStep.yield r)) : Sem (List (Str × Addr))) >>= fun s => pure s) := rfl
 rw [e2, e]
 rfl
theorem Jqp {cells : List (Str × Addr)} : ∀ (names : List (Str × NameKind)) (acc : List (Str × Addr)), (∀ x c, acc.lookup x = some c -> cells.lookup x = some c) -> ∀ x c, (clOf cells names acc).lookup x = some c -> cells.lookup x = some c
 | [], _, h, x, c, e => h x c e
 | (n, k) :: r, acc, h, x, c, e => by
  refine Jqp r _ ?_ x c e
  intro y d q
  split at q
  ·cases hc : cells.lookup n with
   | none => rw [hc] at q; exact h y d q
   | some a =>
    rw [hc] at q
    simp only [List.lookup_cons] at q
    cases hb : y == n with
    | true =>
     rw [hb] at q
     cases q
     rw [beq_iff_eq.mp hb]
     exact hc
    | false =>
     rw [hb] at q
     exact h y d q
  ·exact h y d q
theorem Jm2 {cells : List (Str × Addr)} : ∀ (names : List (Str × NameKind)) (acc : List (Str × Addr)) (x : Str), (acc.lookup x).isSome = true -> ((clOf cells names acc).lookup x).isSome = true
 | [], _, _, h => h
 | (n, k) :: r, acc, x, h => by
  refine Jm2 r _ x ?_
  split
  ·cases hc : cells.lookup n with
   | none => exact h
   | some a =>
    simp only [List.lookup_cons]
    cases hb : x == n with
    | true => rfl
    | false => exact h
  ·exact h
theorem Jmu {cells : List (Str × Addr)} : ∀ (names : List (Str × NameKind)) (acc : List (Str × Addr)) (x : Str) (c : Addr), (x, NameKind.free) ∈ names -> cells.lookup x = some c -> ((clOf cells names acc).lookup x).isSome = true
 | [], _, _, _, h, _ => by simp at h
 | (n, k) :: r, acc, x, c, h, hc => by
  rcases List.mem_cons.mp h with e | e
  ·obtain ⟨rfl, rfl⟩ := Prod.mk.inj e
   refine Jm2 r _ _ ?_
   simp [hc]
  ·exact Jmu r _ x c e hc
theorem Jd4 {env : Env} : ∀ {names : List (Str × NameKind)} {x : Str} {k : NameKind},
  (names.map fun (n, k) => if (k == NameKind.free && env.scope.kind == .function && env.kindOf n == some .cell) then (n, NameKind.cell) else (n, k)).lookup x = some k ->
  ∃ k0, names.lookup x = some k0 /\ (k, k0) ∈ ([(k0, k0), (.cell, .free)] : List (NameKind × NameKind))
 | [], _, _, h => by simp at h
 | (n, k1) :: r, x, k, h => by
  have ih := @Jd4 env r x k
  have h' : List.lookup x ((if (k1 == NameKind.free && env.scope.kind == .function && env.kindOf n == some .cell) = true then (n, NameKind.cell) else (n, k1)) :: _) = some k := h
  cases hx : x == n with
  | true =>
   refine ⟨k1, by simp [List.lookup_cons, hx], ?_⟩
   by_cases hc : (k1 == NameKind.free && env.scope.kind == .function && env.kindOf n == some .cell) = true
   ·rw [if_pos hc] at h'
    simp only [List.lookup_cons, hx] at h'
    cases h'
    simp only [Bool.and_eq_true, beq_iff_eq] at hc
    rw [hc.1.1]
    simp
   ·rw [if_neg hc] at h'
    simp only [List.lookup_cons, hx] at h'
    cases h'
    simp
  | false =>
   have h2 : List.lookup x (r.map fun (n, k) => if (k == NameKind.free && env.scope.kind == .function && env.kindOf n == some .cell) then (n, NameKind.cell) else (n, k)) = some k := by
    by_cases hc : (k1 == NameKind.free && env.scope.kind == .function && env.kindOf n == some .cell) = true
    ·rw [if_pos hc] at h'; simpa only [List.lookup_cons, hx] using h'
    ·rw [if_neg hc] at h'; simpa only [List.lookup_cons, hx] using h'
   obtain ⟨k0, e, m⟩ := ih h2
   exact ⟨k0, by simp only [List.lookup_cons, hx]; exact e, m⟩
theorem Jjl {env : Env} : ∀ {names : List (Str × NameKind)} {x : Str}, names.lookup x = some .free ->
  ∃ k, (names.map fun (n, k) => if (k == NameKind.free && env.scope.kind == .function && env.kindOf n == some .cell) then (n, NameKind.cell) else (n, k)).lookup x = some k /\ (k = .cell ∨ k = .free)
 | [], _, h => by simp at h
 | (n, k1) :: r, x, h => by
  have ih := @Jjl env r x
  cases hx : x == n with
  | true =>
   simp only [List.lookup_cons, hx] at h
   cases h
   by_cases hc : (NameKind.free == NameKind.free && env.scope.kind == .function && env.kindOf n == some .cell) = true
   ·exact ⟨.cell, by rw [List.map_cons]; dsimp only; rw [if_pos hc]; simp only [List.lookup_cons, hx], .inl rfl⟩
   ·exact ⟨.free, by rw [List.map_cons]; dsimp only; rw [if_neg hc]; simp only [List.lookup_cons, hx], .inr rfl⟩
  | false =>
   simp only [List.lookup_cons, hx] at h
   obtain ⟨k, e, q⟩ := ih h
   refine ⟨k, ?_, q⟩
   rw [List.map_cons]
   dsimp only
   by_cases hc : (k1 == NameKind.free && env.scope.kind == .function && env.kindOf n == some .cell) = true
   ·rw [if_pos hc]; simp only [List.lookup_cons, hx]; exact e
   ·rw [if_neg hc]; simp only [List.lookup_cons, hx]; exact e
noncomputable def cxC (X : Cx) (N' : List Str) (scope : Scope) (C : Addr) (s : Shared) (H : Hp) (fp : List Addr) : Cx :=
 { X with N := N', s₀ := s, H₀ := H, env := compEnvC scope (clOf X.env.cells scope.names []) C X.env, outer := X.stack, ex := fp, fn := fun _ => false, pn := [] }
noncomputable def Jfb (N0 loc caps : List Str) (js : List Nat) (sc₀ scope : Scope) : Bool :=
 decide (scope.kind = .function) && decide (sc₀.kind = .function) && scope.names.all (fun x => !(x.2 == .cell)) && scope.names.all (fun x => !(x.2 == .local) || decide (scope.names.lookup x.1 = some .local)) &&
 scope.names.all (fun x => !(x.2 == .free) || decide (sc₀.names.lookup x.1 = some .cell) || decide (sc₀.names.lookup x.1 = some .free)) &&
 scope.names.all (fun x => !(decide (scope.names.lookup x.1 = some .free)) || (x.2 == .free)) &&
 (js.zip caps).all (fun p => decide (N0[p.1]? = some p.2) && decide (scope.names.lookup p.2 = some .free)) && decide (js.length = caps.length) && decide (loc ++ caps).Nodup &&
 loc.all (fun n => decide (scope.names.lookup n = some .local))
open Classical in
noncomputable def Jfc (chk : IH -> Prop) (g : G1) (t : T1) (e : E1) (i0 : Nat) : List IV -> ISt -> IH -> Res IV
 | [], _, h => if chk h then .ok (.ref i0) h else .stuck
 | x :: xs, σ, h => if chk h then (match g x σ h with
   | .next σ1 h1 => (match t σ1 h1 with
    | .ok true h2 => (match e σ1 h2 with
     | .ok v h3 => (match h3[i0]? with
      | some (.lst acc) => if acc.length < sizeLine then Jfc chk g t e i0 xs σ1 (h3.set i0 (.lst (acc ++ [v]))) else .stuck
      | _ => .stuck)
     | _ => .stuck)
    | .ok false h2 => Jfc chk g t e i0 xs σ1 h2
    | _ => .stuck)
   | _ => .stuck) else .stuck
noncomputable def stC (nloc : Nat) (js : List Nat) (σ : ISt) : ISt := List.replicate nloc none ++ js.map fun j => (σ[j]?).join
noncomputable def Jbi (it : I1) (nloc : Nat) (js : List Nat) (g : G1) (t : T1) (e : E1) : E1 := fun σ h => (it σ h).bind fun J h1 => Jfc J.chk g t e h1.length J.xs (stC nloc js σ) (h1 ++ [.lst []])
theorem Jny {prog : Program} {w : World} {A : Around} {R : Result -> Shared -> Prop} {s : Shared} {elt target iter : Expr} {ifs : List Expr} {scope : Scope} {pos : Pos} {it acc : Value} {env : Env} (I : Nat -> Shared -> Prop)
  (turn : ∀ n s, I n s -> wpAny (model prog w) A (pyNext it) (fun r s₁ => match r with
   | none => R (.ok .next) s₁
   | some v => wpAny (model prog w) A (letOwnedTupleGo target it v) (fun _ s₁' => wpAny (model prog w) A (assign target env v) (fun _ s₂ =>
     wpAny (model prog w) A (forIn ifs true fun c r => if r = true then do let ok <- isTrue c env (eval c env); pure (ForInStep.yield ok) else pure (ForInStep.yield r)) (fun ok s₃ =>
      if ok = true then wpAny (model prog w) A (eval elt env) (fun x s₄ =>
       wpAny (model prog w) A (call (.builtin "list.append") [acc, x]) (fun _ s₅ => ∃ m, m < n /\ I m s₅) (fun _ _ => False) s₄) (fun _ _ => False) s₃
      else ∃ m, m < n /\ I m s₃) (fun _ _ => False) s₂) (fun _ _ => False) s₁') (fun _ _ => False) s₁) (fun _ _ => False) s)
  (n : Nat) (h : I n s) : codeAny (model prog w) A (.compLoop (.ListComp elt [⟨target, iter, ifs, 0⟩] scope pos) 0 it acc env) R s := by
 refine codeAny_loop rfl I (fun n s hI => ?_) n h
 show wpAny _ A ((compTurn (.ListComp elt [⟨target, iter, ifs, 0⟩] scope pos) 0 it acc env).onRaise (fun x => do noteFrame x env; theTreesLotGoes x)) _ _ s
 refine wpAny_noted (nof ?_)
 rw [compTurn_list]
 refine wpAny_bind (wpAny_standAt (wpAny_bind (wpAny_mono (turn n s hI) (fun r s₁ h₁ => ?_) fun _ _ h' => h')))
 cases r with
 | none => exact wpAny_pure h₁
 | some v =>
  refine wpAny_bind (wpAny_mono h₁ (fun _ s₁' h₁' => ?_) fun _ _ h' => h')
  refine wpAny_bind (wpAny_mono h₁' (fun _ s₂ h₂ => wpAny_bind (wpAny_mono h₂ (fun ok s₃ h₃ => ?_) fun _ _ h' => h')) fun _ _ h' => h')
  cases ok with
  | false => exact wpAny_pure ⟨rfl, h₃⟩
  | true =>
   exact wpAny_bind (wpAny_bind (wpAny_mono h₃ (fun x s₄ h₄ => wpAny_bind (wpAny_mono h₄ (fun _ s₅ h₅ => wpAny_pure (wpAny_pure ⟨rfl, h₅⟩)) fun _ _ h' => h')) fun _ _ h' => h'))
noncomputable def PTsi (ce : Str -> Option Addr) (X : Cx) (ifs : List Expr) (m : T1) : Prop := PX ce X RB (forIn ifs true fun c r => if r = true then do let ok <- isTrue c X.env (eval c X.env); pure (ForInStep.yield ok) else pure (ForInStep.yield r)) m
noncomputable def Jci : T1 := fun _ h => .ok true h
theorem Jxe {ce : Str -> Option Addr} {X : Cx} : PTsi ce X [] Jci := fun _ s _ H ι _ _ _ _ N K => wpAny_tests_nil (K true s H ι N .refl rfl)
theorem Jxp {ce : Str -> Option Addr} {X : Cx} {c : Expr} {m : T1} (hc : PTi ce X c m) : PTsi ce X [c] m := fun pins s σ H ι σi h Q E N K => wpAny_tests_one (hc pins s σ H ι σi h Q E N K)
noncomputable def Jmf (ce : Str -> Option Addr) (X : Cx) (use : Option (Value -> Sem Unit)) (pins : List (Addr × Obj)) (ι : List Addr) (σi : ISt) (σ : L2.St) (H : Hp) (r : Res IV) (Q : Value -> Shared -> Prop) (E : Value -> Shared -> Prop) : Prop :=
 match r with
 | .ok v h' => ∀ D C m s' H' ι', Now ce X pins ι' σi h' σ H' s' -> Nxt ι H ι' H' -> RU X.K ι' H' v (.ref D) -> s'.heap.Ns C m -> FpOk X pins H' C -> compPost (model X.prog X.w) X.A E use Q (.ref D) C (.ok .next) s'
 | .exc n h' => ∀ pl a s' H' ι', Now ce X (pins ++ pl) ι' σi h' σ H' s' -> Nxt ι H ι' H' -> ι'[n]? = some a -> E (.ref a) s'
 | .stuck => False
theorem Jmf.mono {ce : Str -> Option Addr} {X : Cx} {use : Option (Value -> Sem Unit)} {pins : List (Addr × Obj)} {ι ι' : List Addr} {σi : ISt} {σ : L2.St} {H H' : Hp} {r : Res IV} {Q : Value -> Shared -> Prop} {E : Value -> Shared -> Prop} (k : Jmf ce X use pins ι σi σ H r Q E) (n : Nxt ι H ι' H') : Jmf ce X use pins ι' σi σ H' r Q E := by
 cases r with
 | ok v h' => exact fun D C m s' H2 ι2 N n2 q => k D C m s' H2 ι2 N (n.trans n2) q
 | exc m h' => exact fun pl a s' H2 ι2 N n2 q => k pl a s' H2 ι2 N (n.trans n2) q
 | stuck => exact k
section
variable {ce : Str -> Option Addr} {X : Cx}
theorem Jpj {N0 loc caps : List Str} {js : List Nat} {sc₀ scope : Scope} {tg iter elt : Expr} {ifs : List Expr} {mi : I1} {g : G1} {mt : T1} {me : E1} {pos ppos : Pos} {use : Option (Value -> Sem Unit)} (hc : X.calm = true) (hi : PIi ce X tg iter mi)
  (hg : ∀ C s H fp, PGi ce (cxC X (loc ++ caps) scope C s H fp) tg g) (ht : ∀ C s H fp, PTsi ce (cxC X (loc ++ caps) scope C s H fp) ifs mt) (he : ∀ C s H fp, PEi ce (cxC X (loc ++ caps) scope C s H fp) elt me)
  (ok : Jfb N0 loc caps js sc₀ scope = true) (hN0 : X.N = N0 := by rfl) (hsc : X.env.scope = sc₀ := by rfl) (hs : ∀ x, foldedSetIterable iter X.env x = pure x := by intro _; rfl)
  {pins : List (Addr × Obj)} {s : Shared} {σ : L2.St} {H : Hp} {ι : List Addr} {σi : ISt} {h : IH} {Q : Value -> Shared -> Prop} {E : Value -> Shared -> Prop} (N : Now ce X pins ι σi h σ H s) (K : Jmf ce X use pins ι σi σ H (Jbi mi loc.length js g mt me σi h) Q E) :
  wpAny (model X.prog X.w) X.A (comprehension (.ListComp elt [⟨tg, iter, ifs, 0⟩] scope pos) scope X.env ppos (newList []) false (eval iter X.env) use) Q E s := by
 simp only [Jfb, Bool.and_eq_true, decide_eq_true_eq, List.all_eq_true, Bool.not_eq_true', Bool.or_eq_true, beq_iff_eq, beq_eq_false_iff_ne] at ok
 obtain ⟨⟨⟨⟨⟨⟨⟨⟨⟨kF, kF0⟩, kNC⟩, kL⟩, kFr⟩, kFx⟩, kJ⟩, kLen⟩, kNd⟩, kLo⟩ := ok
 have hfree : ∀ x ∈ scope.names, x.2 = .free -> X.env.kindOf x.1 = some .cell ∨ X.env.kindOf x.1 = some .free := fun x hx hk => by
  have e : X.env.kindOf x.1 = sc₀.names.lookup x.1 := by rw [<- hsc]; rfl
  rw [e]
  rcases kFr x hx with (z | z) | z
  ·exact absurd hk z
  ·exact .inl z
  ·exact .inr z
 have hclos : closureFor scope X.env = pure (clOf X.env.cells scope.names []) := Jmb fun x hx hk => N.inv.ok.has x.1 (hfree x hx hk)
 refine wpAny_comprehension_free (use := use) (e := .ListComp elt [⟨tg, iter, ifs, 0⟩] scope pos) rfl hs hclos kF (fun x hx hl => (kL x hx).resolve_left fun z => z hl) ?_
 refine hi pins s σ H ι σi h _ E N ?_
 unfold Jbi at K
 cases e0 : mi σi h with
 | exc n h' => rw [e0] at K; exact K
 | stuck => rw [e0] at K; exact K
 | ok Jt h1 =>
  rw [e0] at K
  intro itv s1 H1 ι1 N1 n1 RI
  obtain ⟨it, fp, tn, J, e, T, st1, f1, OK⟩ := RI
  subst e
  -- the list
  refine wpAny_newObj_type ?_
  have fresh1 : H1 s1.heap.objs.size = none := N1.inv.hok.fresh (Nat.le_refl _)
  have I2 : Inv X pins σ (upd H1 s1.heap.objs.size (.lst [])) { s1 with heap := s1.heap.push { cls := .type "list", dict := none, data := .seq ([] : List Value).toArray } } :=
   N1.inv.laid (t' := s1.toks) (fun b u e => Heap.get?_push_of_some _ e) (Nat.le_refl _) ⟨Nat.zero_le _, [], 0, .nil, Heap.get?_push_size _ rfl⟩
  obtain ⟨R2, n2⟩ := N1.rel.alloc (o := .lst []) (io := .lst []) fresh1 ⟨[], Jk, rfl⟩
  generalize hs2 : ({ s1 with heap := s1.heap.push { cls := .type "list", dict := none, data := .seq ([] : List Value).toArray } } : Shared) = s2 at I2 ⊢
  generalize hD : s1.heap.objs.size = D at *
  generalize hH2 : upd H1 D (.lst []) = H2 at *
  have N2 : Now ce X pins (ι1 ++ [D]) σi (h1 ++ [.lst []]) σ H2 s2 := ⟨I2, R2, N1.st.mono n2⟩
  have keep12 : ∀ b o, s1.heap.get? b = some o -> s2.heap.get? b = some o := fun b o q => by rw [<- hs2]; exact Heap.get?_push_of_some _ q
  have st2 : tn 0 s2.heap := T.keep 0 _ _ st1 fun b _ o q => keep12 b o q
  have hat : (ι1 ++ [D])[h1.length]? = some D := by
   rw [<- N1.rel.len, List.getElem?_append_right (Nat.le_refl _)]
   simp
  have f2 : ∀ b ∈ fp, FpOk X pins H2 b := fun b hb => by
   refine ⟨?_, (f1 b hb).2⟩
   obtain ⟨o, ho, _⟩ := T.obj 0 _ st1 b hb
   have : b ≠ D := Nat.ne_of_lt (by rw [<- hD]; exact Heap.lt_size ho)
   rw [<- hH2, Jg this]
   exact (f1 b hb).1
  -- the block's own dict
  refine wpAny_newFunctionEnv (fun x hx => kNC x hx) (by intro y hy; simp at hy) (fun h3 hns3 hsb3 => ?_) kF
  generalize hC : s2.heap.objs.size = C at *
  have keep23 : ∀ b o, s2.heap.get? b = some o -> h3.get? b = some o := fun b o q => (hsb3.2 b (Nat.ne_of_lt (by rw [<- hC]; exact Heap.lt_size q))).trans (Heap.get?_push_of_some _ q)
  have cells' : ∀ x c, (clOf X.env.cells scope.names []).lookup x = some c -> X.env.cells.lookup x = some c := Jqp _ _ (fun x c q => by simp at q)
  -- the context of the block
  have okX : (cxC X (loc ++ caps) scope C s2 H2 fp).Ok := by
   refine ⟨N.inv.ok.mod, kF, N.inv.ok.glob, N.inv.ok.blt, Nat.le_of_eq hC, fun x y c a b => N.inv.ok.inj x y c (cells' x c a) (cells' y c b), fun x hx => ?_, fun x c z => ?_, N.inv.ok.hd, N.inv.ok.frames, .inl rfl, fun b hb => ?_, fun b o q => I2.bs b o q,
    Nat.le_trans N.inv.ok.bsz I2.sz, fun b o q hb => ?_, fun b hb z => ?_, I2.stack, I2.stkFree⟩
   ·have hx' : (relabel scope X.env).names.lookup x = some .cell ∨ (relabel scope X.env).names.lookup x = some .free := hx
    have hfr : scope.names.lookup x = some .free := by
     rcases hx' with z | z
     ·obtain ⟨k0, e, m⟩ := Jd4 z
      simp only [List.mem_cons, Prod.mk.injEq, List.not_mem_nil, or_false] at m
      rcases m with ⟨m1, _⟩ | ⟨_, m2⟩
      ·exact absurd (kNC _ (PySem.mem_of_lookup e)) (by rw [<- m1]; intro q; exact q rfl)
      ·rw [m2] at e; exact e
     ·obtain ⟨k0, e, m⟩ := Jd4 z
      simp only [List.mem_cons, Prod.mk.injEq, List.not_mem_nil, or_false] at m
      rcases m with ⟨m1, _⟩ | ⟨m1, _⟩
      ·rw [<- m1] at e; exact e
      ·cases m1
    have hm := PySem.mem_of_lookup hfr
    obtain ⟨c, hc'⟩ := N.inv.ok.has x (hfree (x, .free) hm rfl)
    exact Option.isSome_iff_exists.mp (Jmu _ _ x c hm hc')
   ·exact absurd (show false = true from z) Bool.false_ne_true
   ·have hbD := f2 b hb
    obtain ⟨o, ho, _⟩ := T.obj 0 _ st2 b hb
    exact ⟨Nat.ne_of_lt (by show b < C; rw [<- hC]; exact Heap.lt_size ho), fun x c q => hbD.2.2.2.2.1 x c (cells' x c q)⟩
   ·rcases (f2 b hb).2.2.2.1 with z | z
    ·exact N.inv.ok.noex b o q z
    ·exact Nat.lt_irrefl _ (Nat.lt_of_lt_of_le (Heap.lt_size q) (Nat.le_trans N.inv.ok.bsz z))
   ·rcases List.mem_cons.mp (I2.stkSub b z) with e | e
    ·exact (f2 b hb).2.1 e
    ·exact (f2 b hb).2.2.1 e
  -- the block's state
  have lenJ : js.length = caps.length := kLen
  have stl : (stC loc.length js σi).length = (loc ++ caps).length := by simp [stC, lenJ]
  have R3 : Rel ce X.K (ι1 ++ [D]) (h1 ++ [.lst []]) H2 := R2
  have I3 : Inv (cxC X (loc ++ caps) scope C s2 H2 fp) [] (List.replicate loc.length none ++ js.map fun j => (σ[j]?).join) H2 { s2 with heap := h3, toks := s2.toks + ([] : List (Str × Value)).length } := by
   refine ⟨okX, rfl, I2.bare, Un.kept keep23, ⟨_, hns3, fun i x v a b c => ?_⟩, fun x c q => ?_, I2.hok.fresh (Nat.le_of_eq hC), fun x c q => I2.freeC x c (cells' x c q), fun p hp => absurd (show p ∈ ([] : List (Addr × Obj)) from hp) (by simp), I2.hok.kept keep23, by show _ = (loc ++ caps).length; simp [lenJ]⟩
   ·have hi : loc.length <= i := by
     refine Nat.le_of_not_lt fun hlt => ?_
     rw [List.getElem?_append_left (by simpa using hlt), List.getElem?_replicate] at b
     split at b <;> cases b
    obtain ⟨k, rfl⟩ : ∃ k, i = loc.length + k := ⟨i - loc.length, by omega⟩
    have a' : (loc ++ caps)[loc.length + k]? = some x := a
    rw [List.getElem?_append_right (by omega)] at a'
    rw [List.getElem?_append_right (by simp)] at b
    simp only [Nat.add_sub_cancel_left, List.length_replicate, List.getElem?_map] at a' b
    cases ej : js[k]? with
    | none => rw [ej] at b; cases b
    | some j =>
     rw [ej] at b
     have b' : (σ[j]?).join = some v := Option.some.inj b
     have hσ : σ[j]? = some (some v) := by
      cases es : σ[j]? with
      | none => rw [es] at b'; cases b'
      | some o => rw [es] at b'; rw [show o = some v from b']
     have hz := kJ (j, x) (List.mem_iff_getElem?.mpr ⟨k, by rw [List.getElem?_zip_eq_some]; exact ⟨ej, a'⟩⟩)
     obtain ⟨hx1, hx2⟩ := hz
     obtain ⟨m, hn, hl⟩ := I2.loc
     have hk := hfree (x, .free) (PySem.mem_of_lookup hx2) rfl
     obtain ⟨u, ru, lk⟩ := hl j x v (by rw [hN0]; exact hx1) hσ (by rcases hk with q | q; exact .inr (.inl q); exact .inr (.inr q))
     rcases lk with ⟨q, _⟩ | ⟨q, c, hc', hcell⟩
     ·rcases hk with q' | q' <;> (rw [q'] at q; cases q)
     ·obtain ⟨kk, ek, hkk⟩ := Jjl (env := X.env) hx2
      have hcl := Jmu (cells := X.env.cells) scope.names [] x c (PySem.mem_of_lookup hx2) hc'
      obtain ⟨c', hc2⟩ := Option.isSome_iff_exists.mp hcl
      have := cells' x c' hc2
      rw [hc'] at this
      cases this
      obtain ⟨oc, hoc, hd⟩ := hcell
      refine ⟨u, ru, .inr ⟨?_, c, hc2, oc, keep23 _ _ hoc, hd⟩⟩
      rcases hkk with rfl | rfl
      ·exact .inl ek
      ·exact .inr ek
   ·obtain ⟨v, o, ho, hd⟩ := I2.cell x c (cells' x c q)
    exact ⟨v, o, keep23 _ _ ho, hd⟩
  have N3 : Now ce (cxC X (loc ++ caps) scope C s2 H2 fp) [] (ι1 ++ [D]) (stC loc.length js σi) (h1 ++ [.lst []]) (List.replicate loc.length none ++ js.map fun j => (σ[j]?).join) H2 { s2 with heap := h3, toks := s2.toks + ([] : List (Str × Value)).length } := by
   refine ⟨I3, R3, by simp [stC], fun i v q => ?_⟩
   unfold stC at q
   have hi : loc.length <= i := by
    refine Nat.le_of_not_lt fun hlt => ?_
    rw [List.getElem?_append_left (by simpa using hlt), List.getElem?_replicate] at q
    split at q <;> cases q
   rw [List.getElem?_append_right (by simpa using hi)] at q
   simp only [List.length_replicate, List.getElem?_map] at q
   cases ej : js[i - loc.length]? with
   | none => rw [ej] at q; cases q
   | some j =>
    rw [ej] at q
    have q' : (σi[j]?).join = some v := Option.some.inj q
    have hσ : σi[j]? = some (some v) := by
     cases es : σi[j]? with
     | none => rw [es] at q'; cases q'
     | some o => rw [es] at q'; rw [show o = some v from q']
    obtain ⟨u, hu, qu⟩ := N2.st.at_ j v hσ
    refine ⟨u, ?_, qu⟩
    rw [List.getElem?_append_right (by simpa using hi)]
    simp only [List.length_replicate, List.getElem?_map, ej, Option.map_some, hu]
    rfl
  have st3 : tn 0 h3 := T.keep 0 _ _ st2 fun b _ o q => keep23 b o q
  have K2 : Jmf ce X use pins (ι1 ++ [D]) σi σ H2 (Jfc Jt.chk g mt me h1.length Jt.xs (stC loc.length js σi) (h1 ++ [.lst []])) Q E := Jmf.mono (r := Jfc Jt.chk g mt me h1.length Jt.xs (stC loc.length js σi) (h1 ++ [.lst []])) K (n1.trans n2)
  have loop : codeAny (model X.prog X.w) X.A (.compLoop (.ListComp elt [⟨tg, iter, ifs, 0⟩] scope pos) 0 (.ref it) (.ref D) (compEnvC scope (clOf X.env.cells scope.names []) C X.env)) (compPost (model X.prog X.w) X.A E use Q (.ref D) C)
    { s2 with heap := h3, toks := s2.toks + ([] : List (Str × Value)).length } := by
   refine Jny (fun n s' => ∃ k ιk σk hk σ' H', Now ce (cxC X (loc ++ caps) scope C s2 H2 fp) [] ιk σk hk σ' H' s' /\ Nxt (ι1 ++ [D]) H2 ιk H' /\ tn k s'.heap /\ (∀ b ∈ fp, H' b = none) /\ n = Jt.xs.length - k /\ k <= Jt.xs.length /\ Jmf ce X use pins ιk σi σ H' (Jfc Jt.chk g mt me h1.length (Jt.xs.drop k) σk hk) Q E) ?_ Jt.xs.length
    ⟨0, ι1 ++ [D], stC loc.length js σi, h1 ++ [.lst []], _, H2, N3, .refl, st3, fun b hb => (f2 b hb).1, by simp, Nat.zero_le _, by simpa using K2⟩
   have stat : ∀ {H' : Hp}, (∀ b ∈ fp, H' b = none) -> ∀ b ∈ fp, FpOk (cxC X (loc ++ caps) scope C s2 H2 fp) [] H' b := fun hn b hb =>
    ⟨hn b hb, (okX.exf b hb).1, okX.exfs b hb, .inl hb, (okX.exf b hb).2, fun p hp => absurd (show p ∈ ([] : List (Addr × Obj)) from hp) (by simp)⟩
   rintro n s4 ⟨k, ιk, σk, hk, σ4, H4, N4, n4, st4, fr4, rfl, hkl, K4⟩
   by_cases hlt : k < Jt.xs.length
   ·have hd : Jt.xs.drop k = Jt.xs[k] :: Jt.xs.drop (k + 1) := List.drop_eq_getElem_cons hlt
    rw [hd] at K4
    unfold Jfc at K4
    split at K4
    ·rename_i hck
     obtain ⟨go, yl⟩ := OK.go k Jt.xs[k] hk H4 ιk (n2.trans n4) N4.rel hck (List.getElem?_eq_getElem hlt)
     refine thn (T.item (cxC X (loc ++ caps) scope C s2 H2 fp) rfl rfl rfl hc k [] s4 σ4 H4 (fun _ _ => False) N4.inv (stat fr4) st4 go) fun r s5 ⟨u, hr, h5⟩ => ?_
     subst hr
     refine thn h5 fun _ s6 ⟨x, H6, I6, r6, y6, st6, fr6⟩ => ?_
     obtain ⟨R6, n6, q6⟩ := yl x H6 y6
     have I6' := I6.pinned (stat fr6) (T.obj _ _ st6)
     have N6 : Now ce (cxC X (loc ++ caps) scope C s2 H2 fp) ([] ++ Jhi fp s6.heap) ιk σk hk σ4 H6 s6 := ⟨I6', R6, N4.st.mono n6⟩
     have again : ∀ {σ7 : L2.St} {H7 : Hp} {s7 : Shared} {σ7i : ISt} {h7 : IH} {ι7 : List Addr}, Now ce (cxC X (loc ++ caps) scope C s2 H2 fp) ([] ++ Jhi fp s6.heap) ι7 σ7i h7 σ7 H7 s7 -> Nxt ιk H6 ι7 H7 -> Jmf ce X use pins ιk σi σ H4 (Jfc Jt.chk g mt me h1.length (Jt.xs.drop (k + 1)) σ7i h7) Q E ->
       ∃ m, m < Jt.xs.length - k /\ ∃ k ιk σk hk σ' H', Now ce (cxC X (loc ++ caps) scope C s2 H2 fp) [] ιk σk hk σ' H' s7 /\ Nxt (ι1 ++ [D]) H2 ιk H' /\ tn k s7.heap /\ (∀ b ∈ fp, H' b = none) /\ m = Jt.xs.length - k /\ k <= Jt.xs.length /\ Jmf ce X use pins ιk σi σ H' (Jfc Jt.chk g mt me h1.length (Jt.xs.drop k) σk hk) Q E :=
      fun {σ7 H7 s7 σ7i h7 ι7} N7 n7 K7 => by
       have nn : Nxt ιk H4 ι7 H7 := n6.trans n7
       refine ⟨Jt.xs.length - (k + 1), by omega, k + 1, ι7, σ7i, h7, σ7, H7, N7.pins, n4.trans nn, T.keep _ _ _ st6 fun b hb o e => (N7.inv.pin (b, o) (List.mem_append_right _ (List.mem_append_right _ (Jd8 hb e)))).1, fun b hb => ?_, rfl, hlt, K7.mono nn⟩
       obtain ⟨o, e, d⟩ := T.obj _ _ st6 b hb
       exact (N7.inv.pin (b, o) (List.mem_append_right _ (List.mem_append_right _ (Jd8 hb e)))).2.1
     cases eg : g Jt.xs[k] σk hk with
     | next σg hgg =>
      rw [eg] at K4
      dsimp only at K4
      refine hg C s2 H2 fp _ s6 σ4 H6 ιk σk hk _ u (fun _ s7 => wpAny (model X.prog X.w) X.A (forIn ifs true fun c r => if r = true then do let ok <- isTrue c _ (eval c _); pure (ForInStep.yield ok) else pure (ForInStep.yield r)) _ _ s7) (fun _ _ => False) N6 ⟨x, r6, q6⟩ ?_
      rw [eg]
      intro s7 σ7 H7 ι7 N7 n7
      refine ht C s2 H2 fp _ s7 σ7 H7 ι7 σg hgg _ (fun _ _ => False) N7 ?_
      cases et : mt σg hgg with
      | ok c h8 =>
       rw [et] at K4
       intro d s8 H8 ι8 N8 n8 rd
       have rd' : d = c := rd
       subst rd'
       cases d with
       | false => exact again N8 (n7.trans n8) K4
       | true =>
        dsimp only at K4
        refine he C s2 H2 fp _ s8 σ7 H8 ι8 σg h8 _ (fun _ _ => False) N8 ?_
        cases ee : me σg h8 with
        | ok v h9 =>
         rw [ee] at K4
         dsimp only at K4
         intro w s9 H9 ι9 N9 n9 rw9
         have hat9 : ι9[h1.length]? = some D := (((n4.trans n6).trans n7).trans (n8.trans n9)).at hat
         cases hl : h9[h1.length]? with
         | none => rw [hl] at K4; exact Zf K4
         | some ob =>
          rw [hl] at K4
          cases ob with
          | lst acc =>
           dsimp only at K4
           split at K4
           ·rename_i hz
            obtain ⟨vs, eD, rD⟩ := N9.at hl hat9
            obtain ⟨wv, rw9, qw⟩ := rw9
            have ap := Jnc (X := (cxC X (loc ++ caps) scope C s2 H2 fp).wish fun _ _ => False) ([] ++ Jhi fp s6.heap) s9 σ7 H9 (.ref D) [wv] (.ref D) [w] (fun _ H' => H' = upd H9 D (.lst (vs ++ [wv]))) (N9.inv.wish _) rfl (.cons rw9 .nil) ⟨D, vs, wv, rfl, rfl, eD, by rw [rD.length]; exact hz, rfl⟩
            refine wpAny_mono ap (fun _ s10 hq => ?_) fun _ _ z => z
            obtain ⟨z, H10, I10, _, rfl⟩ := hq
            have n10 : Nxt ι9 H9 ι9 (upd H9 D (.lst (vs ++ [wv]))) := ⟨⟨[], by simp⟩, Ext.upd_mut eD (by rw [eD]; exact True.intro)⟩
            obtain ⟨R10, _⟩ := N9.rel.write (o := .lst (vs ++ [wv])) (io := .lst (acc ++ [v])) hat9 eD (by rw [eD]; exact True.intro) ⟨_, Jk, (RVs.mono n10 _ _ rD).append (RVs.one (RV.mono n10 _ _ qw))⟩
            exact again ⟨I10.unwish, R10, N9.st.mono n10⟩ (((n7.trans n8).trans n9).trans n10) K4
           ·exact Zf K4
          | _ => exact Zf K4
        | _ => rw [ee] at K4; exact Zf K4
      | _ => rw [et] at K4; exact Zf K4
     | _ => rw [eg] at K4; exact Zf K4
    ·exact Zf K4
   ·have hke : Jt.xs.drop k = [] := List.drop_eq_nil_of_le (by omega)
    rw [hke] at K4
    unfold Jfc at K4
    split at K4
    ·rename_i hck
     have stop := OK.stop k hk H4 ιk (n2.trans n4) N4.rel hck (by omega)
     refine thn (T.done (cxC X (loc ++ caps) scope C s2 H2 fp) rfl rfl rfl hc k [] s4 σ4 H4 (fun _ _ => False) N4.inv (stat fr4) st4 stop) fun r s5 ⟨hr, I5⟩ => ?_
     subst hr
     obtain ⟨m, hnm, _⟩ := I5.loc
     -- back to the def's own frame
     have hos : s5.os = s2.os := I5.os
     obtain ⟨hp5, g5, d5, t5, os5⟩ := s5
     obtain rfl : os5 = s2.os := hos
     have J5 : Inv X pins σ H4 { s2 with heap := hp5, gens := g5, drawn := d5, toks := t5 } := I2.call (ch := fp) I5.base I5.hok I5.bare fun b hb => ⟨(f2 b hb).2.2.2.1, (f2 b hb).2.1, (f2 b hb).2.2.2.2.1, (f2 b hb).2.2.2.2.2⟩
     have fC : FpOk X pins H4 C := I2.fpOk (Nat.le_of_eq hC) I5.free
     exact K4 D C m _ H4 ιk ⟨J5, N4.rel, (N2.st.mono n4)⟩ .refl ⟨.ref D, rfl, D, rfl, n4.at hat⟩ hnm fC
    ·exact Zf K4
  exact codeAny_compStart_list loop (T.self X.A 0 _ _ _ st3 loop)
theorem Now.letgo {pins : List (Addr × Obj)} {ι : List Addr} {σi : ISt} {h : IH} {σ : L2.St} {H : Hp} {s : Shared} {C : Addr} {h' : Heap} (N : Now ce X pins ι σi h σ H s) (fC : FpOk X pins H C) (sb : Heap.SameBut C s.heap h') : Now ce X pins ι σi h σ H { s with heap := h' } :=
 ⟨N.inv.turned (it := C) (t' := s.toks) (fun b o hb q => (sb.2 b hb).trans q) fC.1 fC.2.1 fC.2.2.2.1 fC.2.2.2.2.1 fC.2.2.2.2.2, N.rel, N.st⟩
theorem Jw3 {N0 loc caps : List Str} {js : List Nat} {sc₀ scope : Scope} {tg iter elt : Expr} {ifs : List Expr} {mi : I1} {g : G1} {mt : T1} {me : E1} {pos : Pos} (hc : X.calm = true) (hi : PIi ce X tg iter mi)
  (hg : ∀ C s H fp, PGi ce (cxC X (loc ++ caps) scope C s H fp) tg g) (ht : ∀ C s H fp, PTsi ce (cxC X (loc ++ caps) scope C s H fp) ifs mt) (he : ∀ C s H fp, PEi ce (cxC X (loc ++ caps) scope C s H fp) elt me)
  (ok : Jfb N0 loc caps js sc₀ scope = true) (hN0 : X.N = N0 := by rfl) (hsc : X.env.scope = sc₀ := by rfl) (hs : ∀ x, foldedSetIterable iter X.env x = pure x := by intro _; rfl) : PEi ce X (.ListComp elt [⟨tg, iter, ifs, 0⟩] scope pos) (Jbi mi loc.length js g mt me) := by
 intro pins s σ H ι σi h Q E N K
 rw [eval_ListComp]
 refine Jpj hc hi hg ht he ok hN0 hsc hs N ?_
 cases e0 : Jbi mi loc.length js g mt me σi h with
 | exc n h' => rw [e0] at K; exact K
 | stuck => rw [e0] at K; exact K
 | ok v h' =>
  rw [e0] at K
  exact fun D C m s' H' ι' N' n' r hns fC => ⟨m, hns, fun h2 sb => K _ _ H' ι' (N'.letgo fC sb) n' r⟩
theorem Jxa {N0 loc caps : List Str} {js : List Nat} {sc₀ scope : Scope} {tg iter elt : Expr} {ifs : List Expr} {mi : I1} {g : G1} {mt : T1} {me : E1} {pos pos2 pos3 : Pos} {i : Nat} {x : Str} (hc : X.calm = true) (hi : PIi ce X tg iter mi)
  (hg : ∀ C s H fp, PGi ce (cxC X (loc ++ caps) scope C s H fp) tg g) (ht : ∀ C s H fp, PTsi ce (cxC X (loc ++ caps) scope C s H fp) ifs mt) (he : ∀ C s H fp, PEi ce (cxC X (loc ++ caps) scope C s H fp) elt me)
  (ok : Jfb N0 loc caps js sc₀ scope = true) (hN0 : X.N = N0 := by rfl) (hsc : X.env.scope = sc₀ := by rfl) (hs : ∀ x, foldedSetIterable iter X.env x = pure x)
  (hN : X.N.Nodup) (hix : X.N[i]? = some x) (hlx : Loc X.env.scope x) (hf : X.fn x = true ∨ X.env.scope.names.lookup x = some .local)
  (hsw : swapsWith (.ListComp elt [⟨tg, iter, ifs, 0⟩] scope pos) (some (.Name x pos2)) pos3.line X.env = pure true) :
  PS1 ce X (.Assign [.Name x pos2] (.ListComp elt [⟨tg, iter, ifs, 0⟩] scope pos) pos3) (sSet i (Jbi mi loc.length js g mt me)) := by
 intro pins s σ H ι σi h Q E N K
 rw [exec_Assign_Name_used _ _ _ _ hsw]
 refine wpAny_bind (wpAny_standAt (wpAny_bind ?_))
 rw [arm_evalThenUse_ListComp]
 refine wpAny_bind ?_
 refine Jpj (use := some (assign (.Name x pos2) X.env)) hc hi hg ht he ok hN0 hsc hs N ?_
 unfold sSet at K
 cases e0 : Jbi mi loc.length js g mt me σi h with
 | exc n h' => rw [e0] at K; exact fun pl a s' H' ι' N' n' q => K pl a s' σ H' ι' N' n' q
 | stuck => rw [e0] at K; exact K
 | ok v h' =>
  rw [e0] at K
  intro D C m s' H' ι' N' n' r hns fC
  obtain ⟨w, rw', q⟩ := r
  obtain ⟨oC, es, ep, hoC, hdC, hrest⟩ := id hns
  have hp : Inv X (pins ++ Jhi [C] s'.heap) σ H' s' := N'.inv.pinned (fun b hb => (show b = C by simpa using hb) ▸ fC) (fun b hb => by
   have e : b = C := by simpa using hb
   subst e
   exact ⟨oC, hoC, fun v z => by rw [hdC] at z; cases z⟩)
  refine wpAny_assign_Name (Jjz hp hN hix hlx rw' (fun s2 I2 => ?_) hf)
  have hC2 := (I2.pin (C, oC) (List.mem_append_right _ (List.mem_append_right _ (Jd8 (by simp) hoC)))).1
  refine ⟨m, ⟨oC, es, ep, hC2, hdC, hrest⟩, fun h2 sb => wpAny_pure ?_⟩
  have N2 : Now ce X pins ι' (σi.set i (some v)) h' (σ.set i (some w)) H' s2 := ⟨I2.unpinned, N'.rel, N'.st.set i q⟩
  exact wpAny_pure (K _ _ H' ι' (N2.letgo fC sb) n')
end
end L3
namespace L3
open PySem PySem.Spec PyProof.Rows L2
section
variable {ce : Str -> Option Addr} {X : Cx}
noncomputable def Jld (x : Str) : List IV := x.cps.toList.map fun c => .str ⟨#[c]⟩
noncomputable def Its (x : Str) : It := ⟨fun i _ => i < x.cps.size, fun i H y H' => H' = H /\ ∃ c, x.cps[i]? = some c /\ y = .str ⟨#[c]⟩, fun i _ => x.cps.size <= i⟩
theorem Jqo {P : Program} {w : World} {K : W.Frag} {tg : Expr} {ty : String} {x : Str} {t : Tok} (it : Addr) (hty : ["enumerate", "zip", "dict_itemiterator", "dict_reverseitemiterator", "odict_iterator", "itertools.zip_longest", "itertools.pairwise"].contains ty = false)
  (W : ∀ A : Around, A.handled = none -> Walks P w A it [it] [it] x.cps.size (SignAt x) (fun i h => h.IsStrIter it ty x t i))
  (We : ∀ (A : Around) (E : Value -> Shared -> Prop) (s : Shared) (i : Nat) (Q : Option Value -> Shared -> Prop), A.handled = none -> s.heap.IsStrIter it ty x t i -> x.cps[i]? = none -> (∀ h', Heap.ExtBut it s.heap h' -> Q none { s with heap := h' }) -> wpAny (model P w) A (pyNext (.ref it)) Q E s)
  (Ws : ∀ (A : Around) (E : Value -> Shared -> Prop) (s : Shared) (i : Nat) (Q : Value -> Shared -> Prop), s.heap.IsStrIter it ty x t i -> Q (.ref it) s -> wpAny (model P w) A (pyIter (.ref it)) Q E s) : Turn P w K tg (Its x) [it] it (fun i h => h.IsStrIter it ty x t i) where
 mem := by simp
 obj := fun i h st b hb => by
  have e : b = it := by simpa using hb
  subst e
  obtain ⟨o, e, c, d⟩ := st
  exact ⟨o, e, fun v z => by rw [d] at z; cases z⟩
 keep := fun i h h' st k => by
  obtain ⟨o, e, r⟩ := st
  exact ⟨o, k it (by simp) o e, r⟩
 item := by
  intro X hP hw hK hc i pins s σ H E I hf st hg
  subst hP hw hK
  obtain ⟨f0, f1, f2, f3, f4, f5⟩ := hf it (by simp)
  refine (W X.A (I.ok.hd hc)).item i s _ _ hg st fun v h' tk hv st' kk => ?_
  obtain ⟨c, u, hcc, rfl⟩ := hv
  have I1 : Inv X pins σ H { s with heap := h', toks := tk } := I.turned (fun b o hb e => kk b o (by simpa using hb) e) f0 f1 f3 f4 f5
  obtain ⟨o, e, c1, d1⟩ := id st'
  exact ⟨_, rfl, Jv5 (s := { s with heap := h', toks := tk }) e c1 d1 hty ⟨.str ⟨#[c]⟩, H, I1, ⟨u, rfl⟩, ⟨rfl, c, hcc, rfl⟩, st', fun b hb => (hf b hb).1⟩⟩
 done := by
  intro X hP hw hK hc i pins s σ H E I hf st hg
  subst hP hw hK
  obtain ⟨f0, f1, f2, f3, f4, f5⟩ := hf it (by simp)
  have hi : x.cps.size <= i := hg
  have hx : x.cps[i]? = none := by simp [hi]
  exact We X.A _ s i _ (I.ok.hd hc) st hx fun h' eb => ⟨rfl, I.turned (t' := s.toks) (fun b o hb e => eb b o hb e) f0 f1 f3 f4 f5⟩
 self := fun A i s Q E st h => Ws A E s i Q st h
noncomputable def Ju8 : IV -> IH -> Res ItI
 | .str x, h => .ok ⟨Jld x, fun _ => True⟩ h
 | _, _ => .stuck
noncomputable def iStr (e : E1) : I1 := fun σ h => (e σ h).bind Ju8
theorem Jxi {x : Str} {ι : List Addr} {H₀ : Hp} : ItOk ce X.K ι H₀ (Its x) ⟨Jld x, fun _ => True⟩ := by
 refine ⟨fun k v h H ι' hp R hck hx => ?_, fun k h H ι' hp R hck hx => ?_⟩
 ·have hk : k < x.cps.size := by
   have := (List.getElem?_eq_some_iff.mp hx).1
   simpa [Jld] using this
  refine ⟨hk, fun y H' hy => ?_⟩
  obtain ⟨rfl, c, hc, rfl⟩ := hy
  simp only [Jld, List.getElem?_map, Array.getElem?_toList, hc] at hx
  cases hx
  exact ⟨R, .refl, rfl⟩
 ·have : (Jld x).length = x.cps.size := by simp [Jld]
  show x.cps.size <= k
  rw [<- this]
  exact hx
theorem Jry {tg l : Expr} {ml : E1} (hl : PEi ce X l ml) : PIi ce X tg l (iStr ml) := by
 intro pins s σ H ι σi h Q E N K
 refine hl pins s σ H ι σi h _ E N ?_
 unfold iStr at K
 cases e0 : ml σi h with
 | exc n h' => rw [e0] at K; exact K
 | stuck => rw [e0] at K; exact K
 | ok v h' =>
  rw [e0] at K
  intro u s1 H1 ι1 N1 n1 r1
  obtain ⟨w, rw', q⟩ := r1
  have fresh : ∀ b ∈ [s1.heap.objs.size], FpOk X pins H1 b := fun b hb => by
   have e : b = s1.heap.objs.size := by simpa using hb
   subst e
   exact N1.inv.fpOk (Nat.le_refl _) (N1.inv.hok.fresh (Nat.le_refl _))
  cases v with
  | str x =>
   have e1 : w = .str x := q
   subst e1
   obtain ⟨t, rfl⟩ := rw'
   simp only [Res.bind, Ju8] at K
   cases ha : x.cps.all (· < 128) with
   | true =>
    refine wpAny_pyIter_ascii ha (K _ _ H1 ι1 ⟨N1.inv.kept (t' := s1.toks) fun b o e => Heap.get?_push_of_some _ e, N1.rel, N1.st⟩ n1 ?_)
    exact ⟨s1.heap.objs.size, [s1.heap.objs.size], _, Its x, rfl, Jqo (ty := "str_ascii_iterator") (t := t) _ (by decide) (fun A hA => Walks.strAscii hA _ x t) (fun A E s i Q hA st hx hQ => wpAny_pyNext_ascii_end hA st hx hQ) (fun A E s i Q st hq => wpAny_pyIter_striter_ascii st hq), ⟨_, Heap.get?_push_size _ rfl, rfl, rfl⟩, fresh, Jxi⟩
   | false =>
    refine wpAny_pyIter_wide ha (K _ _ H1 ι1 ⟨N1.inv.kept (t' := s1.toks) fun b o e => Heap.get?_push_of_some _ e, N1.rel, N1.st⟩ n1 ?_)
    exact ⟨s1.heap.objs.size, [s1.heap.objs.size], _, Its x, rfl, Jqo (ty := "str_iterator") (t := t) _ (by decide) (fun A hA => Walks.strWide hA _ x t) (fun A E s i Q hA st hx hQ => wpAny_pyNext_wide_end hA st hx hQ) (fun A E s i Q st hq => wpAny_pyIter_striter_wide st hq), ⟨_, Heap.get?_push_size _ rfl, rfl, rfl⟩, fresh, Jxi⟩
  | _ => simp only [Res.bind, Ju8] at K
noncomputable def Ite (K : W.Frag) (a : Addr) : It :=
 ⟨fun i H => ∃ xs x, SqL K H a xs /\ xs[i]? = some x, fun i H y H' => ∃ p x, H p = none /\ y = .ref p /\ H' = upd H p (.tup [.int (i : Int), x]) /\ ∀ xs, SqL K H a xs -> xs[i]? = some x, fun i H => ∃ xs, SqL K H a xs /\ xs.length <= i⟩
theorem Jtb {P : Program} {w : World} {K : W.Frag} {es : List Expr} {k : Nat} {p : Pos} (a it e : Addr) (hne : e ≠ it) : Turn P w K (.Tuple es k p) (Ite K a) [e, it] e (fun i h => (∃ old, IsEnum h e it (i : Int) old) /\ h.IsListIter it a i) where
 mem := by simp
 obj := fun i h st b hb => by
  obtain ⟨⟨old, he⟩, o, e1, c, d⟩ := st
  simp only [List.mem_cons, List.not_mem_nil, or_false] at hb
  rcases hb with rfl | rfl
  ·exact ⟨_, he, fun v z => by
    have z' : Data.fields _ = Data.cell v := z
    cases z'⟩
  ·exact ⟨o, e1, fun v z => by rw [d] at z; cases z⟩
 keep := fun i h h' st k => ⟨let ⟨old, he⟩ := st.1; ⟨old, k e (by simp) _ he⟩, st.2.at fun o e => k it (by simp) o e⟩
 item := by
  intro X hP hw hK hc i pins s σ H E I hf st hg
  subst hP hw hK
  obtain ⟨⟨old, he⟩, hit⟩ := st
  obtain ⟨xs, x, hq, hx⟩ := hg
  obtain ⟨its, rv, pl, hz⟩ := I.list hq
  obtain ⟨u, hu, ru⟩ := rv.get hx
  have fe := hf e (by simp)
  have fi := hf it (by simp)
  have hn : H s.heap.objs.size = none := I.hok.fresh (Nat.le_refl _)
  refine wpAny_pyNext_enum_item he hit pl.isList (x := u) (by simpa using hu) hne fun h' he' hit' ht hsz kk => ?_
  refine ⟨_, rfl, wpAny_letOwnedTupleGo_enum he' fun h2 he2 sb => ?_⟩
  have ltE : e < s.heap.objs.size := Heap.lt_size he
  have neT : s.heap.objs.size ≠ e := Nat.ne_of_gt ltE
  have k2 : ∀ b o, b ≠ e -> b ≠ it -> s.heap.get? b = some o -> h2.get? b = some o := fun b o h1 h3 q => (sb.2 b h1).trans (kk b o h1 h3 q)
  have hl2 : h2.IsListIter it a (i + 1) := by
   obtain ⟨o, q, r⟩ := hit'
   exact ⟨o, (sb.2 it (Ne.symm hne)).trans q, r⟩
  have t2 : h2.get? s.heap.objs.size = some { cls := .type "tuple", data := .seq #[.int i s.toks, u] } := (sb.2 _ neT).trans ht
  -- the two records turn, then the tuple is tracked
  obtain ⟨oe, hoe⟩ : ∃ o, s.heap.get? e = some o := ⟨_, he⟩
  obtain ⟨oi, hoi, _⟩ := id hit
  have neP : ∀ b u, H b = some u -> b ≠ s.heap.objs.size := fun b u q => Jap q hn
  have I1 : Inv X pins σ (upd H s.heap.objs.size (.tup [.int (i : Int), x])) { s with heap := h2, toks := s.toks + 1 } := by
   refine I.step (g' := s.gens) (d' := s.drawn) (ch := [e, it]) (fun b hb => ?_) (fun b o _ _ hc q _ => k2 b o (fun z => hc (by simp [z])) (fun z => hc (by simp [z])) q) (fun b o _ _ hc q _ => ⟨o.slots, k2 b o (fun z => hc (by simp [z])) (fun z => hc (by simp [z])) q⟩) (fun b o _ q n => ?_)
    (fun b o hc q => ⟨o, k2 b o (fun z => hc (by simp [z])) (fun z => hc (by simp [z])) q⟩) (fun b xs q => by rw [Jg (neP b _ q)]; exact q) (fun b o u q => by rw [Jg (neP b _ q)]; exact q) (fun b ps q => ⟨#[], by rw [Jg (neP b _ q), q]; simp⟩) (fun m hm => ?_) (fun b u q => ?_) I.bare
   ·simp only [List.mem_cons, List.not_mem_nil, or_false] at hb
    rcases hb with rfl | rfl
    ·exact ⟨fe.2.2.2.1, fe.2.1, fe.2.2.2.2.1, fe.2.2.2.2.2⟩
    ·exact ⟨fi.2.2.2.1, fi.2.1, fi.2.2.2.2.1, fi.2.2.2.2.2⟩
   ·rw [Jg (Nat.ne_of_lt (Heap.lt_size q))]; exact n
   ·obtain ⟨o, es, ep, ho, r⟩ := hm
    exact ⟨o, es, ep, k2 _ o (Ne.symm fe.2.1) (Ne.symm fi.2.1) ho, r⟩
   ·by_cases hb : b = s.heap.objs.size
    ·subst hb
     rw [Jk] at q
     cases q
     exact ⟨by show 2 <= sizeLine; decide, [.int i s.toks, u], .cons ⟨_, rfl⟩ (.cons ru .nil), ⟨_, t2, rfl, _, rfl⟩⟩
    ·rw [Jg hb] at q
     have n1 : b ≠ e := fun z => by rw [z, fe.1] at q; cases q
     have n2 : b ≠ it := fun z => by rw [z, fi.1] at q; cases q
     refine (I.hok b u q).stay (fun c v hc r => k2 c v ?_ ?_ r) (fun c q => by rw [Jg (neP c _ q)]; exact q) fun c ys q => by rw [Jg (neP c _ q)]; exact q
     ·rcases hc with z | z
      ·rw [z]; exact n1
      ·intro y; rw [y, fe.1] at z; cases z
     ·rcases hc with z | z
      ·rw [z]; exact n2
      ·intro y; rw [y, fi.1] at z; cases z
  refine ⟨.ref s.heap.objs.size, _, I1, rfl, ⟨s.heap.objs.size, x, hn, rfl, rfl, fun ys hy => by rw [I.list_inj hy hq]; exact hx⟩, ⟨⟨_, he2⟩, hl2⟩, fun b hb => ?_⟩
  simp only [List.mem_cons, List.not_mem_nil, or_false] at hb
  rcases hb with rfl | rfl
  ·rw [Jg (Nat.ne_of_lt ltE)]; exact fe.1
  ·rw [Jg (Nat.ne_of_lt (Heap.lt_size hoi))]; exact fi.1
 done := by
  intro X hP hw hK hc i pins s σ H E I hf st hg
  subst hP hw hK
  obtain ⟨⟨old, he⟩, hit⟩ := st
  obtain ⟨xs, hq, hx⟩ := hg
  obtain ⟨its, rv, p, hz⟩ := I.list hq
  obtain ⟨f0, f1, f2, f3, f4, f5⟩ := hf it (by simp)
  have hl := rv.length
  exact wpAny_pyNext_enum_end (I.ok.hd hc) he hit p.isList (by simp; omega) fun h' eb => ⟨rfl, I.turned (t' := s.toks) (fun b o hb e => eb b o hb e) f0 f1 f3 f4 f5⟩
 self := fun _ _ _ _ _ st h => let ⟨_, he⟩ := st.1; wpAny_pyIter_enum he h
noncomputable def Jfm (n : Nat) : List IV -> List IV
 | [] => []
 | x :: xs => .tup [.int n, x] :: Jfm (n + 1) xs
theorem Jhs : ∀ (xs : List IV) (n k : Nat), (Jfm n xs)[k]? = (xs[k]?).map fun x => .tup [.int ((n + k : Nat) : Int), x]
 | [], _, _ => by simp [Jfm]
 | x :: xs, n, 0 => by simp [Jfm]
 | x :: xs, n, k + 1 => by
  simp only [Jfm, List.getElem?_cons_succ]
  rw [Jhs xs (n + 1) k]
  have : n + 1 + k = n + (k + 1) := by omega
  rw [this]
theorem Jbm : ∀ (xs : List IV) (n : Nat), (Jfm n xs).length = xs.length
 | [], _ => rfl
 | _ :: xs, n => by simp [Jfm, Jbm xs]
noncomputable def Jik : List IV -> IH -> Res ItI
 | [.ref i], h => match h[i]? with
  | some (.lst xs) => .ok ⟨Jfm 0 xs, fun h' => h'[i]? = some (.lst xs)⟩ h
  | _ => .stuck
 | _, _ => .stuck
theorem Jz7 {a : Addr} {i : Nat} {xs : List IV} {ι : List Addr} {H₀ : Hp} (ha : ι[i]? = some a) : ItOk ce X.K ι H₀ (Ite X.K a) ⟨Jfm 0 xs, fun h' => h'[i]? = some (.lst xs)⟩ := by
 refine ⟨fun k v h H ι' hp R hck hx => ?_, fun k h H ι' hp R hck hx => ?_⟩
 ·obtain ⟨vs, e1, r1⟩ := R.get hck (hp.at ha)
  have hx' : (Jfm 0 xs)[k]? = some v := hx
  rw [Jhs] at hx'
  obtain ⟨x, hxk, rfl⟩ := Option.map_eq_some_iff.mp hx'
  obtain ⟨u, hu, qu⟩ := r1.get hxk
  refine ⟨⟨vs, u, SqL.of e1, hu⟩, fun y H' hy => ?_⟩
  obtain ⟨p, x', hp0, rfl, rfl, hy⟩ := hy
  have := hy vs (SqL.of e1)
  rw [hu] at this
  cases this
  obtain ⟨R', n'⟩ := R.grow (o := .tup [.int (k : Int), u]) hp0
  refine ⟨R', n', p, _, rfl, SqT.of Jk, ⟨_, _, rfl, ?_, _, _, rfl, RV.mono n' _ _ qu, rfl⟩⟩
  show V.int (k : Int) = V.int ((0 + k : Nat) : Int)
  simp
 ·obtain ⟨vs, e1, r1⟩ := R.get hck (hp.at ha)
  exact ⟨vs, SqL.of e1, by rw [r1.length, <- Jbm xs 0]; exact hx⟩
theorem Jz5 {es : List Expr} {kt : Nat} {pt : Pos} {a : Expr} {ma : A1} {p pos : Pos} (hg : Gl X "enumerate") (hm : X.mg "enumerate" = none) (ha : PAi ce X [a] ma) (hs : starEach [a] X.env = [(false, eval a X.env)] := by rfl) : PIi ce X (.Tuple es kt pt) (.Call (.Name "enumerate" p) [a] [] pos) (iRg Jik ma) := by
 intro pins s σ H ι σi h Q E N K
 refine Call_ (Jec N.inv hg hm boot_enumerate (PyProof.Rows.callWith_type1 ?_ hs rfl))
 refine ha pos pins s σ H ι σi h _ E N ?_
 unfold iRg at K
 cases e0 : ma σi h with
 | exc n h' => rw [e0] at K; exact K
 | stuck => rw [e0] at K; exact K
 | ok vs h' =>
  rw [e0] at K
  intro us s1 H1 ι1 N1 n1 r1
  obtain ⟨xs, rv, qs⟩ := r1
  match vs, K with
  | [.ref i], K =>
   obtain ⟨w, e1, q⟩ := qs.one_of
   subst e1
   obtain ⟨b, e3, hb⟩ := q
   subst e3
   obtain ⟨u, rfl, ru⟩ := Jkk rv
   cases ru
   cases hi : h'[i]? with
   | none => simp only [Res.bind, Jik, hi] at K
   | some ob =>
    cases ob with
    | lst ys =>
     simp only [Res.bind, Jik, hi] at K
     obtain ⟨ws, eH, rH⟩ := N1.at hi hb
     obtain ⟨z, its, n, r, hl, eo⟩ := N1.inv.lstM eH
     refine call_enumerate_1 eo fun h2 he hit hsz kp => ?_
     refine wpAny_pyIter_enum he (K _ _ H1 ι1 ⟨N1.inv.kept (t' := s1.toks) kp, N1.rel, N1.st⟩ n1 ?_)
     refine ⟨s1.heap.objs.size + 1, [s1.heap.objs.size + 1, s1.heap.objs.size], _, Ite X.K b, rfl, Jtb b s1.heap.objs.size (s1.heap.objs.size + 1) (Nat.ne_of_gt (Nat.lt_succ_self _)), ⟨⟨_, he⟩, hit⟩, fun c hc => ?_, Jz7 hb⟩
     simp only [List.mem_cons, List.not_mem_nil, or_false] at hc
     rcases hc with rfl | rfl
     ·exact N1.inv.fpOk (Nat.le_succ _) (N1.inv.hok.fresh (Nat.le_succ _))
     ·exact N1.inv.fpOk (Nat.le_refl _) (N1.inv.hok.fresh (Nat.le_refl _))
    | _ => simp only [Res.bind, Jik, hi] at K
  | [], K => exact Zf K
  | .non :: _, K => exact Zf K
  | .bl _ :: _, K => exact Zf K
  | .str _ :: _, K => exact Zf K
  | .tup _ :: _, K => exact Zf K
  | .rol _ :: _, K => exact Zf K
  | .int _ :: _, K => exact Zf K
  | .ref _ :: _ :: _, K => exact Zf K
end
end L3
namespace L3
open PySem PySem.Spec PyProof.Rows L2
noncomputable def Jr2 : IV -> IH -> Res ItI
 | .str x, h => Ju8 (.str x) h
 | v, h => itOf v h
noncomputable def iAny (e : E1) : I1 := fun σ h => (e σ h).bind Jr2
theorem Jwe {ce : Str -> Option Addr} {X : Cx} {tg l : Expr} {ml : E1} (hl : PEi ce X l ml) : PIi ce X tg l (iAny ml) := by
 intro pins s σ H ι σi h Q E N K
 cases e0 : ml σi h with
 | ok v h' =>
  cases v with
  | str x => exact Jry (tg := tg) hl pins s σ H ι σi h Q E N (by unfold iStr; unfold iAny at K; rw [e0] at K ⊢; exact K)
  | _ => exact Ju5 (tg := tg) hl pins s σ H ι σi h Q E N (by unfold iVal; unfold iAny at K; rw [e0] at K ⊢; exact K)
 | exc n h' => exact Ju5 (tg := tg) hl pins s σ H ι σi h Q E N (by unfold iVal; unfold iAny at K; rw [e0] at K ⊢; exact K)
 | stuck => exact Ju5 (tg := tg) hl pins s σ H ι σi h Q E N (by unfold iVal; unfold iAny at K; rw [e0] at K ⊢; exact K)
end L3
namespace L3
open PySem PySem.Spec PyProof.Rows L2
section
variable {ce : Str -> Option Addr} {X : Cx}
theorem x_sl : SlI ce X slI := by
 intro pins s σ H ι σi h x v vl vu lo hi sl Q E N rx hs pl pu K
 obtain ⟨xv, rx, qx⟩ := rx
 cases x with
 | ref i =>
  obtain ⟨a, e1, ha⟩ := qx
  subst e1
  dsimp only [slI] at K
  cases hi' : h[i]? with
  | none => rw [hi'] at K; exact Zf K
  | some ob =>
   rw [hi'] at K
   cases ob with
   | lst xs =>
    obtain ⟨vs, e1, r1⟩ := N.at hi' ha
    exact Jtz (Juz (X := X.wish E)) N.inv rx hs pl pu ⟨a, vs, rfl, SqL.of e1, fun p hp => finA N K p hp ⟨_, Jk, RVs.new hp (r1.cut lo hi)⟩⟩
   | _ => exact Zf K
 | rol xs =>
  obtain ⟨a, vs, e1, sa, ra⟩ := qx
  subst e1
  exact Jtz (Juz (X := X.wish E)) N.inv rx hs pl pu ⟨a, vs, rfl, sa.sq, fun p hp => finA N K p hp ⟨_, Jk, RVs.new hp (ra.cut lo hi)⟩⟩
 | tup xs =>
  obtain ⟨a, vs, e1, sa, ra⟩ := qx
  subst e1
  dsimp only [slI] at K
  by_cases hw : HT.sIx xs.length 0 lo = 0 /\ HT.sIx xs.length xs.length hi = xs.length
  ·rw [if_pos hw] at K
   exact Zf K
  ·rw [if_neg hw] at K
   exact Jtz (J04 (X := X.wish E)) N.inv rx hs pl pu ⟨a, vs, rfl, sa, by rw [ra.length]; exact hw, fun p hp => finT N K p hp (ra.cut lo hi)⟩
 | _ => exact Zf K
noncomputable def revI : IV -> IH -> Res IV
 | .ref i, h => match h[i]? with
  | some (.lst xs) => .ok (.ref h.length) (h ++ [.lst xs.reverse])
  | _ => .stuck
 | .rol xs, h => .ok (.ref h.length) (h ++ [.lst xs.reverse])
 | _, _ => .stuck
noncomputable def Jl3 : IV -> IH -> Res IV
 | .ref i, h => match h[i]? with
  | some (.lst xs) => .ok (.ref h.length) (h ++ [.lst xs])
  | _ => .stuck
 | .rol xs, h => .ok (.ref h.length) (h ++ [.lst xs])
 | .tup xs, h => .ok (.ref h.length) (h ++ [.lst xs])
 | _, _ => .stuck
theorem J1n : Jkj ce X (.type "list") (on1 Jl3) := Jrv fun pins s σ H ι σi h x xv u Q E N ru qx K => by
 cases x with
 | ref i =>
  obtain ⟨a, e1, ha⟩ := qx
  subst e1
  dsimp only [Jl3] at K
  cases hi : h[i]? with
  | none => rw [hi] at K; exact Zf K
  | some ob =>
   rw [hi] at K
   cases ob with
   | lst xs =>
    obtain ⟨vs, e1, r1⟩ := N.at hi ha
    exact Ja7 (Jft (X := X.wish E)) N.inv (.cons ru .nil) ⟨a, vs, rfl, .inl (SqL.of e1), fun p hp => finA N K p hp ⟨_, Jk, RVs.new hp r1⟩⟩
   | _ => exact Zf K
 | rol xs =>
  obtain ⟨a, vs, e1, sa, ra⟩ := qx
  subst e1
  exact Ja7 (Jft (X := X.wish E)) N.inv (.cons ru .nil) ⟨a, vs, rfl, .inl sa.sq, fun p hp => finA N K p hp ⟨_, Jk, RVs.new hp ra⟩⟩
 | tup xs =>
  obtain ⟨a, vs, e1, sa, ra⟩ := qx
  subst e1
  exact Ja7 (Jft (X := X.wish E)) N.inv (.cons ru .nil) ⟨a, vs, rfl, .inr sa, fun p hp => finA N K p hp ⟨_, Jk, RVs.new hp ra⟩⟩
 | _ => exact Zf K
noncomputable def Jku : IV -> IH -> Res IV
 | .ref i, h => match h[i]? with
  | some (.lst xs) => .ok (.tup xs) h
  | _ => .stuck
 | .tup xs, h => .ok (.tup xs) h
 | _, _ => .stuck
theorem Jyj : Jkj ce X (.type "tuple") (on1 Jku) := Jrv fun pins s σ H ι σi h x xv u Q E N ru qx K => by
 cases x with
 | ref i =>
  obtain ⟨a, e1, ha⟩ := qx
  subst e1
  dsimp only [Jku] at K
  cases hi : h[i]? with
  | none => rw [hi] at K; exact Zf K
  | some ob =>
   rw [hi] at K
   cases ob with
   | lst xs =>
    obtain ⟨vs, e1, r1⟩ := N.at hi ha
    exact Ja7 (Ji1 (X := X.wish E)) N.inv (.cons ru .nil) ⟨a, vs, rfl, .inl ⟨SqL.of e1, fun p hp => finT N K p hp r1⟩⟩
   | _ => exact Zf K
 | tup xs =>
  have qx' := qx
  obtain ⟨a, vs, e1, sa, ra⟩ := qx
  subst e1
  exact Ja7 (Ji1 (X := X.wish E)) N.inv (.cons ru .nil) ⟨a, vs, rfl, .inr ⟨sa, fin0 N K qx'⟩⟩
 | _ => exact Zf K
noncomputable def intI : IV -> IH -> Res IV
 | .int i, h => .ok (.int i) h
 | .bl b, h => .ok (.int (if b then 1 else 0)) h
 | _, _ => .stuck
theorem c_int : Jkj ce X (.type "int") (on1 intI) := Jrv fun pins s σ H ι σi h x xv u Q E N ru qx K => by
 cases x with
 | int i =>
  have e : xv = .int i := qx
  subst e
  exact Ja7 (Jpn (X := X.wish E)) N.inv (.cons ru .nil) (.inl ⟨i, rfl, fin0 N K rfl⟩)
 | bl b =>
  have e : xv = .bl b := qx
  subst e
  exact Ja7 (Jpn (X := X.wish E)) N.inv (.cons ru .nil) (.inr ⟨b, rfl, fin0 N K rfl⟩)
 | _ => exact Zf K
noncomputable def strI : IV -> IH -> Res IV
 | .int i, h => if i.natAbs.log2 < 1920 then .ok (.str (toString i)) h else .stuck
 | _, _ => .stuck
noncomputable def Jnp : List IV -> Option (List Bool)
 | [] => some []
 | .bl b :: r => (Jnp r).map (b :: ·)
 | _ :: _ => none
noncomputable def allI : IV -> IH -> Res IV
 | .ref i, h => match h[i]? with
  | some (.lst xs) => (match Jnp xs with
   | some bs => .ok (.bl (bs.all id)) h
   | none => .stuck)
  | _ => .stuck
 | _, _ => .stuck
noncomputable def anyI : IV -> IH -> Res IV
 | .ref i, h => match h[i]? with
  | some (.lst xs) => (match Jnp xs with
   | some bs => .ok (.bl (bs.any id)) h
   | none => .stuck)
  | _ => .stuck
 | _, _ => .stuck
theorem Jre {K : W.Frag} {ι : List Addr} {H : Hp} : ∀ {xs : List IV} {bs : List Bool} {vs : List V} {us : List Value}, Jnp xs = some bs -> RVs K ι H xs vs -> Vals vs us -> us = bs.map Value.bool
 | [], bs, vs, us, e, q, r => by
  cases e
  have e1 : vs = [] := q
  subst e1
  cases r
  rfl
 | x :: xs, bs, vs, us, e, q, r => by
  obtain ⟨v, vr, e1, q1, q2⟩ := q
  subst e1
  cases r with
  | cons r1 r2 =>
   cases x with
   | bl b =>
    obtain ⟨b2, e2, rfl⟩ := Option.map_eq_some_iff.mp (show (Jnp xs).map (b :: ·) = some bs from e)
    cases (show v = .bl b from q1)
    cases r1
    rw [Jre e2 q2 r2]
    rfl
   | _ => cases e
theorem Jtj (bs : List Bool) : ((List.range bs.length).all fun i => bs.getD i true) = bs.all id := by
 induction bs with
 | nil => rfl
 | cons b r ih =>
  rw [List.length_cons, List.range_succ_eq_map, List.all_cons, List.all_map, List.all_cons]
  have e : ((List.range r.length).all ((fun i => (b :: r).getD i true) ∘ Nat.succ)) = (List.range r.length).all fun i => r.getD i true := by
   congr 1
  rw [e, ih]
  rfl
theorem c_all (hh : X.A.handled = none) : Jkj ce X (.builtin "all") (on1 allI) := Jrv fun pins s σ H ι σi h x xv u Q E N ru qx K => by
 cases x with
 | ref i =>
  obtain ⟨a, e1, ha⟩ := qx
  subst e1
  cases ru
  dsimp only [allI] at K
  cases hi : h[i]? with
  | none => rw [hi] at K; exact Zf K
  | some ob =>
   rw [hi] at K
   cases ob with
   | lst xs =>
    dsimp only at K
    cases hb : Jnp xs with
    | none => rw [hb] at K; exact Zf K
    | some bs =>
     rw [hb] at K
     obtain ⟨vs, e1, r1⟩ := N.at hi ha
     obtain ⟨its, rv, pl, hz⟩ := N.inv.list (SqL.of e1)
     have eu := Jre hb r1 rv
     subst eu
     refine call_all_walk (wpAny_pyIter_list pl.isList ?_)
     have hlt : a < s.heap.objs.size := by obtain ⟨o, _, ho, _⟩ := pl; exact Heap.lt_size ho
     have ne : a ≠ s.heap.objs.size := Nat.ne_of_lt hlt
     refine ⟨s.heap.objs.size, _, _, _, _, _, fun i => bs.getD i true, rfl, Walks.list (prog := X.prog) (w := X.w) (A := X.A.in1) hh s.heap.objs.size a ne (bs.map Value.bool).toArray, ⟨⟨_, Heap.get?_push_size _ rfl, rfl, rfl⟩, ?_⟩, ?_, fun h' tk kk => ?_⟩
     ·obtain ⟨o, n, ho, hc, _, hd⟩ := pl
      exact ⟨o, Heap.get?_push_of_some _ ho, hc, n, hd⟩
     ·intro i v s' Q' E' hP hq
      simp only [List.getElem?_toArray, List.getElem?_map] at hP
      obtain ⟨b, hb', rfl⟩ := Option.map_eq_some_iff.mp hP
      refine wpAny_truthy_bool ?_
      have : bs.getD i true = b := by simp [List.getD, hb']
      rw [<- this]
      exact hq
     ·rw [show (bs.map Value.bool).toArray.size = bs.length by simp, Jtj]
      have I1 : Inv X pins σ H { s with heap := s.heap.push { cls := .type "list_iterator", data := .fields #[.ref a, .int 0 0] } } := N.inv.kept (t' := s.toks) fun b o e => Heap.get?_push_of_some _ e
      have f := N.inv.fpOk (Nat.le_refl _) (N.inv.hok.fresh (Nat.le_refl _))
      exact fin0 N K rfl _ _ (I1.turned (t' := tk) (it := s.heap.objs.size) (fun b o hb e => kk b o (by simpa using hb) e) f.1 f.2.1 f.2.2.2.1 f.2.2.2.2.1 f.2.2.2.2.2) rfl
   | _ => exact Zf K
 | _ => exact Zf K
noncomputable def MtI (ce : Str -> Option Addr) (X : Cx) (T id : String) (g : IV -> List IV -> IH -> Res IV) : Prop :=
 ∀ (pins : List (Addr × Obj)) (s : Shared) (σ : L2.St) (H : Hp) (ι : List Addr) (σi : ISt) (h : IH) (x : IV) (xs : List IV) (v : Value) (us : List Value) (Q : Value -> Shared -> Prop) (E : Value -> Shared -> Prop), Now ce X pins ι σi h σ H s -> RU X.K ι H x v -> RUs X.K ι H xs us ->
  Kont ce X RU pins ι σi σ H (g x xs h) Q E -> wpAny (model X.prog X.w) X.A (call (.builtin id) (v :: us)) Q E s
noncomputable def tyOk (T : String) : IV -> IH -> Bool
 | .str _, _ => T == "str"
 | .int _, _ => T == "int"
 | .ref i, h => match h[i]? with
  | some (.lst _) => T == "list"
  | some (.dct _) => T == "dict"
  | _ => false
 | .rol _, _ => T == "list"
 | _, _ => false
noncomputable def eBm (T : String) (g : IV -> List IV -> IH -> Res IV) (o : E1) (a : A1) : E1 := fun σ h => (o σ h).bind fun x h1 => if tyOk T x h1 = true then (a σ h1).bind fun xs h2 => g x xs h2 else .stuck
theorem Jxk {pins : List (Addr × Obj)} {s : Shared} {σ : L2.St} {H : Hp} {ι : List Addr} {σi : ISt} {h : IH} {x : IV} {xv : V} {T : String} (N : Now ce X pins ι σi h σ H s) (q : RV X.K ι H x xv) (e : tyOk T x h = true) : tyV X.K T xv H := by
 cases x with
 | str y => cases (show xv = .str y from q); exact beq_iff_eq.mp e
 | int y => cases (show xv = .int y from q); exact beq_iff_eq.mp e
 | rol y =>
  obtain ⟨a, vs, rfl, sa, _⟩ := q
  exact .inl ⟨beq_iff_eq.mp e, vs, sa.sq⟩
 | ref i =>
  obtain ⟨a, rfl, ha⟩ := q
  cases hi : h[i]? with
  | none => simp [tyOk, hi] at e
  | some ob =>
   cases ob with
   | lst xs =>
    simp only [tyOk, hi] at e
    obtain ⟨vs, e1, _⟩ := N.at hi ha
    exact .inl ⟨beq_iff_eq.mp e, vs, SqL.of e1⟩
   | dct kvs =>
    simp only [tyOk, hi] at e
    obtain ⟨vs, e1, _⟩ := N.at hi ha
    exact .inr (.inr (.inl ⟨beq_iff_eq.mp e, .inl ⟨vs, e1⟩⟩))
   | _ => simp [tyOk, hi] at e
 | _ => simp [tyOk] at e
variable {o a : Expr} {es : List Expr} {mo : E1} {ma : A1} {name : Str} {apos cpos : Pos} {T id : String} {g : IV -> List IV -> IH -> Res IV}
theorem i_bm (pa : PlainAttrs T) (slot : Slot T name id) (hty : typeOf (.builtin id) = pure (.type "method_descriptor")) (hm : MtI ce X T id g) (ho : PEi ce X o mo) (ha : PAi ce X (a :: es) ma)
  (hbase : attributeBase o name X.env (eval o X.env) = eval o X.env := by rfl)
  (hfew : ((backTo cpos (starEach (a :: es) X.env)).all (fun x => !x.1) && (backToKw cpos (keywordEach [] X.env)).all (fun x => x.1.isSome)
   && decide ((a :: es).length + ([] : List Keyword).length + (if ([] : List Keyword).isEmpty then 0 else 1) < 30)) = true := by rfl)
  (hline : (apos.endLine == cpos.line) = true := by rfl) (hs : starEach (a :: es) X.env = (false, eval a X.env) :: starEach es X.env := by rfl) (hplain : (backTo cpos (starEach es X.env)).any (·.1) = false := by rfl) :
  PEi ce X (.Call (.Attribute o name apos) (a :: es) [] cpos) (eBm T g mo ma) := by
 intro pins s σ H ι σi h Q E N K
 refine wpAny_Call_method_late hbase hfew hline rfl (ho.run N K fun x h1 v s1 H1 ι1 N1 n1 r1 K1 => ?_)
 by_cases hty1 : tyOk T x h1 = true
 ·rw [if_pos hty1] at K1
  obtain ⟨xv, rx, qx⟩ := r1
  obtain ⟨h1', h2'⟩ := Jxm N1.inv rx (Jxk N1 qx hty1)
  refine ⟨T, id, pa, slot, hty, h1', h2', ?_⟩
  have hA := (ha cpos).run (Q1 := fun us s2 => wpAny (model X.prog X.w) X.A (call (.builtin id) (v :: us)) Q E s2) N1 K1 fun xs h2 us s2 H2 ι2 N2 n2 r2 K2 => hm pins s2 σ H2 ι2 σi h2 x xs v us Q E N2 ⟨xv, rx, RV.mono n2 _ _ qx⟩ r2 K2
  rw [hs] at hA ⊢
  exact Calls.callWith_builtin (by show (false || (backTo cpos (starEach es X.env)).any (·.1)) = false; rw [hplain] <;> rfl) (Calls.evalArgs_plain hA)
 ·rw [if_neg hty1] at K1
  exact Zf K1
theorem i_bm0 (pa : PlainAttrs T) (slot : Slot T name id) (hty : typeOf (.builtin id) = pure (.type "method_descriptor")) (hm : MtI ce X T id g) (ho : PEi ce X o mo)
  (hbase : attributeBase o name X.env (eval o X.env) = eval o X.env := by rfl) (hline : (apos.endLine == cpos.line) = true := by rfl) : PEi ce X (.Call (.Attribute o name apos) [] [] cpos) (eBm T g mo aNil) := by
 intro pins s σ H ι σi h Q E N K
 refine wpAny_Call_method0_late hbase hline (ho.run N K fun x h1 v s1 H1 ι1 N1 n1 r1 K1 => ?_)
 by_cases hty1 : tyOk T x h1 = true
 ·rw [if_pos hty1] at K1
  obtain ⟨xv, rx, qx⟩ := r1
  obtain ⟨h1', h2'⟩ := Jxm N1.inv rx (Jxk N1 qx hty1)
  exact ⟨T, id, pa, slot, hty, h1', h2', Calls.callWith_builtin rfl (PySem.evalArgs_none (hm pins s1 σ H1 ι1 σi h1 x [] v [] Q E N1 ⟨xv, rx, qx⟩ .nil K1))⟩
 ·rw [if_neg hty1] at K1
  exact Zf K1
theorem Jxn {pins : List (Addr × Obj)} {s : Shared} {σ : L2.St} {H : Hp} {Q : Value -> Shared -> Prop} {E : Value -> Shared -> Prop} {r : V -> List V -> Hp -> VK -> Prop} {x : V} {xs : List V} {v : Value} {us : List Value} (p : MtM (X.wish E) id r) (I : Inv X pins σ H s) (rx : RelV x v) (rs : Vals xs us)
  (k : r x xs H fun z H' => ∀ u s', Inv X pins σ H' s' -> RelV z u -> Q u s') : wpAny (model X.prog X.w) X.A (call (.builtin id) (v :: us)) Q E s :=
 wpAny_mono (p pins s σ H x xs v us _ (I.wish E) rx rs k) (fun u s' ⟨_, _, I', r, q⟩ => q u s' I'.unwish r) fun _ _ z => z
theorem finW {pins : List (Addr × Obj)} {s : Shared} {σ : L2.St} {H : Hp} {ι : List Addr} {σi : ISt} {h : IH} {i : Nat} {b : Addr} {ys : List IV} {vs ws : List V} {v : IV} {w : V} {Q : Value -> Shared -> Prop} {E : Value -> Shared -> Prop} (N : Now ce X pins ι σi h σ H s) (K : Kont ce X RU pins ι σi σ H (.ok v (h.set i (.lst ys))) Q E)
  (hb : ι[i]? = some b) (eH : H b = some (.lst vs)) (r : RVs X.K ι H ys ws) (q : RV X.K ι H v w) : ∀ u s', Inv X pins σ (upd H b (.lst ws)) s' -> RelV w u -> Q u s' := fun u s' I ru => by
 have n : Nxt ι H ι (upd H b (.lst ws)) := ⟨⟨[], by simp⟩, Ext.upd_mut eH (by rw [eH]; exact True.intro)⟩
 obtain ⟨R, _⟩ := N.rel.write (o := .lst ws) (io := .lst ys) hb eH (by rw [eH]; exact True.intro) ⟨_, Jk, RVs.mono n _ _ r⟩
 exact K u s' _ ι ⟨I, R, N.st.mono n⟩ n ⟨w, ru, RV.mono n _ _ q⟩
noncomputable def Ji8 : IV -> List IV -> IH -> Res IV
 | .ref i, [y], h => match h[i]? with
  | some (.lst xs) => if xs.length < sizeLine then .ok .non (h.set i (.lst (xs ++ [y]))) else .stuck
  | _ => .stuck
 | _, _, _ => .stuck
theorem Jwu : MtI ce X "list" "list.append" Ji8 := by
 intro pins s σ H ι σi h x xs v us Q E N rx rs K
 obtain ⟨xv, rx, qx⟩ := rx
 obtain ⟨vs, rv, qs⟩ := rs
 cases x with
 | ref i =>
  match xs, K with
  | [y], K =>
   obtain ⟨a, rfl, ha⟩ := qx
   obtain ⟨w, rfl, qw⟩ := qs.one_of
   dsimp only [Ji8] at K
   cases hi : h[i]? with
   | none => rw [hi] at K; exact Zf K
   | some ob =>
    rw [hi] at K
    cases ob with
    | lst zs =>
     dsimp only at K
     split at K
     ·rename_i hz
      obtain ⟨ws, e1, r1⟩ := N.at hi ha
      exact Jxn (Jnc (X := X.wish E)) N.inv rx rv ⟨a, ws, w, rfl, rfl, e1, by rw [r1.length]; exact hz, finW N K ha e1 (r1.append (RVs.one qw)) rfl⟩
     ·exact Zf K
    | _ => exact Zf K
  | [], K => exact Zf K
  | _ :: _ :: _, K => exact Zf K
 | _ => cases xs <;> exact Zf K
noncomputable def setI : IV -> IV -> IV -> ISt -> IH -> SRes
 | .ref i, .int k, v, σ, h => match h[i]? with
  | some (.lst xs) => (match ixN xs.length k with
   | some j => .next σ (h.set i (.lst (xs.set j v)))
   | none => .stuck)
  | _ => .stuck
 | _, _, _, _, _ => .stuck
noncomputable def gSb (o i : E1) : G1 := fun v σ h => rS σ (o σ h) fun ov h1 => rS σ (i σ h1) fun iv h2 => setI ov iv v σ h2
end
end L3
namespace L3
open PySem PySem.Spec PyProof.Rows L2
section
variable {ce : Str -> Option Addr} {X : Cx}
noncomputable def keyI : IV -> Option Key
 | .int i => some (.inl i)
 | .str x => some (.inr x)
 | _ => none
noncomputable def eDct1 (mk mv : E1) : E1 := fun σ h => (mk σ (h ++ [.dct []])).bind fun x h1 => (mv σ h1).bind fun y h2 =>
 match keyI x, h2[h.length]? with
 | some k, some (.dct []) => .ok (.ref h.length) (h2.set h.length (.dct [(k, y)]))
 | _, _ => .stuck
theorem Jvo {K : W.Frag} {ι : List Addr} {H : Hp} {x : IV} {v : V} {k : Key} (e : keyI x = some k) (r : RV K ι H x v) : v = kV k := by
 cases x with
 | int i => cases e; exact r
 | str y => cases e; exact r
 | _ => cases e
noncomputable def maxI : IV -> IV -> IH -> Res IV
 | .int i, .int j, h => .ok (.int (if j > i then j else i)) h
 | _, _, _ => .stuck
noncomputable def minI : IV -> IV -> IH -> Res IV
 | .int i, .int j, h => .ok (.int (if j < i then j else i)) h
 | _, _, _ => .stuck
theorem c_max (hc : X.calm = true) : Jkj ce X (.builtin "max") (on2 maxI) := by
 intro pins s σ H ι σi h xs us Q E N r K
 obtain ⟨vs, rv, q⟩ := r
 match xs, K with
 | [x, y], K =>
  obtain ⟨v, w, rfl, qx, qy⟩ := q.two_of
  cases x with
  | int i =>
   cases y with
   | int j =>
    cases (show v = .int i from qx)
    cases (show w = .int j from qy)
    exact Ja7 (Jsy (X := X.wish E) hc) N.inv rv ⟨i, j, rfl, fin0 N K rfl⟩
   | _ => exact Zf K
  | _ => cases y <;> exact Zf K
 | [], K => exact Zf K
 | [_], K => exact Zf K
 | _ :: _ :: _ :: _, K => exact Zf K
theorem c_min (hc : X.calm = true) : Jkj ce X (.builtin "min") (on2 minI) := by
 intro pins s σ H ι σi h xs us Q E N r K
 obtain ⟨vs, rv, q⟩ := r
 match xs, K with
 | [x, y], K =>
  obtain ⟨v, w, rfl, qx, qy⟩ := q.two_of
  cases x with
  | int i =>
   cases y with
   | int j =>
    cases (show v = .int i from qx)
    cases (show w = .int j from qy)
    exact Ja7 (Jug (X := X.wish E) hc) N.inv rv ⟨i, j, rfl, fin0 N K rfl⟩
   | _ => exact Zf K
  | _ => cases y <;> exact Zf K
 | [], K => exact Zf K
 | [_], K => exact Zf K
 | _ :: _ :: _ :: _, K => exact Zf K
noncomputable def Jk5 : List IV -> Option (List Str)
 | [] => some []
 | .str x :: r => (Jk5 r).map (x :: ·)
 | _ => none
theorem Jsw {K : W.Frag} {ι : List Addr} {H : Hp} : ∀ {xs : List IV} {zs : List Str} {vs : List V} {us : List Value}, Jk5 xs = some zs -> RVs K ι H xs vs -> Vals vs us -> ∃ l : List (Str × Tok), us = strValues l /\ l.map (·.1) = zs
 | [], zs, vs, us, e, q, r => by
  cases e
  have e1 : vs = [] := q
  subst e1
  cases r
  exact ⟨[], rfl, rfl⟩
 | x :: xs, zs, vs, us, e, q, r => by
  obtain ⟨v, vr, e1, q1, q2⟩ := q
  subst e1
  cases r with
  | cons r1 r2 =>
   cases x with
   | str y =>
    obtain ⟨z2, e2, rfl⟩ := Option.map_eq_some_iff.mp (show (Jk5 xs).map (y :: ·) = some zs from e)
    cases (show v = .str y from q1)
    obtain ⟨t, rfl⟩ := r1
    obtain ⟨l, rfl, hl⟩ := Jsw e2 q2 r2
    exact ⟨(y, t) :: l, rfl, by rw [List.map_cons, hl]⟩
   | _ => cases e
end
end L3
namespace L3
open PySem PySem.Spec PyProof.Rows L2
noncomputable def Jha : List IV -> Option (List Int)
 | [] => some []
 | .int i :: r => (Jha r).map (i :: ·)
 | _ => none
theorem Jpt {K : W.Frag} {ι : List Addr} {H : Hp} : ∀ {xs : List IV} {ns : List Int} {vs : List V} {us : List Value}, Jha xs = some ns -> RVs K ι H xs vs -> Vals vs us -> IntsAre us ns
 | [], ns, vs, us, e, q, r => by
  cases e
  have e1 : vs = [] := q
  subst e1
  cases r
  exact .nil
 | x :: xs, ns, vs, us, e, q, r => by
  obtain ⟨v, vr, e1, q1, q2⟩ := q
  subst e1
  cases r with
  | cons r1 r2 =>
   cases x with
   | int i =>
    obtain ⟨n2, e2, rfl⟩ := Option.map_eq_some_iff.mp (show (Jha xs).map (i :: ·) = some ns from e)
    cases (show v = .int i from q1)
    obtain ⟨t, rfl⟩ := r1
    exact .cons i t (Jpt e2 q2 r2)
   | _ => cases e
theorem Jkh : ∀ {us : List Value} {ns : List Int}, IntsAre us ns -> us.length = ns.length
 | _, _, .nil => rfl
 | _, _, .cons _ _ r => by simp [Jkh r]
section
variable {ce : Str -> Option Addr} {X : Cx}
noncomputable def sumI : IV -> IH -> Res IV
 | .ref i, h => match h[i]? with
  | some (.lst xs) => (match Jha xs with
   | some ns => .ok (.int ns.sum) h
   | none => .stuck)
  | _ => .stuck
 | _, _ => .stuck
theorem c_sum (hh : X.A.handled = none) : Jkj ce X (.builtin "sum") (on1 sumI) := Jrv fun pins s σ H ι σi h x xv u Q E N ru qx K => by
 cases x with
 | ref i =>
  obtain ⟨a, e1, ha⟩ := qx
  subst e1
  cases ru
  dsimp only [sumI] at K
  cases hi : h[i]? with
  | none => rw [hi] at K; exact Zf K
  | some ob =>
   rw [hi] at K
   cases ob with
   | lst xs =>
    dsimp only at K
    cases hb : Jha xs with
    | none => rw [hb] at K; exact Zf K
    | some ns =>
     rw [hb] at K
     obtain ⟨vs, e1, r1⟩ := N.at hi ha
     obtain ⟨its, rv, pl, hz⟩ := N.inv.list (SqL.of e1)
     have are := Jpt hb r1 rv
     obtain ⟨ys, hy⟩ := are.allInts.items
     have pl' : s.heap.IsList a (intItems ys) := hy ▸ pl.isList
     refine sum_intListG hh pl' fun h2 tk t2 kk => ?_
     have en : ns = ys.toList.map (·.1) := by
      have q1 := are.numsOf
      have q2 := congrArg (fun z : Array Value => numsOf z.toList) hy
      simp only at q2
      rw [<- q1]
      exact q2.trans (nums_intItems ys)
     have es : preSum (numAt ys) ys.size = ns.sum := by
      rw [preSum_eq, en, List.take_of_length_le (by simp)]
     rw [es]
     exact fin0 N K rfl _ _ (N.inv.kept (t' := tk) kk) ⟨_, rfl⟩
   | _ => exact Zf K
 | _ => exact Zf K
end
end L3
namespace L3
open PySem PySem.Spec PyProof.Rows L2
noncomputable def Jgk (f : Nat -> Int) : Nat -> Int
 | 0 => 0
 | 1 => f 0
 | j + 2 => if f (j + 1) > Jgk f (j + 1) then f (j + 1) else Jgk f (j + 1)
theorem Jso (f : Nat -> Int) {j : Nat} (hj : 0 < j) : Jgk f (j + 1) = if f j > Jgk f j then f j else Jgk f j := by
 cases j with
 | zero => omega
 | succ j => rfl
section
variable {pr : Program} {wd : World} {B : Around} {R : Result -> Shared -> Prop} {it : Addr} {fps wrs : List Addr} {n : Nat} {P : Nat -> Value -> Prop} {St : Nat -> Heap -> Prop}
noncomputable abbrev J0y (v : Value) (c : Nat) : Obj := { cls := .type "list", dict := none, data := .seq #[v, v] c, slots := #[] }
theorem Jlz : (toString "max" ++ toString ".loop" : String) = "max.loop" := by decide
theorem Jys {kw : List (Str × Value)} (W : Walks pr wd B.in1 it fps wrs n P St) (f : Nat -> Int) (hf : ∀ i v, P i v -> ∃ t, v = .int (f i) t) (C : Addr) (hC : C ∉ fps) :
  ∀ (r j : Nat) (z : Shared) (v : Value) (u : Tok) (c : Nat), n - j = r -> 0 < j -> j <= n -> St j z.heap -> v = .int (Jgk f j) u -> z.heap.get? C = some (J0y v c) ->
   (∀ u h2 tk, (∀ a o, a ∉ wrs -> a ≠ C -> z.heap.get? a = some o -> h2.get? a = some o) -> R (.ok (.ret (.int (Jgk f n) u))) { z with heap := h2, toks := tk }) ->
   codeAny (model pr wd) B (.builtin "max.loop" ⟨[.ref it, .none, .ref C], kw⟩) R z := by
 have hw : C ∉ wrs := fun q => hC (W.sub _ q)
 intro r
 induction r with
 | zero =>
  intro j z v u c hr h0 hj st ev gC fin
  obtain rfl : j = n := by omega
  subst ev
  refine codeAny_builtin PySem.F.entry_max_loop ?_
  rw [Around.under_plainId PySem.F.plain_max_loop _]
  show wpAny _ B.in1 (seqItems? (.ref C) >>= _) _ _ z
  refine wpAny_bind (wpAny_seqItems gC rfl ?_)
  show wpAny _ B.in1 (tryCatch (pyNext (.ref it)) _ >>= _) _ _ z
  refine wpAny_bind (wpAny_tryCatch (W.done z _ _ st fun h2 tk keep => ?_))
  have gC2 := keep C _ hw gC
  show wpAny _ B.in1 (updateSeq C (fun _ => #[]) >>= _) _ _ _
  refine wpAny_bind ?_
  refine wpAny_updateSeq gC2 rfl (wpAny_bind (wpAny_letGo (wpAny_pure ?_)))
  exact fin u _ tk fun a o ha hb e => (Heap.get?_update_other _ _ (Ne.symm hb)).trans (keep a o ha e)
 | succ r ih =>
  intro j z v u c hr h0 hj st ev gC fin
  have lt : j < n := by omega
  subst ev
  refine codeAny_builtin PySem.F.entry_max_loop ?_
  rw [Around.under_plainId PySem.F.plain_max_loop _]
  show wpAny _ B.in1 (seqItems? (.ref C) >>= _) _ _ z
  refine wpAny_bind (wpAny_seqItems gC rfl ?_)
  show wpAny _ B.in1 (tryCatch (pyNext (.ref it)) _ >>= _) _ _ z
  refine wpAny_bind (wpAny_tryCatch (W.item j z _ _ lt st fun y h2 tk hP st2 keep => ?_))
  obtain ⟨t, rfl⟩ := hf j y hP
  have gC2 := keep C _ hw gC
  have cmp := CmpOf.ints_gt (prog := pr) (w := wd) (A := B.in1) (P := fun i v => ∃ t, v = .int (if i = 0 then f j else Jgk f j) t) (fun i => if i = 0 then f j else Jgk f j) (fun _ _ q => q)
  show wpAny _ B.in1 (tryCatch (holding [Value.int (f j) t, Value.int (f j) t] (richCompare .Gt (.int (f j) t) (.int (Jgk f j) u) >>= _)) _ >>= _) _ _ _
  refine wpAny_bind (wpAny_tryCatch (wpAny_holding (wpAny_bind (cmp 0 1 _ _ _ _ _ ⟨t, by simp⟩ ⟨u, by simp⟩ ?_))))
  refine wpAny_bind (wpAny_holding (wpAny_truthy_bool ?_))
  refine wpAny_bind (wpAny_letGo (wpAny_pure ?_))
  have step := Jso f h0
  by_cases hb : f j > Jgk f j
  ·rw [if_pos hb] at step
   simp only [if_true, show ¬ (1 : Nat) = 0 by decide, if_false, decide_eq_true hb]
   refine wpAny_bind ?_
   refine wpAny_updateSeq gC2 rfl (wpAny_bind (wpAny_letGo ?_))
   rw [Jlz]
   refine wpAny_pure ⟨plainId_quiet PySem.F.plain_max_loop _, ih (j + 1) _ (.int (f j) t) t _ (by omega) (by omega) lt (W.frame _ _ _ st2 fun a ha o e => ?_) (by rw [step]) (Heap.get?_update_self _ gC2 rfl) fun u2 h3 tk3 k3 => ?_⟩
   ·exact (Heap.get?_update_other _ _ (fun q : C = a => hC (by rw [q]; exact ha))).trans e
   ·exact fin u2 h3 tk3 fun a o ha hc e => k3 a o ha hc ((Heap.get?_update_other _ _ (Ne.symm hc)).trans (keep a o ha e))
  ·rw [if_neg hb] at step
   simp only [if_true, show ¬ (1 : Nat) = 0 by decide, if_false, decide_eq_false hb, Bool.false_eq_true]
   refine wpAny_bind (wpAny_letGo ?_)
   rw [Jlz]
   refine wpAny_pure ⟨plainId_quiet PySem.F.plain_max_loop _, ih (j + 1) _ (.int (Jgk f j) u) u c (by omega) (by omega) lt st2 (by rw [step]) gC2 fun u2 h3 tk3 k3 => ?_⟩
   exact fin u2 h3 tk3 fun a o ha hc e => k3 a o ha hc (keep a o ha e)
end
end L3
namespace L3
open PySem PySem.Spec PyProof.Rows L2
theorem Ju4 (a v : Value) : argsOk "max" ⟨[a], [(Str.ofString "default", v)]⟩ := by unfold argsOk; kernel_rfl
section
variable {pr : Program} {wd : World} {B : Around} {E : Value -> Shared -> Prop} {z : Shared} {l : Addr} {us : List Value} {ns : List Int} {d : Value} {Q : Value -> Shared -> Prop}
noncomputable def MaxIs (ns : List Int) (d v : Value) : Prop := (ns = [] /\ v = d) ∨ (ns ≠ [] /\ ∃ u, v = .int (Jgk (fun i => ns.getD i 0) ns.length) u)
theorem Jyh (hh : B.handled = none) (hl : z.heap.IsList l us.toArray) (hi : IntsAre us ns)
  (hQ : ∀ v h2 tk, MaxIs ns d v -> (∀ b o, z.heap.get? b = some o -> h2.get? b = some o) -> Q v { z with heap := h2, toks := tk }) :
  wpAny (model pr wd) B (call (.builtin "max") [.ref l] [(Str.ofString "default", d)]) Q E z := by
 obtain ⟨ol, hol, _⟩ := id hl
 have lt : l < z.heap.objs.size := Heap.lt_size hol
 have ll := Jkh hi
 refine kmk_tree PySem.F.kind_max PySem.F.plain_max PySem.F.entry_max (Ju4 _ _) ?_
 show wpAny _ B.in1 (Builtin.Builtins.bindParams "max" ["key", "default"] 0 ⟨[], [(Str.ofString "default", d)]⟩ >>= _) _ _ z
 refine wpAny_bind (wpAny_of_eq (show Builtin.Builtins.bindParams "max" ["key", "default"] 0 ⟨[], [(Str.ofString "default", d)]⟩ = pure [none, some d] from rfl) ?_)
 refine wpAny_bind (wpAny_pure ?_)
 refine wpAny_bind (wpAny_pyIter_list hl ?_)
 refine wpAny_bind (wpAny_newList ?_ (Nat.zero_le _))
 rw [Jlz]
 have ne : l ≠ z.heap.objs.size := Nat.ne_of_lt lt
 have W := Walks.list (prog := pr) (w := wd) (A := B.in1) hh z.heap.objs.size l ne us.toArray
 have sz : us.toArray.size = us.length := List.size_toArray ..
 have hS : (z.heap.push { cls := .type "list_iterator", data := .fields #[.ref l, .int 0 0] }).objs.size = z.heap.objs.size + 1 := size_push' ..
 have hC : (z.heap.push { cls := .type "list_iterator", data := .fields #[.ref l, .int 0 0] }).objs.size ∉ [z.heap.objs.size, l] := by
  rw [hS]
  simp only [List.mem_cons, List.not_mem_nil, or_false, not_or]
  exact ⟨Nat.ne_of_gt (Nat.lt_succ_self _), Nat.ne_of_gt (Nat.lt_succ_of_lt lt)⟩
 have hw : (z.heap.push { cls := .type "list_iterator", data := .fields #[.ref l, .int 0 0] }).objs.size ∉ [z.heap.objs.size] := by
  rw [hS]
  simp only [List.mem_cons, List.not_mem_nil, or_false]
  exact Nat.ne_of_gt (Nat.lt_succ_self _)
 have old : ∀ b o, z.heap.get? b = some o -> ((z.heap.push { cls := .type "list_iterator", data := .fields #[.ref l, .int 0 0] }).push (seqObj "list" #[] 0)).get? b = some o := fun b o e => Heap.get?_push_of_some _ (Heap.get?_push_of_some _ e)
 have gI : ((z.heap.push { cls := .type "list_iterator", data := .fields #[.ref l, .int 0 0] }).push (seqObj "list" #[] 0)).get? z.heap.objs.size = some { cls := .type "list_iterator", data := .fields #[.ref l, .int 0 0] } := Heap.get?_push_of_some _ (Heap.get?_push_size _ rfl)
 have gC : ((z.heap.push { cls := .type "list_iterator", data := .fields #[.ref l, .int 0 0] }).push (seqObj "list" #[] 0)).get? (z.heap.push { cls := .type "list_iterator", data := .fields #[.ref l, .int 0 0] }).objs.size = some (seqObj "list" #[] 0) := Heap.get?_push_size _ rfl
 have notin : ∀ b o, z.heap.get? b = some o -> b ∉ [z.heap.objs.size] := fun b o e q => Nat.ne_of_lt (Heap.lt_size e) (List.mem_singleton.mp q)
 have notC : ∀ b o, z.heap.get? b = some o -> b ≠ (z.heap.push { cls := .type "list_iterator", data := .fields #[.ref l, .int 0 0] }).objs.size := fun b o e => by rw [hS]; exact Nat.ne_of_lt (Nat.lt_succ_of_lt (Heap.lt_size e))
 refine wpAny_pure ⟨plainId_quiet PySem.F.plain_max_loop _, codeAny_builtin PySem.F.entry_max_loop ?_⟩
 rw [Around.under_plainId PySem.F.plain_max_loop _]
 show wpAny _ B.in1 (seqItems? (.ref _) >>= _) _ _ _
 refine wpAny_bind (wpAny_seqItems gC rfl ?_)
 show wpAny _ B.in1 (tryCatch (pyNext (.ref z.heap.objs.size)) _ >>= _) _ _ _
 by_cases h0 : us.length = 0
 ·refine wpAny_bind (wpAny_tryCatch (W.done _ _ _ (by rw [sz, h0]; exact ⟨⟨_, gI, rfl, rfl⟩, (hl.push _).push _⟩) fun h2 tk keep => ?_))
  show wpAny _ B.in1 (rule _ >>= _) _ _ _
  refine wpAny_bind (wpAny_rule (wpAny_pure ?_))
  refine hQ d h2 tk (.inl ⟨List.eq_nil_of_length_eq_zero (by omega), rfl⟩) fun b o e => keep b o (notin b o e) (old b o e)
 ·refine wpAny_bind (wpAny_tryCatch (W.item 0 _ _ _ (by rw [sz]; omega) ⟨⟨_, gI, rfl, rfl⟩, (hl.push _).push _⟩ fun y h2 tk hP st2 keep => ?_))
  have gC2 := keep _ _ hw gC
  show wpAny _ B.in1 (updateSeq (z.heap.push { cls := .type "list_iterator", data := .fields #[.ref l, .int 0 0] }).objs.size (fun _ => #[y, y]) >>= _) _ _ _
  refine wpAny_bind ?_
  refine wpAny_updateSeq gC2 rfl ?_
  rw [Jlz]
  have hf : ∀ (i : Nat) (v : Value), us.toArray[i]? = some v -> ∃ t, v = .int ((fun i => ns.getD i 0) i) t := fun i v q => IntsAre.int_at hi i v (by simpa using q)
  obtain ⟨t, rfl⟩ := hf 0 y hP
  refine wpAny_pure ⟨plainId_quiet PySem.F.plain_max_loop _, Jys W (fun i => ns.getD i 0) hf _ hC _ 1 _ _ t _ rfl (by decide) (by rw [sz]; omega) (W.frame _ _ _ st2 fun a ha o e => ?_) rfl (Heap.get?_update_self _ gC2 rfl) fun u h3 tk3 k3 => ?_⟩
  ·exact (Heap.get?_update_other _ _ (fun q => hC (by rw [q]; exact ha))).trans e
  ·rw [sz, ll]
   refine hQ _ h3 tk3 (.inr ⟨fun q => h0 (by rw [ll, q]; rfl), u, rfl⟩) fun b o e => k3 b o (notin b o e) (notC b o e) ((Heap.get?_update_other _ _ (Ne.symm (notC b o e))).trans (keep b o (notin b o e) (old b o e)))
end
section
variable {ce : Str -> Option Addr} {X : Cx}
noncomputable def maxD (ns : List Int) (d : IV) : IV := if ns = [] then d else .int (Jgk (fun i => ns.getD i 0) ns.length)
noncomputable def Jrk (aa : A1) (md : E1) : E1 := fun σ h => (aa σ h).bind fun xs h1 => (md σ h1).bind fun d h2 => match xs with
 | [.ref i] => (match h2[i]? with
  | some (.lst ys) => (match Jha ys with
   | some ns => .ok (maxD ns d) h2
   | none => .stuck)
  | _ => .stuck)
 | _ => .stuck
theorem Jz4 {a de : Expr} {aa : A1} {md : E1} {p pos kp : Pos} (hh : X.A.handled = none) (hg : Gl X "max") (hm : X.mg "max" = none) (ha : PAi ce X [a] aa) (hd : PEi ce X de md) (hs : starEach [a] X.env = [(false, eval a X.env)]) :
  PEi ce X (.Call (.Name "max" p) [a] [⟨some "default", de, kp⟩] pos) (Jrk aa md) := fun pins s σ H ι σi h Q E N K => by
 refine wpAny_Call_Name_kw (Jec N.inv hg hm rfl ?_)
 refine callWith_kw ?_ (by rw [hs]; rfl) (by rw [hs]; rfl) rfl rfl
 refine (ha pos).run N K fun xs h1 us s1 H1 ι1 N1 n1 r1 K1 => ?_
 refine PyProof.Rows.evalAll_cons (wpAny_bind (PX.run hd N1 K1 fun d h2 du s2 H2 ι2 N2 n2 r2 K2 => wpAny_bind (wpAny_standAt (wpAny_pure (PyProof.Rows.evalAll_nil ?_)))))
 obtain ⟨vs, rv, qs⟩ := r1.mono n2
 match xs, K2 with
 | [.ref i], K2 =>
  obtain ⟨w, rfl, ad, rfl, hav⟩ := qs.one_of
  obtain ⟨u, rfl, ru⟩ := Jkk rv
  cases ru
  dsimp only at K2
  cases hi : h2[i]? with
  | none => rw [hi] at K2; exact Zf K2
  | some ob =>
   rw [hi] at K2
   cases ob with
   | lst ys =>
    dsimp only at K2
    cases hb : Jha ys with
    | none => rw [hb] at K2; exact Zf K2
    | some ns =>
     rw [hb] at K2
     dsimp only at K2
     obtain ⟨ws, e1, r3⟩ := N2.at hi hav
     obtain ⟨its, rv2, pl, _⟩ := N2.inv.list (SqL.of e1)
     refine Jyh hh pl.isList (Jpt hb r3 rv2) fun v h3 tk mi kk => ?_
     have N3 : Now ce X pins ι2 σi h2 σ H2 { s2 with heap := h3, toks := tk } := ⟨N2.inv.kept (t' := tk) kk, N2.rel, N2.st⟩
     rcases mi with ⟨e, rfl⟩ | ⟨e, t, rfl⟩
     ·have em : maxD ns d = d := if_pos e
      rw [em] at K2
      exact K2 _ _ _ _ N3 .refl r2
     ·have em : maxD ns d = .int (Jgk (fun i => ns.getD i 0) ns.length) := if_neg e
      rw [em] at K2
      exact K2 _ _ _ _ N3 .refl ⟨.int _, ⟨t, rfl⟩, rfl⟩
   | _ => exact Zf K2
 | [], K2 => exact Zf K2
 | [.non], K2 => exact Zf K2
 | [.bl _], K2 => exact Zf K2
 | [.int _], K2 => exact Zf K2
 | [.str _], K2 => exact Zf K2
 | [.tup _], K2 => exact Zf K2
 | [.rol _], K2 => exact Zf K2
 | x :: _ :: _, K2 => cases x <;> exact Zf K2
end
end L3
namespace L3
open PySem PySem.Spec PyProof.Rows L2
noncomputable def metB (f : Nat -> Str) (i : Nat) (k : Str) : Bool := (List.range i).any fun j => decide (k = f j)
noncomputable def cntD (f : Nat -> Str) : Nat -> Nat
 | 0 => 0
 | i + 1 => if metB f i (f i) then cntD f i else cntD f i + 1
theorem Jtv (f : Nat -> Str) (i : Nat) (k : Str) : metB f (i + 1) k = (metB f i k || decide (k = f i)) := by simp [metB, List.range_succ]
theorem Jqa (f : Nat -> Str) : ∀ i, cntD f i <= i
 | 0 => Nat.le_refl _
 | i + 1 => by
  have := Jqa f i
  unfold cntD
  split <;> omega
section
variable {pr : Program} {wd : World} {B : Around} {R : Result -> Shared -> Prop} {it : Addr} {fps wrs : List Addr} {G : Array GenState -> Array GenState -> Prop} {n : Nat} {P : Nat -> Value -> Prop} {St : Nat -> Shared -> Prop}
noncomputable abbrev Jl2 (pr : Program) (wd : World) (hp : Heap) (a : Addr) (f : Nat -> Str) (i : Nat) : Prop := hp.SetOf (PySem.strKind pr wd) a (fun k => metB f i k) (cntD f i)
theorem Jl2.moved {hp h2 : Heap} {a : Addr} {f : Nat -> Str} {i : Nat} (q : Jl2 pr wd hp a f i) (m : ∀ o, hp.get? a = some o -> h2.get? a = some o) : Jl2 pr wd h2 a f i := by
 obtain ⟨o, es, ep, t, ho, rest⟩ := q
 exact ⟨o, es, ep, t, m o ho, rest⟩
theorem Jvk (W : WalksS pr wd B.in1 it fps wrs G n P St) (C : Addr) (hC : C ∉ fps) (f : Nat -> Str) (hf : ∀ i v, P i v -> ∃ t, v = .str (f i) t) (room : n + 1 < scanBound) :
  ∀ (r i : Nat) (z : Shared), n - i = r -> i <= n -> St i z -> Jl2 pr wd z.heap C f i -> (∀ z2, Moved (C :: wrs) G z z2 -> Jl2 pr wd z2.heap C f n -> R (.ok (.ret .none)) z2) ->
   codeAny (model pr wd) B (.builtin "set.update.loop" ⟨[.ref C, .ref it], []⟩) R z := by
 have nw : C ∉ wrs := fun q => hC (W.sub _ q)
 have more : ∀ b ∈ wrs, b ∈ C :: wrs := fun b q => List.mem_cons_of_mem _ q
 intro r
 induction r with
 | zero =>
  intro i z hr hi st hS fin
  obtain rfl : i = n := by omega
  refine codeAny_builtin PyProof.Rows.F.entry_set_update_loop ?_
  rw [Around.under_plainId PyProof.Rows.F.plain_set_update_loop _]
  show wpAny _ B.in1 (pyNext (.ref it) >>= _) _ _ z
  refine wpAny_bind (W.done z _ _ st fun z2 mv => ?_)
  show wpAny _ B.in1 (ret Value.none) _ _ z2
  exact wpAny_pure (fin z2 (mv.mono more) (hS.moved fun o e => mv.heap C _ nw e))
 | succ r ih =>
  intro i z hr hi st hS fin
  have lt : i < n := by omega
  refine codeAny_builtin PyProof.Rows.F.entry_set_update_loop ?_
  rw [Around.under_plainId PyProof.Rows.F.plain_set_update_loop _]
  show wpAny _ B.in1 (pyNext (.ref it) >>= _) _ _ z
  refine wpAny_bind (W.item i z _ _ lt st fun v z2 hP st2 mv => ?_)
  obtain ⟨t, rfl⟩ := hf i v hP
  have hS2 : Jl2 pr wd z2.heap C f i := hS.moved fun o e => mv.heap C _ nw e
  have ki : (PySem.strKind pr wd).is (f i) (.str (f i) t) = true := strKind_is _ _ _ _
  show wpAny _ B.in1 (holding [Value.str (f i) t] (setAdd C (.str (f i) t)) >>= _) _ _ z2
  refine wpAny_bind (wpAny_holding ?_)
  unfold setAdd
  refine wpAny_holding ?_
  refine wpAny_bind ((PySem.strKind pr wd).pyHash (k := f i) ki ?_)
  have rm : cntD f i + 1 < scanBound := by have := Jqa f i; omega
  refine wpAny_setAddHashed_of (knd := PySem.strKind pr wd) (s := { z2 with toks := z2.toks + 1 }) ki rfl hS2 rm fun h3 sb hS3 => ?_
  have hS4 : Jl2 pr wd h3 C f (i + 1) := SetOf_congr hS3 (fun k => (Jtv f i k).symm) (by show _ = cntD f (i + 1); rfl)
  refine wpAny_pure ⟨plainId_quiet PyProof.Rows.F.plain_set_update_loop _, ih (i + 1) _ (by omega) lt (W.frame _ z2 _ _ st2 (Nat.le_succ _) fun b q o e => ?_) hS4 fun z5 m5 hS5 => ?_⟩
  ·rw [sb.2 b (fun e2 : b = C => hC (by rw [<- e2]; exact q))]; exact e
  ·refine fin z5 (Moved.trans W.gtrans ((mv.mono more).then_heap (Nat.le_succ _) fun b o q e => ?_) m5) hS5
   rw [sb.2 b (fun e2 : b = C => q (by rw [e2]; exact List.mem_cons_self))]; exact e
end
end L3
namespace L3
open PySem PySem.Spec PyProof.Rows L2
section
variable {pr : Program} {wd : World} {B : Around} {E : Value -> Shared -> Prop} {z : Shared} {l : Addr} {us : List Value} {zs : List Str} {Q : Value -> Shared -> Prop}
noncomputable abbrev Jfj (led : Bool) : Obj := { cls := .type "set", dict := none, data := .set #[] 0 (.fresh 0 0 led) }
noncomputable abbrev Jfa (zs : List Str) : Nat -> Str := fun i => zs.getD i Str.empty
set_option maxRecDepth 100000 in
theorem Jv8 {l2 : List (Str × Tok)} (hh : B.handled = none) (hl : z.heap.IsList l us.toArray) (eu : us = strValues l2) (ez : l2.map (·.1) = zs) (room : zs.length + 1 < scanBound)
  (fin : ∀ (h2 : Heap) (tk : Nat), Jl2 pr wd h2 z.heap.objs.size (Jfa zs) zs.length -> (∀ b o, z.heap.get? b = some o -> h2.get? b = some o) -> Q (.ref z.heap.objs.size) { z with heap := h2, toks := tk }) :
  wpAny (model pr wd) B (call (.type "set") [.ref l]) Q E z := by
 have len : us.toArray.size = zs.length := by rw [eu, <- ez]; simp [strValues]
 have vals : ∀ (i : Nat) (v : Value), us.toArray[i]? = some v -> ∃ t, v = .str (Jfa zs i) t := fun i v q => by
  rw [eu] at q
  simp only [strValues, List.getElem?_toArray, List.getElem?_map] at q
  obtain ⟨p, hp, rfl⟩ := Option.map_eq_some_iff.mp q
  refine ⟨p.2, ?_⟩
  rw [<- ez]
  simp [Jfa, List.getD_eq_getElem?_getD, List.getElem?_map, hp]
 obtain ⟨c, tl, hmro⟩ := PySem.F.called_set.mro
 have hmade := PySem.F.called_set.made
 have hsub := PySem.F.called_set.sub
 refine wpAny_call (codeAny_of_tree ?_)
 show wpAny _ _ (callAny (.type "set") _) _ _ _
 refine wpAny_pure ⟨Code.quiet_builtin _ (by decide +kernel), codeAny_builtin PySem.F.entry_type_call ?_⟩
 rw [Around.under_plain (weight_type_call_type "set" [.ref l] []) rfl]
 have no1 := PySem.F.called_set.notType
 have no2 := PySem.F.called_set.canCreate
 have ok1 := PySem.F.typeCall_set_1 (.ref l)
 repeat (any_goals (first | assumption | wp_step))
 refine codeAny_mono (code_set_new_1 (.ref l) (E := E) (Q₁ := fun obj z1 => ∃ led : Bool, obj = .ref z.heap.objs.size /\ z1 = { z with heap := z.heap.push (Jfj led) }) fun led => ⟨led, rfl, rfl⟩) fun res z1 hr => ?_
 cases res with
 | error e => exact hr
 | ok fl =>
  cases fl with
  | ret obj =>
   obtain ⟨led, rfl, rfl⟩ := hr
   have gS : (z.heap.push (Jfj led)).get? z.heap.objs.size = some (Jfj led) := Heap.get?_push_size _ rfl
   have tS : Shared.TypeIs { z with heap := z.heap.push (Jfj led) } (.ref z.heap.objs.size) "set" := ⟨_, gS, rfl⟩
   have in1 := PySem.F.called_set.init.lookup
   have in2 := PySem.F.called_set.init.bind (.ref z.heap.objs.size)
   repeat (any_goals (first | assumption | wp_step))
   refine codeAny_mono (codeAny_call_builtin (R := wants (fun res z2 => res = .none /\ ∃ h2 tk, z2 = { z with heap := h2, toks := tk } /\ Jl2 pr wd h2 z.heap.objs.size (Jfa zs) zs.length /\ (∀ b o, z.heap.get? b = some o -> h2.get? b = some o)) E)
    PySem.F.called_set.init.plain PySem.F.entry_set_init (check_set_init_1 tS ?_)) fun res2 z2 hr2 => ?_
   ·obtain ⟨ol, hol, hcl, nl, hdl⟩ := hl
    obtain ⟨ocls, odict, odata, oslots⟩ := ol
    simp only at hcl hdl
    subst hcl; subst hdl
    have gl : (z.heap.push (Jfj led)).get? l = some { cls := .type "list", dict := odict, data := .seq us.toArray nl, slots := oslots } := Heap.get?_push_of_some _ hol
    have sb1 := PySem.F.sub_list_set
    have sb2 := PySem.F.sub_list_frozenset
    have dne : (Value.type "list" == Value.type "dict") = false := by decide
    have hl1 : (z.heap.push (Jfj led)).IsList l us.toArray := ⟨_, gl, rfl, nl, rfl⟩
    unfold Builtin.«set.__init__» noKeywords Builtin.Frozenset.updateFrom
    generalize hPI : pyIter = PI
    wp_walk
    subst hPI
    refine wpAny_pyIter_list hl1 ?_
    refine wpAny_bind (wpAny_runValue ?_)
    have lS : l < z.heap.objs.size := Heap.lt_size hol
    have h3 : B.in1.in1.in1.handled = none := by simp [hh]
    have neI : l ≠ (z.heap.push (Jfj led)).objs.size := by rw [Heap.size_push]; exact Nat.ne_of_lt (Nat.lt_succ_of_lt lS)
    have nC : z.heap.objs.size ∉ [(z.heap.push (Jfj led)).objs.size, l] := by
     rw [Heap.size_push]
     simp only [List.mem_cons, List.not_mem_nil, or_false, not_or]
     exact ⟨Nat.ne_of_lt (Nat.lt_succ_self _), Nat.ne_of_gt lS⟩
    refine Jvk ((Walks.list h3 _ l neI us.toArray).toS) z.heap.objs.size nC (Jfa zs) vals (by rw [len]; exact room) (us.toArray.size - 0) 0 _ (by omega) (Nat.zero_le _) ⟨⟨_, Heap.get?_push_size _ rfl, rfl, rfl⟩, (hl1.push _)⟩ ?start ?stop
    case start =>
     have g0 : ((z.heap.push (Jfj led)).push { cls := .type "list_iterator", data := .fields #[.ref l, .int 0 0] }).get? z.heap.objs.size = some (Jfj led) := Heap.get?_push_of_some _ gS
     exact SetOf_congr ((setObjOf_fresh (knd := PySem.strKind pr wd) led).setOf g0 (by unfold scanBound; omega)) (fun _ => rfl) rfl
    case stop =>
     intro z5 mv hS5
     obtain ⟨h5, g5, d5, tk5, os5⟩ := z5
     have eg : g5 = z.gens := mv.gens
     have ed : d5 = z.drawn := mv.drawn
     have eo : os5 = z.os := mv.os
     subst eg; subst ed; subst eo
     show wpAny _ _ _ _ _ _
     refine wpAny_pure ?_
     show wpAny _ _ (ret Value.none) _ _ _
     rw [len] at hS5
     refine wpAny_pure ⟨rfl, h5, tk5, rfl, hS5, fun b o e => ?_⟩
     have lb := Heap.lt_size e
     have b1 : b ≠ z.heap.objs.size := Nat.ne_of_lt lb
     have b2 : b ≠ (z.heap.push (Jfj led)).objs.size := by rw [Heap.size_push]; exact Nat.ne_of_lt (Nat.lt_succ_of_lt lb)
     exact mv.heap b o (by simp only [List.mem_cons, List.not_mem_nil, or_false, not_or]; exact ⟨b1, b2⟩) (Heap.get?_push_of_some _ (Heap.get?_push_of_some _ e))
   ·cases res2 with
    | error e => exact hr2
    | ok fl2 =>
     cases fl2 with
     | ret rv =>
      obtain ⟨rfl, h2, tk, rfl, hS2, keep⟩ := hr2
      repeat (any_goals (first | assumption | wp_step))
      exact fin _ _ hS2 keep
     | _ => exact hr2.elim
  | _ => exact hr.elim
end
end L3
namespace L3
open PySem PySem.Spec PyProof.Rows L2
section
variable {ce : Str -> Option Addr} {X : Cx}
noncomputable def Jkn (aa : A1) : E1 := fun σ h => (aa σ h).bind fun xs h1 => match xs with
 | [.ref i] => (match h1[i]? with
  | some (.lst ys) => (match Jk5 ys with
   | some zs => if zs.length + 1 < scanBound then .ok (.int (cntD (Jfa zs) zs.length)) h1 else .stuck
   | none => .stuck)
  | _ => .stuck)
 | _ => .stuck
theorem Jvu {a : Expr} {aa : A1} {p pos p2 pos2 : Pos} (hh : X.A.handled = none) (g1 : Gl X "len") (m1 : X.mg "len" = none) (g2 : Gl X "set") (m2 : X.mg "set" = none) (ha : PAi ce X [a] aa) (hs : starEach [a] X.env = [(false, eval a X.env)]) :
  PEi ce X (.Call (.Name "len" p) [.Call (.Name "set" p2) [a] [] pos2] [] pos) (Jkn aa) := fun pins s σ H ι σi h Q E N K => by
 refine wpAny_Call_Name_kw (Jec N.inv g1 m1 rfl ?_)
 refine PyProof.Rows.callWith_builtin1 ?_ rfl rfl
 refine PyProof.Rows.spliced_more ?_
 refine wpAny_Call_Name_kw (Jec N.inv g2 m2 rfl ?_)
 refine PyProof.Rows.callWith_type1 ?_ hs rfl
 refine (ha pos2).run N K fun xs h1 us s1 H1 ι1 N1 n1 r1 K1 => ?_
 obtain ⟨vs, rv, qs⟩ := r1
 match xs, K1 with
 | [.ref i], K1 =>
  obtain ⟨w, rfl, ad, rfl, hav⟩ := qs.one_of
  obtain ⟨u, rfl, ru⟩ := Jkk rv
  cases ru
  dsimp only at K1
  cases hi : h1[i]? with
  | none => rw [hi] at K1; exact Zf K1
  | some ob =>
   rw [hi] at K1
   cases ob with
   | lst ys =>
    dsimp only at K1
    cases hb : Jk5 ys with
    | none => rw [hb] at K1; exact Zf K1
    | some zs =>
     rw [hb] at K1
     dsimp only at K1
     split at K1
     ·rename_i room
      obtain ⟨ws, e1, r3⟩ := N1.at hi hav
      obtain ⟨its, rv2, pl, _⟩ := N1.inv.list (SqL.of e1)
      obtain ⟨l2, eu, ez⟩ := Jsw hb r3 rv2
      refine Jv8 hh pl.isList eu ez room fun h2 tk hS keep => PyProof.Rows.spliced_none ?_
      obtain ⟨o, es, ep, t, ho, hex, hd, hel, hmem, hbb, hf, hn⟩ := hS
      have fit : (es.size : Int) < 2 ^ 63 := by
       have := Jqa (Jfa zs) zs.length
       have sb : scanBound <= 2 ^ 40 := by unfold scanBound; decide
       omega
      refine call_len_set ho hex hd hf fit ?_
      rw [hn]
      exact K1 _ _ _ _ ⟨(N1.inv.kept (t' := _) keep), N1.rel, N1.st⟩ .refl ⟨.int _, ⟨_, rfl⟩, rfl⟩
     ·exact Zf K1
   | _ => exact Zf K1
 | [], K1 => exact Zf K1
 | [.non], K1 => exact Zf K1
 | [.bl _], K1 => exact Zf K1
 | [.int _], K1 => exact Zf K1
 | [.str _], K1 => exact Zf K1
 | [.tup _], K1 => exact Zf K1
 | [.rol _], K1 => exact Zf K1
 | x :: _ :: _, K1 => cases x <;> exact Zf K1
end
end L3
namespace L3
open PySem PySem.Spec PyProof.Rows L2
section
variable {α β : Type} {h h1 : IH} {σ : ISt}
noncomputable def SRes.sq (r : SRes) (b : S1) : SRes := match r with
 | .next σ' h' => b σ' h'
 | r => r
theorem Jzf {n : Nat} {σ : ISt} {h : IH} {c : Str} {fs : List (Str × IV)} (e : h[n]? = some (.exc c fs)) : (SRes.exc n σ h).fin = .exc n h := by simp [SRes.fin, e]
theorem Jg6 (v : IV) (σ : ISt) : eVar 0 (some v :: σ) h = .ok v h := rfl
theorem Jhc (n : Nat) (x : Option IV) (σ : ISt) : eVar (n + 1) (x :: σ) h = eVar n σ h := rfl
end
end L3
namespace L3
open PySem PySem.Spec PyProof.Rows L2
noncomputable def MulS (x : Str) (n : Int) : Bool := decide (x.length <= 1000 /\ -1000 <= n /\ n <= 1000)
theorem MulS.ok {x : Str} {n : Int} (h : MulS x n = true) : MulOk x n := by
 simp only [MulS, decide_eq_true_eq] at h
 obtain ⟨h1, h2, h3⟩ := h
 refine ⟨?_, fun hn _ => ?_, fun hn _ => ?_⟩
 ·simp only [Bool.or_eq_false_iff, decide_eq_false_iff_not]
  omega
 ·have e : (1000 : Int) <= (2 ^ 63 - 1) / n := by
   rw [Int.le_ediv_iff_mul_le (by omega)]
   have : (1000 : Int) * n <= 1000 * 1000 := Int.mul_le_mul_of_nonneg_left h3 (by decide)
   omega
  omega
 ·have : x.length * n.toNat <= 1000 * 1000 := Nat.mul_le_mul h1 (by omega)
  have hb : 1000000 < sizeLine := by decide
  unfold Builtin.Str.tooLong
  simp only [decide_eq_false_iff_not]
  omega
theorem Jyo {X : L2.Cx} : OpR X (binaryOp .Mult) (fun x y H Q => ∃ i j, x = .str i /\ y = .int j /\ MulS i j = true /\ Q (.str (Txt.mul i j)) H) := by
 intro pins s σ H x y v u Q I rx ry h
 obtain ⟨i, j, rfl, rfl, hz, q⟩ := h
 obtain ⟨t, rfl⟩ := rx
 obtain ⟨t', rfl⟩ := ry
 exact SB.mul (MulS.ok hz) fun t' tk => ⟨.str (Txt.mul i j), H, I.tok _, ⟨_, rfl⟩, q⟩
noncomputable def Jbe (x y : IV) (h : IH) : Res IV := match x with
 | .str i => (match y with
  | .int j => if MulS i j then .ok (.str (Txt.mul i j)) h else .stuck
  | _ => .stuck)
 | x => Jro x y h
section
variable {ce : Str -> Option Addr} {X : Cx}
theorem J1m : OpI ce X (binaryOp .Mult) Jbe := by
 intro pins s σ H ι σi h x y v u Q E N rx ry K
 cases x with
 | str i =>
  obtain ⟨xv, rx, qx⟩ := rx
  obtain ⟨yv, ry, qy⟩ := ry
  cases y with
  | int j =>
   have e1 : xv = .str i := qx
   have e2 : yv = .int j := qy
   subst e1 e2
   dsimp only [Jbe] at K
   split at K
   ·rename_i hz
    exact Jb8 (Jyo (X := X.wish E)) N.inv rx ry ⟨i, j, rfl, rfl, hz, fin0 N K rfl⟩
   ·exact Zf K
  | _ => exact Zf K
 | _ => exact o_mul pins s σ H ι σi h _ y v u Q E N rx ry K
end
end L3
namespace L3
open PySem PySem.Spec PyProof.Rows L2
noncomputable def valI (kvs : List (Key × IV)) (k : Key) : Option IV := (kvs.find? fun kv => decide (kv.1 = k)).map (·.2)
theorem Jvg {p : Key × IV} {r : List (Key × IV)} {k : Key} (e : p.1 = k) : valI (p :: r) k = some p.2 := by simp [valI, List.find?_cons, e]
theorem Jwc {p : Key × IV} {r : List (Key × IV)} {k : Key} (e : ¬ p.1 = k) : valI (p :: r) k = valI r k := by simp [valI, List.find?_cons, e]
theorem RPs.get {K : W.Frag} {ι : List Addr} {H : Hp} (k : Key) : ∀ {xs : List (Key × IV)} {vs : List (Key × V)}, RPs K ι H xs vs -> (valI xs k = none /\ valV vs k = none) ∨ ∃ v w, valI xs k = some v /\ valV vs k = some w /\ RV K ι H v w
 | [], _, h => by
  have e : _ = [] := h
  subst e
  exact .inl ⟨rfl, rfl⟩
 | x :: xs, _, h => by
  obtain ⟨v, r, rfl, q, t⟩ := h
  by_cases e : x.1 = k
  ·exact .inr ⟨x.2, v, Jvg e, Jrf e, q⟩
  ·rw [Jwc e, Jrc e]
   exact RPs.get k t
section
variable {ce : Str -> Option Addr} {X : Cx}
noncomputable def eDct0 : E1 := fun _ h => .ok (.ref h.length) (h ++ [.dct []])
end
end L3
namespace L3
open PySem PySem.Spec PyProof.Rows L2
noncomputable def putD (kvs : List (Key × IV)) (k : Key) (v : IV) : List (Key × IV) :=
 if (kvs.any fun kv => decide (kv.1 = k)) = true then kvs.map (fun kv => if kv.1 = k then (kv.1, v) else kv) else kvs ++ [(k, v)]
theorem RPs.any {K : W.Frag} {ι : List Addr} {H : Hp} (k : Key) : ∀ {xs : List (Key × IV)} {vs : List (Key × V)}, RPs K ι H xs vs -> (xs.any fun kv => decide (kv.1 = k)) = vs.any fun kv => decide (kv.1 = k)
 | [], _, h => by
  have e : _ = [] := h
  subst e
  rfl
 | x :: xs, _, h => by
  obtain ⟨v, r, rfl, q, t⟩ := h
  rw [List.any_cons, List.any_cons, RPs.any k t]
theorem RPs.upd {K : W.Frag} {ι : List Addr} {H : Hp} {k : Key} {v : IV} {w : V} (q : RV K ι H v w) : ∀ {xs : List (Key × IV)} {vs : List (Key × V)}, RPs K ι H xs vs -> RPs K ι H (xs.map fun kv => if kv.1 = k then (kv.1, v) else kv) (vs.map fun kv => if kv.1 = k then (kv.1, w) else kv)
 | [], _, h => by
  have e : _ = [] := h
  subst e
  exact rfl
 | x :: xs, _, h => by
  obtain ⟨v', r, rfl, q', t⟩ := h
  rw [List.map_cons, List.map_cons]
  by_cases e : x.1 = k
  ·rw [if_pos e, if_pos e]
   exact ⟨w, _, rfl, q, RPs.upd q t⟩
  ·rw [if_neg e, if_neg e]
   exact ⟨v', _, rfl, q', RPs.upd q t⟩
section
variable {ce : Str -> Option Addr} {X : Cx}
noncomputable def opIxD (x y : IV) (h : IH) : Res IV := match x with
 | .ref i => (match h[i]? with
  | some (.dct kvs) => (match keyI y with
   | some k => (match valI kvs k with
    | some v => .ok v h
    | none => .stuck)
   | none => .stuck)
  | _ => .stuck)
 | _ => .stuck
noncomputable def cInD (x c : IV) (h : IH) : Res IV := match c with
 | .ref i => (match h[i]? with
  | some (.dct kvs) => (match keyI x with
   | some k => .ok (.bl (valI kvs k).isSome) h
   | none => .stuck)
  | _ => .stuck)
 | _ => .stuck
theorem o_inD : OpI ce X (compareOp .In) cInD := by
 intro pins s σ H ι σi h x y v u Q E N rx ry K
 obtain ⟨xv, rx, qx⟩ := rx
 obtain ⟨yv, ry, qy⟩ := ry
 cases y with
 | ref i =>
  obtain ⟨a, e1, ha⟩ := qy
  subst e1
  dsimp only [cInD] at K
  cases hi : h[i]? with
  | none => rw [hi] at K; exact Zf K
  | some ob =>
   rw [hi] at K
   cases ob with
   | dct kvs =>
    dsimp only at K
    cases ek : keyI x with
    | none => rw [ek] at K; exact Zf K
    | some k =>
     rw [ek] at K
     dsimp only at K
     obtain ⟨ws, e1, r1⟩ := N.at hi ha
     cases Jvo ek qx
     cases (show u = .ref a from ry)
     obtain ⟨z, hd, ps, rel, dd⟩ := dk_of N.inv.hok e1
     refine wpAny_in_of (kV_is rx) hd dd.mapOf ?_
     rw [<- (rel.val k).isSome_eq]
     have es : (valV ws k).isSome = (valI kvs k).isSome := by
      rcases r1.get k with ⟨p, q⟩ | ⟨v1, w1, p, q, r⟩ <;> rw [p, q] <;> rfl
     rw [es]
     exact fin0 N K rfl _ _ (N.inv.tok _) rfl
   | _ => exact Zf K
 | _ => exact Zf K
noncomputable def setID : IV -> IV -> IV -> ISt -> IH -> SRes
 | .ref i, iv, v, σ, h => match h[i]? with
  | some (.dct kvs) => (match keyI iv with
   | some k => if kvs.length < sizeLine then .next σ (h.set i (.dct (putD kvs k v))) else .stuck
   | none => .stuck)
  | _ => .stuck
 | _, _, _, _, _ => .stuck
noncomputable def gSbD (o i : E1) : G1 := fun v σ h => rS σ (o σ h) fun ov h1 => rS σ (i σ h1) fun iv h2 => setID ov iv v σ h2
end
end L3
namespace L3
open PySem PySem.Spec PyProof.Rows L2
noncomputable def leZ (a b : Int) : Bool := decide (a <= b)
noncomputable def leS (a b : Str) : Bool := decide (a.cps.toList <= b.cps.toList)
noncomputable def sortZ (ns : List Int) : List Int := ns.mergeSort leZ
noncomputable def sortS (zs : List Str) : List Str := zs.mergeSort leS
theorem Jfh : ∀ {us : List Value} {ns : List Int}, IntsAre us ns -> Vals (ns.map V.int) us
 | _, _, .nil => .nil
 | _, _, .cons _ _ r => .cons ⟨_, rfl⟩ (Jfh r)
theorem Jqr {K : W.Frag} {ι : List Addr} {H : Hp} : ∀ ns : List Int, RVs K ι H (ns.map IV.int) (ns.map V.int)
 | [] => rfl
 | _ :: ns => ⟨_, _, rfl, rfl, Jqr ns⟩
noncomputable def srtI (xs : List IV) : Option (List IV) := match Jha xs with
 | some ns => some ((sortZ ns).map .int)
 | none => (Jk5 xs).map fun zs => (sortS zs).map .str
section
variable {ce : Str -> Option Addr} {X : Cx}
noncomputable def sortedI : IV -> IH -> Res IV
 | .ref i, h => match h[i]? with
  | some (.lst xs) => if xs.length < 64 then (match srtI xs with
   | some ys => .ok (.ref h.length) (h ++ [.lst ys])
   | none => .stuck) else .stuck
  | _ => .stuck
 | _, _ => .stuck
end
end L3
namespace L3
open PySem PySem.Spec PyProof.Rows L2
noncomputable def Jy3 (f : Nat -> Int) : Nat -> Int
 | 0 => 0
 | 1 => f 0
 | j + 2 => if f (j + 1) < Jy3 f (j + 1) then f (j + 1) else Jy3 f (j + 1)
section
variable {pr : Program} {wd : World} {B : Around} {R : Result -> Shared -> Prop} {it : Addr} {fps wrs : List Addr} {n : Nat} {P : Nat -> Value -> Prop} {St : Nat -> Heap -> Prop}
end
section
variable {pr : Program} {wd : World} {B : Around} {E : Value -> Shared -> Prop} {z : Shared} {l : Addr} {us : List Value} {ns : List Int} {Q : Value -> Shared -> Prop}
end
section
variable {ce : Str -> Option Addr} {X : Cx}
noncomputable def minLI : IV -> IH -> Res IV
 | .ref i, h => match h[i]? with
  | some (.lst xs) => (match Jha xs with
   | some ns => if ns = [] then .stuck else .ok (.int (Jy3 (fun i => ns.getD i 0) ns.length)) h
   | none => .stuck)
  | _ => .stuck
 | _, _ => .stuck
end
end L3
namespace L3
open PySem PySem.Spec PyProof.Rows L2
section
variable {ce : Str -> Option Addr} {X : Cx}
noncomputable def popI : IV -> List IV -> IH -> Res IV
 | .ref i, [.int k], h => match h[i]? with
  | some (.lst xs) => if 0 <= k /\ k < 1000000 then (match xs[k.toNat]? with
   | some y => .ok y (h.set i (.lst (xs.eraseIdx k.toNat)))
   | none => .stuck) else .stuck
  | _ => .stuck
 | _, _, _ => .stuck
noncomputable def Jim : IV -> List IV -> IH -> Res IV
 | .ref i, [], h => match h[i]? with
  | some (.lst xs) => .ok .non (h.set i (.lst xs.reverse))
  | _ => .stuck
 | _, _, _ => .stuck
theorem Juf : MtI ce X "list" "list.reverse" Jim := by
 intro pins s σ H ι σi h x xs v us Q E N rx rs K
 obtain ⟨xv, rx, qx⟩ := rx
 obtain ⟨vs, rv, qs⟩ := rs
 cases x with
 | ref i =>
  match xs, K with
  | [], K =>
   obtain ⟨a, rfl, ha⟩ := qx
   cases (show vs = [] from qs)
   dsimp only [Jim] at K
   cases hi : h[i]? with
   | none => rw [hi] at K; exact Zf K
   | some ob =>
    rw [hi] at K
    cases ob with
    | lst zs =>
     obtain ⟨ws, e1, r1⟩ := N.at hi ha
     exact Jxn (Jru (X := X.wish E)) N.inv rx rv ⟨a, ws, rfl, rfl, e1, finW (ys := zs.reverse) N K ha e1 r1.rev rfl⟩
    | _ => exact Zf K
  | _ :: _, K => exact Zf K
 | _ => cases xs <;> exact Zf K
theorem Js9 : ∀ (us : List Value) (ns : List Int), us.length = ns.length -> (∀ i v, us[i]? = some v -> ∃ t : Tok, v = Value.int (ns.getD i 0) t) -> IntsAre us ns
 | [], [], _, _ => .nil
 | u :: us, n :: ns, hl, h => by
  obtain ⟨t, e⟩ := h 0 u rfl
  cases (show u = .int n t from e)
  exact .cons n t (Js9 us ns (by simpa using hl) fun i v q => h (i + 1) v q)
 | [], _ :: _, hl, _ => by cases hl
 | _ :: _, [], hl, _ => by cases hl
noncomputable def eLR (aa : A1) : E1 := fun σ h => (aa σ h).bind fun xs h1 => match xs with
 | [.int j] => if 0 <= j /\ j <= 1000 then .ok (.ref h1.length) (h1 ++ [.lst (rngI 0 j)]) else .stuck
 | _ => .stuck
theorem Jzh (j : Int) : rngI 0 j = ((List.range j.toNat).map fun k => ((k : Nat) : Int)).map IV.int := by
 simp [rngI]
theorem Jsx {a : Expr} {aa : A1} {p pos p2 pos2 : Pos} (hh : X.A.handled = none) (g1 : Gl X "list") (m1 : X.mg "list" = none) (g2 : Gl X "range") (m2 : X.mg "range" = none) (ha : PAi ce X [a] aa) (hs : starEach [a] X.env = [(false, eval a X.env)]) :
  PEi ce X (.Call (.Name "list" p) [.Call (.Name "range" p2) [a] [] pos2] [] pos) (eLR aa) := fun pins s σ H ι σi h Q E N K => by
 refine wpAny_Call_Name_kw (Jec N.inv g1 m1 rfl ?_)
 refine PyProof.Rows.callWith_type1 ?_ rfl rfl
 refine PyProof.Rows.spliced_more ?_
 refine wpAny_Call_Name_kw (Jec N.inv g2 m2 boot_range ?_)
 refine PyProof.Rows.callWith_type1 ?_ hs rfl
 refine (ha pos2).run N K fun xs h1 us s1 H1 ι1 N1 n1 r1 K1 => ?_
 obtain ⟨vs, rv, qs⟩ := r1
 match xs, K1 with
 | [.int j], K1 =>
  obtain ⟨w, rfl, qw⟩ := qs.one_of
  cases (show w = .int j from qw)
  obtain ⟨u, rfl, t, rfl⟩ := Jkk rv
  dsimp only at K1
  split at K1
  ·rename_i hj
   refine call_range_1 (PyProof.Rows.spliced_none ?_)
   have I2 := N1.inv.kept (h' := s1.heap.push { cls := .type "range", data := .fields #[.int 0 s1.toks, .int j t, .int 1 (s1.toks + 1)] }) (t' := s1.toks + 1 + 1) fun b o e => Heap.get?_push_of_some _ e
   refine call_list_range (n := j.toNat) hh (Heap.get?_push_size _ rfl) ?_ ?_ (by omega) fun h3 tk acc c' keep hget its => ?_
   ·exact small_one (by decide) (by decide) (by omega) (by omega)
   ·rw [rangeSize_one]
    split <;> omega
   ·have sb : (1000 : Nat) <= sizeLine := by decide
    have are : IntsAre acc.toList ((List.range j.toNat).map fun k => ((k : Nat) : Int)) := by
     refine Js9 _ _ (by simp [its.1]) fun i v hv => ?_
     obtain ⟨t, rfl⟩ := its.2 i v (by simpa using hv)
     have hi : i < j.toNat := by
      have := (List.getElem?_eq_some_iff.mp hv).1
      simp only [Array.length_toList, its.1] at this
      exact this
     exact ⟨t, by simp [List.getD_eq_getElem?_getD, hi]⟩
    rw [Jzh] at K1
    have fresh : H1 (s1.heap.objs.size + 1) = none := N1.inv.hok.fresh (Nat.le_succ _)
    have hz : (s1.heap.push { cls := .type "range", data := .fields #[.int 0 s1.toks, .int j t, .int 1 (s1.toks + 1)] }).objs.size = s1.heap.objs.size + 1 := size_push' ..
    rw [hz] at hget ⊢
    have I' := N1.inv.laid (a := s1.heap.objs.size + 1) (o := .lst (((List.range j.toNat).map fun k => ((k : Nat) : Int)).map V.int)) (h' := h3) (t' := tk) (fun b o e => keep b o (Heap.get?_push_of_some _ e)) (Nat.le_succ _) ⟨by simp; omega, acc.toList, c', Jfh are, by simpa using hget⟩
    exact finA N1 K1 (s1.heap.objs.size + 1) fresh ⟨_, Jk, Jqr _⟩ _ _ I' rfl
  ·exact Zf K1
 | [], K1 => exact Zf K1
 | [.non], K1 => exact Zf K1
 | [.bl _], K1 => exact Zf K1
 | [.ref _], K1 => exact Zf K1
 | [.str _], K1 => exact Zf K1
 | [.tup _], K1 => exact Zf K1
 | [.rol _], K1 => exact Zf K1
 | x :: _ :: _, K1 => cases x <;> exact Zf K1
end
end L3
namespace L3
open PySem PySem.Spec PyProof.Rows L2
section
variable {prog : Program} {w : World} {A : Around} {E : Value -> Shared -> Prop} {s : Shared}
theorem Jsr {it t : Addr} {i : Nat} {items : Array Value} {x : Value} {Q : Value -> Shared -> Prop} (hit : s.heap.IsTupleIter it t i) (ht : s.heap.IsTuple t items) (hx : items[i]? = some x)
  (hQ : ∀ h', h'.IsTupleIter it t (i + 1) -> Heap.SameBut it s.heap h' -> Q x { s with heap := h' }) : wpAny (model prog w) A (Builtin.SmallTypes.nextOf (.ref it)) Q E s := by
 obtain ⟨oi, hi, ci, di⟩ := id hit
 obtain ⟨ot, hot, _, nt, dt⟩ := ht
 unfold Builtin.SmallTypes.nextOf
 refine wpAny_bind (wpAny_callSpecial?_slot (name := Str.ofString "__next__") hit.typeIs F.slot_tuple_iterator_next (wpAny_call_entry F.slot_tuple_iterator_next hit.typeIs F.entry_tuple_iterator_next ?_ (F.args_tuple_iterator_next_1 _)))
 show wpAny _ A.in1 (field (.ref it) 0 >>= _) _ _ s
 refine wpAny_bind (wpAny_field hi di (x := .ref t) rfl ?_)
 show wpAny _ A.in1 (if (Value.ref t == Value.none) = true then _ else _) _ _ s
 rw [if_neg (show ¬ (Value.ref t == Value.none) = true from Bool.false_ne_true)]
 show wpAny _ A.in1 (field (.ref it) 1 >>= _) _ _ s
 refine wpAny_bind (wpAny_field hi di (x := .int i 0) rfl ?_)
 show wpAny _ A.in1 (seqItems? (.ref t) >>= _) _ _ s
 refine wpAny_bind (wpAny_seqItems hot dt ?_); simp only [Int.toNat_natCast, hx]
 refine wpAny_bind (wpAny_setField hi di (by simp) (wpAny_pure ⟨x, rfl, wpAny_pure (hQ _ ⟨_, Heap.get?_update_self _ hi (Obj.isFreed_of_fields (Obj.data_mapFields di _)), (Obj.cls_mapFields ..).trans ci, ?_⟩ (Heap.SameBut.update ..))⟩))
 rw [Obj.data_mapFields di]; simp [rawInt]
theorem Jn1 {it t : Addr} {i : Nat} {items : Array Value} {Q : Value -> Shared -> Prop} (hh : A.handled = none) (hit : s.heap.IsTupleIter it t i) (ht : s.heap.IsTuple t items) (hx : items[i]? = none)
  (hE : ∀ h' e, Heap.ExtBut it s.heap h' -> (∃ o, h'.get? e = some o /\ o.cls = .type "StopIteration") -> E (.ref e) { s with heap := h' }) : wpAny (model prog w) A (Builtin.SmallTypes.nextOf (.ref it)) Q E s := by
 obtain ⟨oi, hi, ci, di⟩ := id hit
 obtain ⟨ot, hot, _, nt, dt⟩ := ht
 unfold Builtin.SmallTypes.nextOf
 refine wpAny_bind (wpAny_callSpecial?_slot (name := Str.ofString "__next__") hit.typeIs F.slot_tuple_iterator_next (wpAny_call_entry F.slot_tuple_iterator_next hit.typeIs F.entry_tuple_iterator_next ?_ (F.args_tuple_iterator_next_1 _)))
 show wpAny _ A.in1 (field (.ref it) 0 >>= _) _ _ s
 refine wpAny_bind (wpAny_field hi di (x := .ref t) rfl ?_)
 show wpAny _ A.in1 (if (Value.ref t == Value.none) = true then _ else _) _ _ s
 rw [if_neg (show ¬ (Value.ref t == Value.none) = true from Bool.false_ne_true)]
 show wpAny _ A.in1 (field (.ref it) 1 >>= _) _ _ s
 refine wpAny_bind (wpAny_field hi di (x := .int i 0) rfl ?_)
 show wpAny _ A.in1 (seqItems? (.ref t) >>= _) _ _ s
 refine wpAny_bind (wpAny_seqItems hot dt ?_); simp only [Int.toNat_natCast, hx]
 refine wpAny_bind (wpAny_rule (wpAny_bind (wpAny_setField hi di (by simp) ?_)))
 show wpAny _ A.in1 (newExc (.type "StopIteration") [] >>= _) _ _ _
 refine wpAny_bind ?_; simp only [newExc, newTuple]
 refine wpAny_bind (wpAny_newObj_type ?_ (by size_fits)); refine wpAny_bind (m := firstArgMember _ _) (wpAny_of_eq (a := Value.none) (by first | rfl | (simp only [firstArgMember]; rfl)) ?_)
 refine wpAny_newObj_type ?_ (by size_fits); simp only [raiseNew]
 refine wpAny_bind (wpAny_handled ?_); rw [show A.in1.handled = none from hh]
 exact wpAny_bind (wpAny_pure (wpAny_throw (hE _ _ (((Heap.SameBut.update ..).extBut.push _).push _) ⟨_, Heap.get?_push_size _ rfl, rfl⟩)))
end
theorem J10 {prog : Program} {w : World} {A : Around} (hh : A.handled = none) (it l : Addr) (hne : l ≠ it) (items : Array Value) :
  Draws prog w A it [it, l] items.size (fun i v => items[i]? = some v) (fun i h => h.IsTupleIter it l i /\ h.IsTuple l items) where
 live := fun _ _ st => let ⟨o, ho, _⟩ := st.1; ⟨o, ho⟩
 frame := fun _ _ _ st hk => ⟨st.1.at fun o e => hk it (by simp) o e, let ⟨o, e, r⟩ := st.2; ⟨o, hk l (by simp) o e, r⟩⟩
 item := fun i s Q E hi st hQ => Jsr st.1 st.2 (x := items[i]) (by simp [hi]) fun h' hit' hs' => hQ _ h' s.toks (by simp [hi]) ⟨hit', st.2.extBut hs'.extBut hne⟩ hs'
 done := fun s Q E st hE => Jn1 hh st.1 st.2 (by simp) hE
theorem J0x {prog : Program} {w : World} {A : Around} (hh : A.handled = none) (it l : Addr) (i : Nat) (items : Array Value) (hx : items[i]? = none) :
  Draws prog w A it [it, l] i (fun _ _ => True) (fun j h => j = i /\ h.IsTupleIter it l i /\ h.IsTuple l items) where
 live := fun _ _ st => let ⟨o, ho, _⟩ := st.2.1; ⟨o, ho⟩
 frame := fun _ _ _ st hk => ⟨st.1, st.2.1.at fun o e => hk it (by simp) o e, let ⟨o, e, r⟩ := st.2.2; ⟨o, hk l (by simp) o e, r⟩⟩
 item := fun j s Q E hi st hQ => by have := st.1; omega
 done := fun s Q E st hE => Jn1 hh st.2.1 st.2.2 hx hE
open AutoSeq1 (wpAny_loadPart') in
theorem Jtl (l : Addr) (items : Array Value) (n : Nat) (dct : Option Addr) (sl : Array (Option Value)) :
  Meets (Builtin.«enumerate.__new__» ⟨[.type "enumerate", .ref l], []⟩) (fun _ R s => s.heap.get? l = some { cls := .type "tuple", dict := dct, data := .seq items n, slots := sl } /\
   R (.ok (.ret (.ref (s.heap.push { cls := .type "tuple_iterator", data := .fields #[.ref l, .int 0 0] }).objs.size)))
    { s with heap := (s.heap.push { cls := .type "tuple_iterator", data := .fields #[.ref l, .int 0 0] }).push { cls := .type "enumerate", data := .fields #[.none, .bool false, .ref s.heap.objs.size, rawInt 0, .none, .none] } }) :=
 .of_wp fun prog w A R s h => by
  obtain ⟨hp, g, d, tk, os⟩ := s; obtain ⟨hl, h⟩ := h
  have hsub := sub_enumerate; have hT : Heap.IsTuple (Shared.heap ⟨hp, g, d, tk, os⟩) l items := ⟨_, hl, rfl, n, rfl⟩
  wp_walk using wpAny_loadPart' hl
  refine wpAny_stack_any fun st => wpAny_pure ?_
  split
  ·rename_i c _ _ _ _ _
   cases (c == Value.type "enumerate") <;> (wp_walk using wpAny_loadPart' hl, wpAny_pyIter_tuple hT; exact ⟨_, rfl, h⟩)
  ·wp_walk using wpAny_loadPart' hl, wpAny_pyIter_tuple hT
   exact ⟨_, rfl, h⟩
section
variable {prog : Program} {w : World} {A : Around} {E : Value -> Shared -> Prop} {s : Shared}
theorem Jr3 {l : Addr} {items : Array Value} {Q : Value -> Shared -> Prop} (hT : s.heap.IsTuple l items)
  (h : ∀ h', IsEnum h' (s.heap.objs.size + 1) s.heap.objs.size 0 .none -> h'.IsTupleIter s.heap.objs.size l 0 -> (∀ b o, s.heap.get? b = some o -> h'.get? b = some o) -> Q (.ref (s.heap.objs.size + 1)) { s with heap := h' }) :
  wpAny (model prog w) A (call (.type "enumerate") [.ref l]) Q E s := by
 obtain ⟨⟨c, dct, dt, sl⟩, hl, hc, n, hd⟩ := hT
 cases (show c = .type "tuple" from hc)
 cases (show dt = .seq items n from hd)
 refine callType_new F.called_enumerate (by decide) (F.typeCall_enumerate_1 _) (F.newCall_enumerate_1 _) (fun obj => F.args_object_init_2 obj _) F.entry_enumerate_new (Jtl l items n dct sl) ⟨hl, ?_⟩
 have hz : (s.heap.push { cls := .type "tuple_iterator", data := .fields #[.ref l, .int 0 0] }).objs.size = s.heap.objs.size + 1 := Heap.size_push ..
 show _ /\ _
 rw [hz]
 have he : IsEnum ((s.heap.push { cls := .type "tuple_iterator", data := .fields #[.ref l, .int 0 0] }).push { cls := .type "enumerate", data := .fields #[.none, .bool false, .ref s.heap.objs.size, rawInt 0, .none, .none] }) (s.heap.objs.size + 1) s.heap.objs.size 0 .none := by
  have := Heap.get?_push_size (s.heap.push { cls := .type "tuple_iterator", data := .fields #[.ref l, .int 0 0] }) (o := { cls := .type "enumerate", data := .fields #[.none, .bool false, .ref s.heap.objs.size, rawInt 0, .none, .none] }) rfl
  rw [hz] at this
  exact this
 exact ⟨⟨_, he, rfl⟩, h _ he ⟨_, Heap.get?_push_of_some _ (Heap.get?_push_size _ rfl), rfl, rfl⟩ fun b o x => Heap.get?_push_of_some _ (Heap.get?_push_of_some _ x)⟩
end
section
variable {ce : Str -> Option Addr} {X : Cx}
noncomputable def IteT (K : W.Frag) (a : Addr) : It :=
 ⟨fun i H => ∃ xs x, SqT K H a xs /\ xs[i]? = some x, fun i H y H' => ∃ p x, H p = none /\ y = .ref p /\ H' = upd H p (.tup [.int (i : Int), x]) /\ ∀ xs, SqT K H a xs -> xs[i]? = some x, fun i H => ∃ xs, SqT K H a xs /\ xs.length <= i⟩
theorem Jr1 {P : Program} {w : World} {K : W.Frag} {es : List Expr} {k : Nat} {p : Pos} (a it e : Addr) (hne : e ≠ it) : Turn P w K (.Tuple es k p) (IteT K a) [e, it] e (fun i h => (∃ old, IsEnum h e it (i : Int) old) /\ h.IsTupleIter it a i) where
 mem := by simp
 obj := fun i h st b hb => by
  obtain ⟨⟨old, he⟩, o, e1, c, d⟩ := st
  simp only [List.mem_cons, List.not_mem_nil, or_false] at hb
  rcases hb with rfl | rfl
  ·exact ⟨_, he, fun v z => by
    have z' : Data.fields _ = Data.cell v := z
    cases z'⟩
  ·exact ⟨o, e1, fun v z => by rw [d] at z; cases z⟩
 keep := fun i h h' st k => ⟨let ⟨old, he⟩ := st.1; ⟨old, k e (by simp) _ he⟩, st.2.at fun o e => k it (by simp) o e⟩
 item := by
  intro X hP hw hK hc i pins s σ H E I hf st hg
  subst hP hw hK
  obtain ⟨⟨old, he⟩, hit⟩ := st
  obtain ⟨xs, x, hq, hx⟩ := hg
  obtain ⟨its, rv, pl, hz⟩ := I.tuple hq
  have pt : s.heap.IsTuple a its.toArray := pl
  obtain ⟨u, hu, ru⟩ := rv.get hx
  have fe := hf e (by simp)
  have fi := hf it (by simp)
  have hn : H s.heap.objs.size = none := I.hok.fresh (Nat.le_refl _)
  obtain ⟨oe, hoe⟩ : ∃ o, s.heap.get? e = some o := ⟨_, he⟩
  obtain ⟨oi, hoi, ci, di⟩ := id hit
  have nea : a ≠ it := fun z => by
   obtain ⟨oa, ha, ca, _⟩ := pt
   rw [z, hoi] at ha; cases ha
   rw [ci] at ca
   injection ca with z1
   exact absurd z1 (by decide)
  have nee : e ∉ [it, a] := fun z => by
   simp only [List.mem_cons, List.not_mem_nil, or_false] at z
   rcases z with z | z
   ·exact hne z
   ·obtain ⟨oa, ha, ca, _⟩ := pt
    have he' : s.heap.get? e = some _ := he
    rw [<- z, he'] at ha; cases ha
    injection ca with z1
    exact absurd z1 (by decide)
  have lti : i < its.toArray.size := by have := (List.getElem?_eq_some_iff.mp hu).1; simpa using this
  refine wpAny_pyNext_enum_itemD (J10 (A := X.A.in1) (I.ok.hd hc) it a nea its.toArray) he ⟨hit, pt⟩ lti hne nee fun y h' tk hy he' st' ht hsz kk => ?_
  have ey : y = u := by
   have h2 : its[i]? = some y := by simpa using hy
   rw [hu] at h2; cases h2; rfl
  subst ey
  have hit' := st'.1
  refine ⟨_, rfl, wpAny_letOwnedTupleGo_enum he' fun h2 he2 sb => ?_⟩
  have ltE : e < s.heap.objs.size := Heap.lt_size he
  have neT : s.heap.objs.size ≠ e := Nat.ne_of_gt ltE
  have k2 : ∀ b o, b ≠ e -> b ≠ it -> s.heap.get? b = some o -> h2.get? b = some o := fun b o h1 h3 q => (sb.2 b h1).trans (kk b o h1 h3 q)
  have hl2 : h2.IsTupleIter it a (i + 1) := by
   obtain ⟨o, q, r⟩ := hit'
   exact ⟨o, (sb.2 it (Ne.symm hne)).trans q, r⟩
  have t2 : h2.get? s.heap.objs.size = some { cls := .type "tuple", data := .seq #[.int i tk, y] } := (sb.2 _ neT).trans ht
  have neP : ∀ b u, H b = some u -> b ≠ s.heap.objs.size := fun b u q => Jap q hn
  have I1 : Inv X pins σ (upd H s.heap.objs.size (.tup [.int (i : Int), x])) { s with heap := h2, toks := tk + 1 } := by
   refine I.step (g' := s.gens) (d' := s.drawn) (ch := [e, it]) (fun b hb => ?_) (fun b o _ _ hc q _ => k2 b o (fun z => hc (by simp [z])) (fun z => hc (by simp [z])) q) (fun b o _ _ hc q _ => ⟨o.slots, k2 b o (fun z => hc (by simp [z])) (fun z => hc (by simp [z])) q⟩) (fun b o _ q n => ?_)
    (fun b o hc q => ⟨o, k2 b o (fun z => hc (by simp [z])) (fun z => hc (by simp [z])) q⟩) (fun b xs q => by rw [Jg (neP b _ q)]; exact q) (fun b o u q => by rw [Jg (neP b _ q)]; exact q) (fun b ps q => ⟨#[], by rw [Jg (neP b _ q), q]; simp⟩) (fun m hm => ?_) (fun b u q => ?_) I.bare
   ·simp only [List.mem_cons, List.not_mem_nil, or_false] at hb
    rcases hb with rfl | rfl
    ·exact ⟨fe.2.2.2.1, fe.2.1, fe.2.2.2.2.1, fe.2.2.2.2.2⟩
    ·exact ⟨fi.2.2.2.1, fi.2.1, fi.2.2.2.2.1, fi.2.2.2.2.2⟩
   ·rw [Jg (Nat.ne_of_lt (Heap.lt_size q))]; exact n
   ·obtain ⟨o, es, ep, ho, r⟩ := hm
    exact ⟨o, es, ep, k2 _ o (Ne.symm fe.2.1) (Ne.symm fi.2.1) ho, r⟩
   ·by_cases hb : b = s.heap.objs.size
    ·subst hb
     rw [Jk] at q
     cases q
     exact ⟨by show 2 <= sizeLine; decide, [.int i tk, y], .cons ⟨_, rfl⟩ (.cons ru .nil), ⟨_, t2, rfl, _, rfl⟩⟩
    ·rw [Jg hb] at q
     have n1 : b ≠ e := fun z => by rw [z, fe.1] at q; cases q
     have n2 : b ≠ it := fun z => by rw [z, fi.1] at q; cases q
     refine (I.hok b u q).stay (fun c v hc r => k2 c v ?_ ?_ r) (fun c q => by rw [Jg (neP c _ q)]; exact q) fun c ys q => by rw [Jg (neP c _ q)]; exact q
     ·rcases hc with z | z
      ·rw [z]; exact n1
      ·intro y; rw [y, fe.1] at z; cases z
     ·rcases hc with z | z
      ·rw [z]; exact n2
      ·intro y; rw [y, fi.1] at z; cases z
  refine ⟨.ref s.heap.objs.size, _, I1, rfl, ⟨s.heap.objs.size, x, hn, rfl, rfl, fun ys hy => by rw [I.tuple_inj hy hq]; exact hx⟩, ⟨⟨_, he2⟩, hl2⟩, fun b hb => ?_⟩
  simp only [List.mem_cons, List.not_mem_nil, or_false] at hb
  rcases hb with rfl | rfl
  ·rw [Jg (Nat.ne_of_lt ltE)]; exact fe.1
  ·rw [Jg (Nat.ne_of_lt (Heap.lt_size hoi))]; exact fi.1
 done := by
  intro X hP hw hK hc i pins s σ H E I hf st hg
  subst hP hw hK
  obtain ⟨⟨old, he⟩, hit⟩ := st
  obtain ⟨xs, hq, hx⟩ := hg
  obtain ⟨its, rv, p, hz⟩ := I.tuple hq
  obtain ⟨f0, f1, f2, f3, f4, f5⟩ := hf it (by simp)
  have hl := rv.length
  have pt : s.heap.IsTuple a its.toArray := p
  exact wpAny_pyNext_enum_endD (J0x (A := X.A.in1) (I.ok.hd hc) it a i its.toArray (by simp; omega)) he ⟨rfl, hit, pt⟩ fun h' eb => ⟨rfl, I.turned (t' := s.toks) (fun b o hb e => eb b o hb e) f0 f1 f3 f4 f5⟩
 self := fun _ _ _ _ _ st h => let ⟨_, he⟩ := st.1; wpAny_pyIter_enum he h
noncomputable def Jd6 : List IV -> IH -> Res ItI
 | [.tup xs], h => .ok ⟨Jfm 0 xs, fun _ => True⟩ h
 | vs, h => Jik vs h
theorem Jzu {a : Addr} {xs : List IV} {vs : List V} {ι : List Addr} {H₀ : Hp} (ha : SqT X.K H₀ a vs) (r : RVs X.K ι H₀ xs vs) : ItOk ce X.K ι H₀ (IteT X.K a) ⟨Jfm 0 xs, fun _ => True⟩ := by
 refine ⟨fun k v h H ι' hp R hck hx => ?_, fun k h H ι' hp R hck hx => ?_⟩
 ·have hx' : (Jfm 0 xs)[k]? = some v := hx
  rw [Jhs] at hx'
  obtain ⟨x, hxk, rfl⟩ := Option.map_eq_some_iff.mp hx'
  have r1 := RVs.mono hp _ _ r
  have sa := hp.ext.sqT ha
  obtain ⟨u, hu, qu⟩ := r1.get hxk
  refine ⟨⟨vs, u, sa, hu⟩, fun y H' hy => ?_⟩
  obtain ⟨p, x', hp0, rfl, rfl, hy⟩ := hy
  have := hy vs sa
  rw [hu] at this
  cases this
  obtain ⟨R', n'⟩ := R.grow (o := .tup [.int (k : Int), u]) hp0
  refine ⟨R', n', p, _, rfl, SqT.of Jk, ⟨_, _, rfl, ?_, _, _, rfl, RV.mono n' _ _ qu, rfl⟩⟩
  show V.int (k : Int) = V.int ((0 + k : Nat) : Int)
  simp
 ·exact ⟨vs, hp.ext.sqT ha, by rw [r.length, <- Jbm xs 0]; exact hx⟩
theorem Jya {es : List Expr} {kt : Nat} {pt : Pos} {a : Expr} {ma : A1} {p pos : Pos} (hg : Gl X "enumerate") (hm : X.mg "enumerate" = none) (ha : PAi ce X [a] ma) (hs : starEach [a] X.env = [(false, eval a X.env)] := by rfl) : PIi ce X (.Tuple es kt pt) (.Call (.Name "enumerate" p) [a] [] pos) (iRg Jd6 ma) := by
 intro pins s σ H ι σi h Q E N K
 by_cases ht : ∃ xs h', ma σi h = .ok [.tup xs] h'
 ·obtain ⟨xs, h', e0⟩ := ht
  refine Call_ (Jec N.inv hg hm boot_enumerate (PyProof.Rows.callWith_type1 ?_ hs rfl))
  refine ha pos pins s σ H ι σi h _ E N ?_
  unfold iRg at K
  rw [e0] at K ⊢
  intro us s1 H1 ι1 N1 n1 r1
  obtain ⟨ws, rv, qs⟩ := r1
  obtain ⟨w, e1, q⟩ := qs.one_of
  subst e1
  obtain ⟨b, vs, rfl, sb, rb⟩ := q
  obtain ⟨u, rfl, ru⟩ := Jkk rv
  cases ru
  obtain ⟨its, rv2, pl, hz⟩ := N1.inv.tuple sb
  refine Jr3 (show s1.heap.IsTuple b its.toArray from pl) fun h2 he hit kp => ?_
  refine wpAny_pyIter_enum he (K _ _ H1 ι1 ⟨N1.inv.kept (t' := s1.toks) kp, N1.rel, N1.st⟩ n1 ?_)
  refine ⟨s1.heap.objs.size + 1, [s1.heap.objs.size + 1, s1.heap.objs.size], _, IteT X.K b, rfl, Jr1 b s1.heap.objs.size (s1.heap.objs.size + 1) (Nat.ne_of_gt (Nat.lt_succ_self _)), ⟨⟨_, he⟩, hit⟩, fun c hc => ?_, Jzu sb rb⟩
  simp only [List.mem_cons, List.not_mem_nil, or_false] at hc
  rcases hc with rfl | rfl
  ·exact N1.inv.fpOk (Nat.le_succ _) (N1.inv.hok.fresh (Nat.le_succ _))
  ·exact N1.inv.fpOk (Nat.le_refl _) (N1.inv.hok.fresh (Nat.le_refl _))
 ·refine Jz5 (es := es) (kt := kt) (pt := pt) hg hm ha hs pins s σ H ι σi h Q E N ?_
  have e : iRg Jik ma σi h = iRg Jd6 ma σi h := by
   unfold iRg
   cases e0 : ma σi h with
   | ok vs h' =>
    show Jik vs h' = Jd6 vs h'
    unfold Jd6
    split
    ·exact absurd ⟨_, _, e0⟩ ht
    ·rfl
   | _ => rfl
  rw [e]
  exact K
end
end L3
namespace L3
open PySem PySem.Spec PyProof.Rows L2
noncomputable def lamOne (a : Arguments) : Option Str := match a with
 | { posonlyargs := [], args := [p], vararg := none, kwonlyargs := [], kw_defaults := [], kwarg := none, defaults := [] } => some p.arg
 | _ => none
noncomputable abbrev lamQ (q : Str) : Str := q ++ ".<locals>." ++ "<lambda>"
noncomputable def Jwi (mg : Str -> Option Value) (base : Heap) : Prop :=
 ∃ bm ob, mg "__builtins__" = some (.ref bm) /\ bm ≠ builtinsNs /\ bm ≠ mainGlobals /\ base.get? bm = some ob /\ ob.cls = .type "module" /\ ob.dict = some builtinsNs /\ ob.data = .plain
theorem Jl7.mono {H H' : Hp} {q : Str} {cv : Value} (fz : ∀ b o u, H b = some (.frz o u) -> H' b = some (.frz o u)) (l : Jl7 H q cv) : Jl7 H' q cv := by
 obtain ⟨c, oc, vs, t, e1, e2, r⟩ := l
 exact ⟨c, oc, vs, t, e1, fz _ _ _ e2, r⟩
section
variable {ce : Str -> Option Addr} {X : Cx}
end
end L3
namespace L3
open PySem PySem.Spec PyProof.Rows L2
noncomputable abbrev envL (q : Str) (scope : Scope) (L f : Addr) (cd : Value) (cl : List (Str × Addr)) : Env := newEnv scope L mainGlobals cl (lamQ q ++ ".<locals>.") (some f) cd none builtinsNs
noncomputable def cxL (X : Cx) (A : Around) (N' : List Str) (q : Str) (scope : Scope) (f : Addr) (cd : Value) (s : Shared) (H : Hp) : Cx :=
 { X with A := A.deeper (envL q scope s.heap.objs.size f cd (clOf X.env.cells scope.names [])), N := N', s₀ := s, H₀ := H, env := envL q scope s.heap.objs.size f cd (clOf X.env.cells scope.names []), outer := X.stack, stack := envL q scope s.heap.objs.size f cd (clOf X.env.cells scope.names []) :: X.stack, ex := [], calm := true, fn := fun _ => false, pn := [], xe := fun _ _ => False }
structure LamSc (N0 : List Str) (sc₀ : List (Str × NameKind)) (x : Str) (caps : List Str) (js : List Nat) (scope : Scope) : Prop where
 kind : scope.kind = .function
 co : scope.isCoroutine = false
 gen : scope.isGenerator = false
 nocell : ∀ y ∈ scope.names, y.2 ≠ .cell
 par : scope.names.lookup x = some .local
 free : ∀ y ∈ scope.names, y.2 = .free -> sc₀.lookup y.1 = some .cell
 fr : ∀ y, scope.names.lookup y = some .free -> (y, .free) ∈ scope.names
 cap : ∀ (k j : Nat) (y : Str), js[k]? = some j -> caps[k]? = some y -> N0[j]? = some y /\ scope.names.lookup y = some .free
 len : js.length = caps.length
 nd : (x :: caps).Nodup
section
variable {ce : Str -> Option Addr} {X : Cx}
end
end L3
namespace L3
open PySem PySem.Spec PyProof.Rows L2
noncomputable def gtZ : IV -> IV -> Option Bool
 | .int a, .int b => some (decide (a > b))
 | _, _ => none
theorem FpOk.more {X : Cx} {pins : List (Addr × Obj)} {H : Hp} {b : Addr} {p : Addr × Obj} (F : FpOk X pins H b) (ne : p.1 ≠ b) : FpOk X (pins ++ [p]) H b := by
 refine ⟨F.1, F.2.1, F.2.2.1, F.2.2.2.1, F.2.2.2.2.1, fun q hq => ?_⟩
 rcases List.mem_append.mp hq with z | z
 ·exact F.2.2.2.2.2 q (List.mem_append_left _ z)
 ·rcases List.mem_append.mp z with z | z
  ·exact F.2.2.2.2.2 q (List.mem_append_right _ z)
  ·rw [List.mem_singleton.mp z]
   exact ne
theorem FpOk.at {X : Cx} {pins : List (Addr × Obj)} {H H' : Hp} {b : Addr} (F : FpOk X pins H b) (n : H' b = none) : FpOk X pins H' b := ⟨n, F.2⟩
section
variable {ce : Str -> Option Addr} {X : Cx}
section
variable {A : Around} {R : Result -> Shared -> Prop} {Q : Value -> Shared -> Prop} {E : Value -> Shared -> Prop} {pins : List (Addr × Obj)} {σi : ISt} {σ : L2.St} {G : Hp -> Prop} {fq : Addr} {mk : IV -> IH -> Res IV} {gt : IV -> IV -> Option Bool} {i n : Nat} {l I C : Addr} {kw : List (Str × Value)}
end
theorem Kont.more {α β : Type} {R : REL α β} {pins pl : List (Addr × Obj)} {ι : List Addr} {σi : ISt} {σ : L2.St} {H : Hp} {r : Res α} {Q : β -> Shared -> Prop} {E : Value -> Shared -> Prop} (K : Kont ce X R pins ι σi σ H r Q E) : Kont ce X R (pins ++ pl) ι σi σ H r Q E := by
 cases r with
 | ok v h' => exact fun u s' H' ι' N n q => K u s' H' ι' N.pins n q
 | exc m h' => exact fun pl' a s' H' ι' N n q => K (pl ++ pl') a s' H' ι' (by rw [<- List.append_assoc]; exact N) n q
 | stuck => exact K
end
end L3
namespace L3
open PySem PySem.Spec PyProof.Rows L2
noncomputable def bmV : List Value := [.type "ValueError", .type "Exception", .type "BaseException", .type "object"]
noncomputable def XCls (K : W.Frag) (C : Addr) : Prop := W.excIn K C bmV "ValueError.__new__" = true
theorem XCls.obj {K : W.Frag} {C : Addr} {h : Heap} (x : XCls K C) (I : K.In h) : ∃ bm N nm q bs hdct sn sub ab col dd k0 k1 k2 k3 k5 mN, h.get? C = some (excClassObj nm q C N bs bm hdct sn sub ab col dd k0 k1 k2 k3 k5 "ValueError.__new__") /\ h.Ns N mN /\ mN "__init__" = none /\ OwnTail h bmV bm := by
 unfold XCls W.excIn at x
 split at x
 case h_2 => cases x
 rename_i dd cd sl ho
 split at x
 case h_2 => cases x
 rename_i D bm k0 k1 k2 k3 n k5 em es
 simp only [Bool.and_eq_true, beq_iff_eq, Bool.not_eq_true'] at x
 obtain ⟨⟨⟨⟨⟨e1, e2⟩, e3⟩, e4⟩, e5⟩, e6⟩ := x
 subst e1 e2
 obtain ⟨nm, bs, mro, N, qn, hd, sn, sub, ab, col, del⟩ := cd
 have em : mro = .ref D :: bm := em
 have e3 : del = false := e3
 subst em e3
 have es : sl = #[k0, k1, k2, k3, some (.builtin "ValueError.__new__"), k5] := by
  rw [<- Array.toArray_toList (xs := sl), es]
 subst es
 exact ⟨bm, N, nm, qn, bs, hd, sn, sub, ab, col, dd, k0, k1, k2, k3, k5, _, I _ _ ho, .of_isNs (W.isNs_of_in I e5), W.nsMap_none_of_in I e5 e6, W.tail_of_in I e4⟩
noncomputable def Jb7 (c : Str) (a : A1) : S1 := fun σ h => rS σ (a σ h) fun vs h1 => if vs.length <= sizeLine then .exc h1.length σ (h1 ++ [.exc c []]) else .stuck
section
variable {ce : Str -> Option Addr} {X : Cx} {C : Addr} {x c : Str} {np cpos pos : Pos} {e : Expr} {es : List Expr} {ma : A1}
theorem Jza (hc : X.calm = true) (hg : Gl X x) (hm : X.mg x = some (.ref C)) (hC : W.nsIn X.K mainGlobals c = some (some (.ref C))) (xc : XCls X.K C) (ha : PAi ce X (e :: es) ma) (hdb : (x == ("__debug__" : Str)) = false := by decide)
  (he : starEach (e :: es) X.env = (false, eval e X.env) :: starEach es X.env := by rfl) (hpl : (backTo cpos (starEach es X.env)).any (·.1) = false := by rfl) : PS1 ce X (.Raise (some (.Call (.Name x np) (e :: es) [] cpos)) none pos) (Jb7 c ma) := by
 intro pins s σ H ι σi h Q E N K
 obtain ⟨bm, Na, nm, q, bs, hdct, sn, sub, ab, col, dd, k0, k1, k2, k3, k5, mN, hCo, hN, hni, T⟩ := xc.obj N.inv.mod.kin
 have hpa : (backTo cpos (starEach (e :: es) X.env)).any (·.1) = false := by
  rw [he]
  show (false || (backTo cpos (starEach es X.env)).any (·.1)) = false
  rw [hpl]
  rfl
 refine wpAny_Raise_call_subU (mN := mN) (nm := nm) (q := q) (N := Na) (bs := bs) (hdct := hdct) (sn := sn) (sub := sub) (ab := ab) (col := col) (dd := dd) (k0 := k0) (k1 := k1) (k2 := k2) (k3 := k3) (k5 := k5) F.excBase_ValueError (by decide) F.excBase_ValueError (T.hasType (by decide)) (N.inv.ok.hd hc) hpa hni (Jg4 N.inv hg hm ⟨rfl, ?_⟩ hdb)
 have hs := ha cpos
 rw [he] at hs ⊢
 refine Calls.evalArgs_plain (krun hs N K fun vs h1 us s1 H1 ι1 N1 n1 r1 K1 => ?_)
 change Jcj ce X pins ι1 H1 (if vs.length <= sizeLine then _ else _) Q E at K1
 split at K1
 case isFalse => exact K1.elim
 rename_i hz
 have kb := N1.inv.bk
 have hl : us.length = vs.length := by
  obtain ⟨ws, rv, qv⟩ := r1
  rw [<- rv.length, qv.length]
 refine ⟨rfl, by show us.length <= _; omega, kb _ _ hCo, hN.keeps kb, T.keeps kb, fun h' a M => ?_⟩
 obtain ⟨t, hat, _, _⟩ := M.there
 have hf : H1 a = none := by
  cases z : H1 a with
  | none => rfl
  | some u =>
   obtain ⟨o, z'⟩ := Jxd (N1.inv.hok a u z)
   rw [M.new] at z'
   cases z'
 obtain ⟨R2, n2⟩ := N1.rel.alloc (o := ExF a C .none) (io := .exc c []) hf ⟨rfl, C, .none, hC, Jk, .inl rfl⟩
 have kk : ∀ b u, s1.heap.get? b = some u -> h'.get? b = some u := fun b u q => M.keeps b u q
 have up : ∀ {b : Addr} {u : HO}, H1 b = some u -> upd H1 a (ExF a C .none) b = some u := fun {b u} q => by
  rw [Jg (fun z => by subst z; rw [hf] at q; cases q)]
  exact q
 have un : Un X.fs [] H1 (upd H1 a (ExF a C .none)) s1.heap h' :=
  ⟨fun b o q _ _ _ => kk b o q, fun b o q _ _ _ => ⟨o.slots, kk b o q⟩, fun b o q n _ => by rw [Jg (fun z => by subst z; rw [M.new] at q; cases q)]; exact n, fun b o q _ => ⟨o, kk b o q⟩, fun b xs q => up q, fun b o u q => up q, fun b ps q => ⟨#[], by rw [up q]; simp⟩⟩
 have ok : HOk X.prog X.w (upd H1 a (ExF a C .none)) h' := fun b u q => by
  by_cases z : b = a
  ·subst z
   rw [Jk] at q
   cases q
   exact ExF.ok hat rfl rfl rfl
  ·rw [Jg z] at q
   exact (N1.inv.hok b u q).stay (fun d v _ p => kk d v p) (fun d p => up p) fun d xs p => up p
 have I2 : Inv X pins σ (upd H1 a (ExF a C .none)) { s1 with heap := h' } := N1.inv.un (t' := s1.toks) un ok
 refine K1 [] a _ σ _ _ ⟨by simpa using I2, R2, N1.st.mono n2⟩ n2 ?_
 rw [<- N1.rel.len, List.getElem?_append_right (Nat.le_refl _)]
 simp
end
noncomputable abbrev Ja9 (X : Cx) (a : Addr) : Cx := { X with A := X.A.mark (some (.ref a)), calm := false }
section
variable {ce : Str -> Option Addr} {X : Cx} {a C : Addr} {pins : List (Addr × Obj)} {σ : L2.St} {H : Hp} {s : Shared} {ι : List Addr} {σi : ISt} {h : IH} {n : Nat} {c : Str} {fs : List (Str × IV)} {tv : Value}
theorem Jlw (I : Inv X pins σ H s) (a : Addr) : Inv (Ja9 X a) pins σ H s :=
 ⟨⟨I.ok.mod, I.ok.kind, I.ok.glob, I.ok.blt, I.ok.above, I.ok.inj, I.ok.has, I.ok.cab, nofun, I.ok.frames, I.ok.stk, I.ok.exf, I.ok.bs, I.ok.bsz, I.ok.noex, I.ok.exfs, I.ok.funs, I.ok.frf⟩, I.os, I.bare, I.base, I.loc, I.cell, I.free, I.freeC, I.pin, I.hok, I.len⟩
theorem Jlh (ok : X.Ok) (I : Inv (Ja9 X a) pins σ H s) : Inv X pins σ H s :=
 ⟨ok, I.os, I.bare, I.base, I.loc, I.cell, I.free, I.freeC, I.pin, I.hok, I.len⟩
theorem _root_.L2.Inv.fewer {pins' : List (Addr × Obj)} (I : Inv X pins σ H s) (k : ∀ p ∈ X.pn ++ pins', p ∈ X.pn ++ pins) : Inv X pins' σ H s :=
 ⟨I.ok, I.os, I.bare, I.base, I.loc, I.cell, I.free, I.freeC, fun p hp => I.pin p (k p hp), I.hok, I.len⟩
theorem Jvs {T : Addr} {oT : Obj} {h' : Heap} (N : Now ce X pins ι σi h σ H s) (hj : h[n]? = some (.exc c fs)) (hi : ι[n]? = some a) (hC : W.nsIn X.K mainGlobals c = some (some (.ref C))) (ha : H a = some (ExF a C tv)) (p : Past X H s.heap a C T oT h') :
  Now ce X pins ι σi h σ (upd (upd H T (.frz oT (.own 0))) a (ExF a C (.ref T))) { s with heap := h' } /\ Nxt ι H ι (upd (upd H T (.frz oT (.own 0))) a (ExF a C (.ref T))) := by
 obtain ⟨fe, _⟩ := Jwr N.rel hj hi
 obtain ⟨R4, n4⟩ := N.rel.grow (o := .frz oT (.own 0)) p.new
 have ha4 : upd H T (.frz oT (.own 0)) a = some (ExF a C tv) := by rw [Jg (Ne.symm p.ne)]; exact ha
 obtain ⟨R5, n5⟩ := R4.write hi ha4 (by rw [ha4]; trivial) (o := ExF a C (.ref T)) (io := .exc c fs) ⟨fe, C, .ref T, hC, Jk, .inr ⟨T, oT, _, rfl, by rw [Jg p.ne, Jk], p.fld.choose_spec⟩⟩
 rw [Jmk hj] at R5
 have I := N.inv.call (g' := s.gens) (t' := s.toks) (d' := s.drawn) (ch := []) p.un p.hok N.inv.bare fun b z => absurd z (by simp)
 exact ⟨⟨I, R5, N.st.mono (n4.trans n5)⟩, n4.trans n5⟩
theorem Jod {M : Model} {A : Around} {Q : Unit -> Shared -> Prop} {E : Value -> Shared -> Prop} (ok : HOk X.prog X.w H s.heap) (ha : H a = some (ExF a C tv)) (ht : TvOk H tv) (k : ∀ h', (∀ b o, s.heap.get? b = some o -> h'.get? b = some o) -> Q () { s with heap := h' }) :
  wpAny M A (setFlight (.ref a) none) Q E s := by
 obtain ⟨oe, vs, e1, e2, e3, e4⟩ := ExF.get ok ha
 unfold setFlight
 refine wpAny_bind (wpAny_field e1 e3 e4 ?_)
 rcases ht with rfl | ⟨T, oT, ts, rfl, q1, q2, q3⟩
 ·rw [if_neg (by decide)]
  exact wpAny_pure (k s.heap fun _ _ q => q)
 ·have gT : s.heap.get? T = some oT := (ok T _ q1).1
  rw [if_pos (by simp)]
  refine wpAny_setField gT q2 (Array.getElem?_eq_some_iff.mp q3).1 (k _ fun b o q => ?_)
  by_cases z : b = T
  ·subst z
   rw [gT] at q
   cases q
   exact Jul gT q2 q3
  ·rw [Heap.get?_update_other _ _ (Ne.symm z)]
   exact q
theorem Jvq {M : Model} {A : Around} {E : Value -> Shared -> Prop} {Q : Unit -> Shared -> Prop} {i : Nat} {x : Str} {pos : Pos} (I : Inv X pins σ H s) (hN : X.N.Nodup) (hi : X.N[i]? = some x) (hx : X.env.kindOf x = some .local) (k : ∀ s', Inv X pins (σ.set i none) H s' -> Q () s') :
  wpAny M A (do bindName X.env x .none; unbindBehindTheSuite X.env x pos) Q E s := by
 obtain ⟨m, hn, hl⟩ := id I.loc
 have hcls : (X.env.scope.kind == .class || (X.env.scope.kind == .module && X.env.locals != X.env.globals)) = false := by rw [I.ok.kind]; rfl
 have cne := I.cne
 refine wpAny_nameGoes_keeps hx hn hcls fun h' v hn' hs => ?_
 have up : ∀ {b : Addr} {o : Obj}, X.s₀.heap.get? b = some o -> b ≠ X.env.locals := fun e => Nat.ne_of_lt (Nat.lt_of_lt_of_le (Heap.lt_size e) I.ok.above)
 refine k _ ⟨I.ok, I.os, I.bare, ⟨fun b o e nn hb hx => ?_, fun b o e nn hb hx => ?_, I.base.free, fun b o e hx => ?_, I.base.tups, I.base.frzs, I.base.tbls⟩, ⟨_, hn', fun j y w e1 e2 e3 => ?_⟩, fun y cc e => ?_, I.free, I.freeC, fun p hp => ?_, fun b ob e => ?_, by rw [List.length_set]; exact I.len⟩
 ·exact (hs.2 b (up e)).trans (I.base.keep b o e nn hb hx)
 ·obtain ⟨sl, e1⟩ := I.base.slot b o e nn hb hx
  exact ⟨sl, (hs.2 b (up e)).trans e1⟩
 ·obtain ⟨o', e1⟩ := I.base.there b o e hx
  exact ⟨o', (hs.2 b (up e)).trans e1⟩
 ·by_cases z : j = i
  ·subst z
   have hj : j < σ.length := by rw [I.len]; exact (List.getElem?_eq_some_iff.mp hi).1
   rw [List.getElem?_set_self hj] at e2
   cases e2
  ·rw [List.getElem?_set_ne (Ne.symm z)] at e2
   obtain ⟨u, r, q⟩ := hl j y w e1 e2 e3
   refine ⟨u, r, ?_⟩
   rcases q with ⟨q1, q2⟩ | ⟨q1, cc, q2, q3⟩
   ·refine .inl ⟨q1, ?_⟩
    show (if y = x then v else m y) = some u
    rw [if_neg (show ¬ y = x from fun z2 => z (Jmi hN e1 (by rw [z2]; exact hi)))]
    exact q2
   ·exact .inr ⟨q1, cc, q2, q3.sameBut hs (cne y cc q2)⟩
 ·obtain ⟨w', z⟩ := I.cell y cc e
  exact ⟨w', z.sameBut hs (cne y cc e)⟩
 ·obtain ⟨e, nn, ne, nf, d⟩ := I.pin p hp
  exact ⟨(hs.2 p.1 ne).trans e, nn, ne, nf, d⟩
 ·have nb : ∀ {d : Addr} {u : HO}, H d = some u -> d ≠ X.env.locals := fun q z => by rw [z, I.free] at q; cases q
  refine (I.hok b ob e).stay (fun d w' hc q => (hs.2 d ?_).trans q) (fun _ q => q) fun _ _ q => q
  rcases hc with rfl | hc
  ·exact nb e
  ·exact nb hc
end
theorem RSt.unset {K : W.Frag} {ι : List Addr} {H : Hp} {σi : ISt} {σ : L2.St} (r : RSt K ι H σi σ) (i : Nat) : RSt K ι H (σi.set i none) (σ.set i none) := by
 refine ⟨by simp [r.len], fun j w e => ?_⟩
 by_cases z : j = i
 ·subst z
  have hl : j < σi.length := by
   have := (List.getElem?_eq_some_iff.mp e).1
   simpa using this
  rw [List.getElem?_set_self hl] at e
  cases e
 ·rw [List.getElem?_set_ne (Ne.symm z)] at e
  obtain ⟨u, e1, q1⟩ := r.at_ j w e
  exact ⟨u, by rw [List.getElem?_set_ne (Ne.symm z)]; exact e1, q1⟩
noncomputable abbrev HdI := (Str -> Option Bool) × Option Nat × S1
noncomputable def Jlx (sl : Option Nat) (x : Option IV) (σ : ISt) : ISt := match sl with
 | some i => σ.set i x
 | none => σ
noncomputable def SRes.drop (sl : Option Nat) (r : SRes) : SRes := match r with
 | .next σ h => .next (Jlx sl none σ) h
 | .brk σ h => .brk (Jlx sl none σ) h
 | .cont σ h => .cont (Jlx sl none σ) h
 | .ret v h => .ret v h
 | _ => .stuck
noncomputable def Jf1 : List HdI -> Str -> Nat -> S1
 | [], _, _ => fun _ _ => .stuck
 | q :: r, c, n => fun σ h => match q.1 c with
  | some true => (q.2.2 (Jlx q.2.1 (some (.ref n)) σ) h).drop q.2.1
  | some false => Jf1 r c n σ h
  | none => .stuck
noncomputable def sTry (b : S1) (hs : List HdI) : S1 := fun σ h => match b σ h with
 | .exc n σ1 h1 => (match h1[n]? with
  | some (.exc c _) => Jf1 hs c n σ1 h1
  | _ => .stuck)
 | r => r
structure HdOk (ce : Str -> Option Addr) (X : Cx) (t : Expr) (nm : Option Str) (suite : List Stmt) (f : Str -> Option Bool) (sl : Option Nat) (m : S1) : Prop where
 test : ∀ (a : Addr) (c : Str) (C : Addr) (b : Bool) (pins : List (Addr × Obj)) (σ : L2.St) (H : Hp) (s : Shared) (Q : Bool -> Shared -> Prop) (E : Value -> Shared -> Prop), f c = some b -> W.nsIn X.K mainGlobals c = some (some (.ref C)) -> Inv (Ja9 X a) pins σ H s -> (∃ oe, s.heap.get? a = some oe /\ oe.cls = .ref C) -> Q b s ->
  wpAny (model X.prog X.w) (Ja9 X a).A (eval t X.env) (fun v s₁ => wpAny (model X.prog X.w) (Ja9 X a).A (excMatches (.ref a) v) Q E s₁) E s
 nm : (nm = none /\ sl = none) ∨ ∃ n i, nm = some n /\ sl = some i /\ X.N[i]? = some n /\ X.env.kindOf n = some .local
 run : ∀ a, PS2 ce (Ja9 X a) suite m
inductive HdsOk (ce : Str -> Option Addr) (X : Cx) : List ExceptHandler -> List HdI -> Prop
 | nil : HdsOk ce X [] []
 | cons {t : Expr} {nm : Option Str} {b₀ : Stmt} {suite : List Stmt} {pos : Pos} {f : Str -> Option Bool} {sl : Option Nat} {m : S1} {hs : List ExceptHandler} {ms : List HdI} : HdOk ce X t nm (b₀ :: suite) f sl m -> HdsOk ce X hs ms -> HdsOk ce X (.ExceptHandler (some t) nm (b₀ :: suite) pos :: hs) ((f, sl, m) :: ms)
section
variable {ce : Str -> Option Addr} {X : Cx}
theorem Juh (hN : X.N.Nodup) {hs : List ExceptHandler} {ms : List HdI} (O : HdsOk ce X hs ms) {a : Addr} {pins : List (Addr × Obj)} {σ : L2.St} {H : Hp} {s : Shared} {ι : List Addr} {σi : ISt} {h : IH} {n : Nat} {c : Str} {fs : List (Str × IV)} {Q : Flow -> Shared -> Prop} {E : Value -> Shared -> Prop}
  (N : Now ce X pins ι σi h σ H s) (hj : h[n]? = some (.exc c fs)) (hi : ι[n]? = some a) (K : Jcj ce X pins ι H (Jf1 ms c n σi h) Q E) : wpAny (model X.prog X.w) X.A (handleBy (.ref a) X.env hs) Q E s := by
 obtain ⟨fe, C, tv, hC, ha, ht⟩ := Jwr N.rel hj hi
 obtain ⟨oe, vs, e1, e2, _⟩ := ExF.get N.inv.hok ha
 induction O with
 | nil => exact Zf K
 | @cons t nm b₀ suite pos f sl m hs ms o O ih =>
  unfold Jf1 at K
  dsimp only at K
  cases hb : f c with
  | none => rw [hb] at K; exact Zf K
  | some b =>
   rw [hb] at K
   refine wpAny_handleBy_cons (codeAny_handlers_test (o.test a c C b pins σ H s _ _ hb hC (Jlw N.inv a) ⟨oe, e1, e2⟩ ?_)) (by intro q; cases q)
   cases b with
   | false => exact ih K
   | true =>
    dsimp only at K
    rcases o.nm with ⟨rfl, rfl⟩ | ⟨x, i, rfl, rfl, hx, hk⟩
    ·have K : Jcj ce X pins ι H ((m σi h).drop none) Q E := K
     refine codeAny_handlers_suite (Jod N.inv.hok ha ht fun h' kp => ?_)
     have N2 : Now ce (Ja9 X a) pins ι σi h σ H { s with heap := h' } := ⟨Jlw (N.inv.kept (t' := s.toks) kp) a, N.rel, N.st⟩
     refine o.run a pins _ σ H ι σi h _ _ N2 ?_
     have un : ∀ {pins : List (Addr × Obj)} {ι : List Addr} {σi : ISt} {h : IH} {σ : L2.St} {H : Hp} {s : Shared}, Now ce (Ja9 X a) pins ι σi h σ H s -> Now ce X pins ι σi h σ H s := fun q => ⟨Jlh N.inv.ok q.inv, q.rel, q.st⟩
     cases em : m σi h with
     | next σ2 h2 => rw [em] at K; exact fun s3 σ3 H3 ι3 N3 n3 => K s3 σ3 H3 ι3 (un N3) n3
     | brk σ2 h2 => rw [em] at K; exact fun s3 σ3 H3 ι3 N3 n3 => K s3 σ3 H3 ι3 (un N3) n3
     | cont σ2 h2 => rw [em] at K; exact fun s3 σ3 H3 ι3 N3 n3 => K s3 σ3 H3 ι3 (un N3) n3
     | ret v h2 => rw [em] at K; exact fun u s3 σ2 σ3 H3 ι3 N3 n3 r3 => K u s3 σ2 σ3 H3 ι3 (un N3) n3 r3
     | exc k σ2 h2 => rw [em] at K; exact Zf K
     | stuck => rw [em] at K; exact Zf K
    ·have K : Jcj ce X pins ι H ((m (σi.set i (some (.ref n))) h).drop (some i)) Q E := K
     refine codeAny_handlers_suite_as (Jod N.inv.hok ha ht fun h' kp => ?_)
     have I2 : Inv (Ja9 X a) pins σ H { s with heap := h' } := Jlw (N.inv.kept (t' := s.toks) kp) a
     refine Jjz (X := Ja9 X a) (v := V.ref a) I2 hN hx (.inl hk) rfl (fun s3 I3 => ?_) (.inr hk)
     have N3 : Now ce (Ja9 X a) pins ι (σi.set i (some (.ref n))) h (σ.set i (some (V.ref a))) H s3 := ⟨I3, N.rel, N.st.set i ⟨a, rfl, hi⟩⟩
     refine o.run a pins _ _ H ι _ h _ _ N3 ?_
     have fin : ∀ {ι3 : List Addr} {σ2 : ISt} {h2 : IH} {σ3 : L2.St} {H3 : Hp} {s3 : Shared} {W : Unit -> Shared -> Prop}, Now ce (Ja9 X a) pins ι3 σ2 h2 σ3 H3 s3 -> (∀ s4, Now ce X pins ι3 (σ2.set i none) h2 (σ3.set i none) H3 s4 -> W () s4) -> wpAny (model X.prog X.w) X.A (do bindName X.env x .none; unbindBehindTheSuite X.env x pos) W E s3 := fun q k =>
      Jvq (Jlh N.inv.ok q.inv) hN hx hk fun s4 I4 => k s4 ⟨I4, q.rel, q.st.unset i⟩
     cases em : m (σi.set i (some (.ref n))) h with
     | next σ2 h2 => rw [em] at K; exact fun s3 σ3 H3 ι3 N3 n3 => fin N3 fun s4 N4 => K s4 _ H3 ι3 N4 n3
     | brk σ2 h2 => rw [em] at K; exact fun s3 σ3 H3 ι3 N3 n3 => fin N3 fun s4 N4 => K s4 _ H3 ι3 N4 n3
     | cont σ2 h2 => rw [em] at K; exact fun s3 σ3 H3 ι3 N3 n3 => fin N3 fun s4 N4 => K s4 _ H3 ι3 N4 n3
     | ret v h2 => rw [em] at K; exact fun u s3 σ2 σ3 H3 ι3 N3 n3 r3 => fin N3 fun s4 N4 => K u s4 _ _ H3 ι3 N4 n3 r3
     | exc k σ2 h2 => rw [em] at K; exact Zf K
     | stuck => rw [em] at K; exact Zf K
end
section
variable {ce : Str -> Option Addr} {X : Cx}
theorem s_try {body : List Stmt} {mb : S1} {h₀ : ExceptHandler} {hs : List ExceptHandler} {ms : List HdI} {pos : Pos} (hN : X.N.Nodup) (hk : X.stack = X.env :: X.outer) (hf : X.env.frame = some X.env.locals) (hb : PS2 ce X body mb) (O : HdsOk ce X (h₀ :: hs) ms) : PS1 ce X (.Try body (h₀ :: hs) [] [] pos) (sTry mb ms) := by
 intro pins s σ H ι σi h Q E N K
 unfold sTry at K
 refine wpAny_Try_except (hb pins s σ H ι σi h _ _ N ?_)
 cases e : mb σi h with
 | next σ2 h2 => rw [e] at K; exact fun s3 σ3 H3 ι3 N3 n3 => wpAny_execs_nil (K s3 σ3 H3 ι3 N3 n3)
 | brk σ2 h2 => rw [e] at K; exact K
 | cont σ2 h2 => rw [e] at K; exact K
 | ret v h2 => rw [e] at K; exact K
 | stuck => rw [e] at K; exact K
 | exc n σ2 h2 =>
  rw [e] at K
  dsimp only at K
  cases hj : h2[n]? with
  | none => rw [hj] at K; exact Zf K
  | some ob =>
   cases ob with
   | exc c fs =>
    rw [hj] at K
    intro pl a s3 σ3 H3 ι3 N3 n3 hi
    have N3 : Now ce X pins ι3 σ2 h2 σ3 H3 s3 := ⟨N3.inv.fewer fun p hp => List.mem_append.mpr ((List.mem_append.mp hp).imp_right fun z => List.mem_append_left _ z), N3.rel, N3.st⟩
    obtain ⟨fe, C, tv, hC, ha, ht⟩ := Jwr N3.rel hj hi
    refine Jq4 N3.inv hk hf ha ht fun T oT h' p => ?_
    obtain ⟨N4, n4⟩ := Jvs N3 hj hi hC ha p
    exact Juh hN O N4 hj hi (Jcj.mono (r := Jf1 ms c n σ2 h2) K (n3.trans n4))
   | _ => rw [hj] at K; exact Zf K
end
end L3
namespace L3
open PySem PySem.Spec PyProof.Rows L2
noncomputable def Jgg : List IV -> Option (List Nat)
 | [] => some []
 | .ref i :: r => (Jgg r).map (i :: ·)
 | _ :: _ => none
theorem Jpd {K : W.Frag} {ι : List Addr} {H : Hp} : ∀ {xs ys : List IV} {ns : List Nat} {vs ws : List V}, Jgg xs = some ns -> Jgg ys = some ns -> RVs K ι H xs vs -> RVs K ι H ys ws -> vs = ws /\ ∀ us us', Vals vs us -> Vals ws us' -> us = us'
 | [], [], _, _, _, _, _, r1, r2 => by
  cases (show _ = [] from r1)
  cases (show _ = [] from r2)
  exact ⟨rfl, fun us us' q q' => by cases q; cases q'; rfl⟩
 | [], y :: ys, ns, _, _, e1, e2, _, _ => by
  cases e1
  cases y with
  | ref j => cases e : Jgg ys with | none => rw [Jgg, e] at e2; cases e2 | some l => rw [Jgg, e] at e2; cases e2
  | _ => cases e2
 | x :: xs, [], ns, _, _, e1, e2, _, _ => by
  cases e2
  cases x with
  | ref j => cases e : Jgg xs with | none => rw [Jgg, e] at e1; cases e1 | some l => rw [Jgg, e] at e1; cases e1
  | _ => cases e1
 | x :: xs, y :: ys, ns, vs, ws, e1, e2, r1, r2 => by
  cases x with
  | ref i =>
   cases y with
   | ref j =>
    rw [Jgg] at e1 e2
    obtain ⟨l1, e3, e4⟩ := Option.map_eq_some_iff.mp e1
    obtain ⟨l2, e5, e6⟩ := Option.map_eq_some_iff.mp e2
    rw [<- e6] at e4
    obtain ⟨rfl, rfl⟩ := List.cons.inj e4
    obtain ⟨v, vr, rfl, ⟨a, rfl, ha⟩, q1⟩ := r1
    obtain ⟨w, wr, rfl, ⟨b, rfl, hb⟩, q2⟩ := r2
    rw [ha] at hb
    cases hb
    obtain ⟨rfl, k⟩ := Jpd e3 e5 q1 q2
    refine ⟨rfl, fun us us' q q' => ?_⟩
    cases q with
    | cons u1 u2 =>
     cases q' with
     | cons u3 u4 =>
      cases u1
      cases u3
      rw [k _ _ u2 u4]
   | _ => cases e2
  | _ => cases e1
noncomputable def Jt7 (x y : IV) (h : IH) : Bool := match x, y with
 | .ref i, .ref j => (match h[i]?, h[j]? with
  | some (.lst xs), some (.lst ys) => (match Jgg xs with
   | some a => decide (Jgg ys = some a)
   | none => false)
  | _, _ => false)
 | _, _ => false
theorem Jvr {x y : IV} {h : IH} (e : Jt7 x y h = true) : ∃ i j xs ys ns, x = .ref i /\ y = .ref j /\ h[i]? = some (.lst xs) /\ h[j]? = some (.lst ys) /\ Jgg xs = some ns /\ Jgg ys = some ns := by
 cases x with
 | ref i =>
  cases y with
  | ref j =>
   unfold Jt7 at e
   dsimp only at e
   split at e
   ·rename_i xs ys hi hj
    split at e
    ·rename_i a ha
     exact ⟨i, j, xs, ys, a, rfl, rfl, hi, hj, ha, of_decide_eq_true e⟩
    ·cases e
   ·cases e
  | _ => cases e
 | _ => cases e
noncomputable def cNeO (x y : IV) (h : IH) : Res IV := if Jt7 x y h = true then .ok (.bl false) h else cNe x y h
section
variable {ce : Str -> Option Addr} {X : Cx}
theorem o_neO (hu : X.A.units + 64 < cLine) : OpI ce X (compareOp .NotEq) cNeO := by
 intro pins s σ H ι σi h x y v u Q E N rx ry K
 unfold cNeO at K
 split at K
 ·rename_i e
  obtain ⟨i, j, xs, ys, ns, rfl, rfl, hi, hj, e1, e2⟩ := Jvr e
  obtain ⟨xv, rx, a, rfl, ha⟩ := rx
  obtain ⟨yv, ry, b, rfl, hb⟩ := ry
  cases rx
  cases ry
  obtain ⟨vs, g1, r1⟩ := N.at hi ha
  obtain ⟨ws, g2, r2⟩ := N.at hj hb
  obtain ⟨its, rv, pl, _⟩ := N.inv.list (SqL.of g1)
  obtain ⟨its2, rv2, pl2, _⟩ := N.inv.list (SqL.of g2)
  obtain ⟨_, k⟩ := Jpd e1 e2 r1 r2
  have ee := k _ _ rv rv2
  subst ee
  have w : PySem.SeqAt.RcNeAt X.A s (.ref a) (.ref b) (!(List.range its.toArray.size).all fun _ => true) := PySem.SeqAt.RcNeAt.lists pl.isList pl2.isList rfl (by omega) fun j h1 h2 => PySem.SeqAt.EqAt.same _
  have z : (!(List.range its.toArray.size).all fun _ => true) = false := by simp
  rw [z] at w
  exact w X.prog X.w E Q (fin0 N K rfl _ s N.inv rfl)
 ·exact o_ne hu pins s σ H ι σi h x y v u Q E N rx ry K
noncomputable def slT : IV -> Option Int -> Option Int -> IH -> Res IV
 | .str x, lo, hi, h => if x.length <= sizeLine then .ok (.str (Txt.slice x lo hi)) h else .stuck
 | x, lo, hi, h => slI x lo hi h
theorem x_slT : SlI ce X slT := by
 intro pins s σ H ι σi h x v vl vu lo hi sl Q E N rx hs pl pu K
 cases x with
 | str x =>
  obtain ⟨xv, rx, qx⟩ := rx
  cases (show xv = .str x from qx)
  obtain ⟨t, rfl⟩ := rx
  dsimp only [slT] at K
  split at K
  ·rename_i hz
   refine ⟨"str", _, F.slot_str_getitem.lookup, typeIs_str _ _ _, ?_⟩
   cases pl with
   | none =>
    cases pu with
    | none => exact wpAny_getItem_str_slice (l := none) (u := none) (st := none) hs rfl (post_val_or_str ⟨Nat.le_trans (Txt.slice_le x _ _) hz, fun t' k => fin0 N K rfl _ _ (N.inv.tok _) ⟨_, rfl⟩⟩)
    | int j tj => exact wpAny_getItem_str_slice (l := none) (u := some (j, tj)) (st := none) hs rfl (post_val_or_str ⟨Nat.le_trans (Txt.slice_le x _ _) hz, fun t' k => fin0 N K rfl _ _ (N.inv.tok _) ⟨_, rfl⟩⟩)
   | int i ti =>
    cases pu with
    | none => exact wpAny_getItem_str_slice (l := some (i, ti)) (u := none) (st := none) hs rfl (post_val_or_str ⟨Nat.le_trans (Txt.slice_le x _ _) hz, fun t' k => fin0 N K rfl _ _ (N.inv.tok _) ⟨_, rfl⟩⟩)
    | int j tj => exact wpAny_getItem_str_slice (l := some (i, ti)) (u := some (j, tj)) (st := none) hs rfl (post_val_or_str ⟨Nat.le_trans (Txt.slice_le x _ _) hz, fun t' k => fin0 N K rfl _ _ (N.inv.tok _) ⟨_, rfl⟩⟩)
  ·exact Zf K
 | _ => exact x_sl pins s σ H ι σi h _ v vl vu lo hi sl Q E N rx hs pl pu K
noncomputable def Jlo : IV -> List IV -> IH -> Res IV
 | .str x, [], h => if 3 * x.length <= sizeLine then .ok (.str (Txt.upper x)) h else .stuck
 | _, _, _ => .stuck
theorem Jyn : MtI ce X "str" "str.upper" Jlo := by
 intro pins s σ H ι σi h x xs v us Q E N rx rs K
 obtain ⟨xv, rx, qx⟩ := rx
 obtain ⟨vs, rv, qs⟩ := rs
 cases x with
 | str x =>
  cases (show xv = .str x from qx)
  obtain ⟨t, rfl⟩ := rx
  match xs, K with
  | [], K =>
   cases (show vs = [] from qs)
   cases rv
   dsimp only [Jlo] at K
   split at K
   ·rename_i hz
    exact SC.upper (decide_eq_false (by have := PyProof.Rows.len_upper x; omega)) (fin0 N K rfl _ _ (N.inv.tok _) ⟨_, rfl⟩)
   ·exact Zf K
  | _ :: _, K => exact Zf K
 | _ => cases xs <;> exact Zf K
end
end L3
namespace L4
open PySem PySem.Spec PyProof.Rows L2 L3
noncomputable def stE : E1 := fun _ _ => .stuck
noncomputable def stT : T1 := fun _ _ => .stuck
noncomputable def stO : O1 := fun _ _ => .stuck
noncomputable def stI : I1 := fun _ _ => .stuck
noncomputable def stG : G1 := fun _ _ _ => .stuck
noncomputable def stS : S1 := fun _ _ => .stuck
structure Fn where
 np : Nat
 dvs : List IV
 run : List IV -> IH -> Res IV
structure Pg where
 fn : Str -> Option Fn
 cls : Str -> Option Fn
 meth : Str -> Str -> Option Fn
 con : Str -> Option IV
 isa : Str -> Option (Str -> Bool)
 fld : Str -> Bool
 free : Str -> Bool
 tabs : Str -> Option Nat
 rz : Str -> Bool
 xi : Str -> Option (Str -> Option Bool)
structure Sc where
 N : List Str
 names : List (Str × NameKind)
 own : Bool
 q : Str
noncomputable def ixOf (x : Str) : List Str -> Option Nat
 | [] => none
 | y :: r => if y == x then some 0 else (ixOf x r).map (· + 1)
noncomputable def Sc.vis (S : Sc) (x : Str) : Option Nat :=
 match S.names.lookup x with
 | some .local => if x == "__debug__" || x == "__classdict__" then none else ixOf x S.N
 | some .cell => if x == "__debug__" || x == "__classdict__" then none else ixOf x S.N
 | some .free => if x == "__debug__" || x == "__classdict__" then none else ixOf x S.N
 | _ => none
noncomputable def Sc.gl (S : Sc) (x : Str) : Bool := S.names.lookup x == some .globalImplicit && !(x == "__debug__") && !(x == "__name__")
noncomputable def Sc.sto (S : Sc) (x : Str) : Option Nat :=
 match S.names.lookup x with
 | some .local => ixOf x S.N
 | some .cell => if S.own then ixOf x S.N else none
 | _ => none
noncomputable def evC : Const -> E1
 | .int i => eC (.int i)
 | .bool b => eC (.bl b)
 | .none => eC .non
 | .str x => eC (.str x)
 | _ => stE
noncomputable def binI : Operator -> IV -> IV -> IH -> Res IV
 | .Add => Jam
 | .Sub => Jl5
 | .Mult => Jbe
 | .FloorDiv => Jdb
 | .Mod => Jbj
 | .Pow => Jkx
 | _ => fun _ _ _ => .stuck
noncomputable def cmpI : CmpOp -> IV -> IV -> IH -> Res IV
 | .Lt => cLt
 | .LtE => cLe
 | .Gt => cGt
 | .GtE => cGe
 | .Eq => cEq
 | .NotEq => cNe
 | .Is => cIs
 | .IsNot => Ju3
 | .In => cIn
 | .NotIn => Jj9
noncomputable def unI : UnaryOp -> IV -> IH -> Res IV
 | .Not => Jpa tru
 | .USub => Jvy
 | _ => fun _ _ => .stuck
noncomputable def Jwd : List E1 -> E1
 | [] => stE
 | [a] => a
 | a :: b :: r => eAnd a (Jwd (b :: r)) tru
noncomputable def eOrs : List E1 -> E1
 | [] => stE
 | [a] => a
 | a :: b :: r => eOr a (eOrs (b :: r)) tru
noncomputable def Jwy : List T1 -> T1
 | [] => stT
 | [a] => a
 | a :: b :: r => Jn0 a (Jwy (b :: r))
noncomputable def tOrs : List T1 -> T1
 | [] => stT
 | [a] => a
 | a :: b :: r => tOrI a (tOrs (b :: r))
noncomputable def aAll : List E1 -> A1
 | [] => aNil
 | a :: r => Ja a (aAll r)
noncomputable def Jn : Expr -> Bool
 | .Starred .. => false
 | _ => true
noncomputable def Jrm : Expr -> Bool
 | .Set .. => false
 | _ => true
noncomputable def Jto : Expr -> Bool
 | .Slice .. => false
 | _ => true
noncomputable def Jfx : Expr -> Bool
 | .ListComp .. => false
 | .SetComp .. => false
 | .DictComp .. => false
 | _ => true
noncomputable def Jfs : Expr -> Bool
 | .Call (.Name ..) [] [] _ => false
 | _ => true
noncomputable def isM1 : Expr -> Bool
 | .UnaryOp .USub (.Constant (.int 1) _ _) _ => true
 | _ => false
noncomputable def Fn.fill (f : Fn) (n : Nat) : Option (List IV) := if n <= f.np /\ f.np <= n + f.dvs.length then some (f.dvs.drop (f.dvs.length - (f.np - n))) else none
noncomputable def Jqq (f : Fn) (n : Nat) (a : A1) : E1 := match f.fill n with
 | some d => Jy f.run d a
 | none => stE
noncomputable def Jqu (c : Str) (f : Fn) (n : Nat) (a : A1) : E1 := match f.fill (n + 1) with
 | some d => Jkq c f.run d a
 | none => stE
noncomputable def bltF (x : Str) : List IV -> IH -> Res IV :=
 if x == "len" then on1 lenI else if x == "all" then on1 allI else if x == "sum" then on1 sumI else fun _ _ => .stuck
noncomputable def bltT (x : Str) : List IV -> IH -> Res IV :=
 if x == "list" then on1 Jl3 else if x == "tuple" then on1 Jku else if x == "int" then on1 intI else fun _ _ => .stuck
noncomputable def Jsz (x : Str) : Bool := x == "len" || x == "all" || x == "sum"
noncomputable def Jun (x : Str) : Bool := x == "list" || x == "tuple" || x == "int"
noncomputable def Jwk (P : Pg) (x : Str) : Option (Ty -> Option Bool) :=
 match P.isa x with
 | some g => some fun t => match t with | .ins c => some (g c) | .exc _ => none | _ => some false
 | none => if P.free x then (if x == "int" then some Jbk else if x == "bool" then some Jaj else if x == "str" then some Jaw else if x == "list" then some Jan else if x == "tuple" then some Jbu else none) else none
noncomputable def Jze (o : Option (Ty -> Option Bool)) (e : E1) : E1 := match o with
 | some ans => eIsi ans e
 | none => stE
noncomputable def bmOf (T : String) (m : Str) (n : Nat) : Option (IV -> List IV -> IH -> Res IV) :=
 if T == "list" && m == "append" && n == 1 then some Ji8 else if T == "list" && m == "reverse" && n == 0 then some Jim else if T == "str" && m == "upper" && n == 0 then some Jlo else none
noncomputable def Jk4 (P : Pg) (m : Str) (n : Nat) : Str -> Option ((List IV -> IH -> Res IV) × List IV) := fun c => match P.meth c m with
 | some f => (match f.fill (n + 1) with
  | some d => some (f.run, d)
  | none => none)
 | none => none
noncomputable def Jpe (v : IV) (h : IH) : Bool := match v with
 | .ref i => (match h[i]? with
  | some (.ins ..) => true
  | _ => false)
 | _ => false
noncomputable def tyS (v : IV) (h : IH) : String := match v with
 | .str _ => "str"
 | .rol _ => "list"
 | .ref i => (match h[i]? with
  | some (.lst _) => "list"
  | some (.dct _) => "dict"
  | _ => "")
 | _ => ""
noncomputable def eDot (P : Pg) (m : Str) (n : Nat) (o : E1) (a : A1) : E1 := fun σ h => match o σ h with
 | .ok v h1 => if Jpe v h1 then Jtp m (Jk4 P m n) o a σ h else (match bmOf (tyS v h1) m n with
  | some g => eBm (tyS v h1) g o a σ h
  | none => .stuck)
 | _ => .stuck
noncomputable def J1f (n : Nat) (a : A1) : I1 := match n with
 | 1 => iRg Jc8 a
 | 2 => iRg Jke a
 | _ => stI
noncomputable def gAll : List G1 -> List IV -> ISt -> IH -> SRes
 | [] => gN
 | g :: r => gC g (gAll r)
noncomputable def Jl8 (sc : Scope) : List Str := sc.names.filterMap fun x => if x.2 == .local && !(x.1 == (".0" : Str)) then some x.1 else none
noncomputable def Jkv (sc : Scope) : List Str := sc.names.filterMap fun x => if x.2 == .free then some x.1 else none
noncomputable def jsOf (S : Sc) (sc : Scope) : List Nat := (Jkv sc).map fun x => (ixOf x S.N).getD 0
noncomputable def Sc.comp (S : Sc) (sc : Scope) : Sc where
 N := Jl8 sc ++ Jkv sc
 names := sc.names.map fun x => if x.2 == .free && S.names.lookup x.1 == some .cell then (x.1, .cell) else x
 own := false
 q := ""
noncomputable def Jzj (S : Sc) (x : Str) (sc : Scope) : Bool :=
 sc.kind == .function && !sc.isCoroutine && !sc.isGenerator && sc.names.all (fun y => !(y.2 == .cell)) && sc.names.lookup x == some .local && sc.names.all (fun y => !(y.2 == .free) || S.names.lookup y.1 == some .cell)
  && (Jkv sc).all (fun y => decide (S.N[(ixOf y S.N).getD 0]? = some y) && sc.names.lookup y == some .free) && decide (x :: Jkv sc).Nodup
noncomputable def Sc.fake (S : Sc) : Scope := { kind := .function, names := S.names, isGenerator := false, isCoroutine := false }
noncomputable def Jxl : Expr -> Bool
 | .Name x _ => x == "last_come" || x == "tops" || x == "last" || x == "_law_last"
 | _ => false
noncomputable def ixD (_ : Expr) : IV -> IV -> IH -> Res IV := opIx
noncomputable def objNm : Expr -> Bool
 | .Name x _ => x == "_law_works"
 | _ => false
noncomputable def txtB : Expr -> Bool
 | .Name x _ => x == "_law_word_here"
 | .Subscript .. => true
 | _ => false
noncomputable def slD (a : Expr) : IV -> Option Int -> Option Int -> IH -> Res IV := if txtB a then slT else slI
noncomputable def cmpD (o : CmpOp) (b : Expr) : IV -> IV -> IH -> Res IV := match o with
 | .In => if Jxl b then cInD else cIn
 | .NotEq => if objNm b then cNeO else cNe
 | o => cmpI o
noncomputable def gSbF (a : Expr) (o i : E1) : G1 := if Jxl a then gSbD o i else gSb o i
noncomputable def Jxj : Expr -> Option Expr
 | .Call (.Name y _) [e] [] _ => if y == "set" && Jn e then some e else none
 | _ => none
noncomputable def Jw1 : Expr -> Option Expr
 | .Call (.Name y _) [e] [] _ => if y == "range" && Jn e then some e else none
 | _ => none
noncomputable def Jmy (P : Pg) (S : Sc) (x : Str) (f : Expr -> E1) : List Expr -> E1
 | [a, b] => if x == "max" then eCB (on2 maxI) (Ja (f a) (Ja (f b) aNil)) else if x == "min" then eCB (on2 minI) (Ja (f a) (Ja (f b) aNil)) else (match b with
  | .Name y _ => if x == "isinstance" && S.gl y then Jze (Jwk P y) (f a) else stE
  | _ => stE)
 | [a] => (match (if x == "len" && S.gl "set" && P.free "set" then Jxj a else none) with
  | some e => Jkn (Ja (f e) aNil)
  | none => match (if x == "list" && S.gl "range" && P.free "range" then Jw1 a else none) with
  | some e => eLR (Ja (f e) aNil)
  | none => if Jsz x then eCB (bltF x) (Ja (f a) aNil) else if Jun x then eCB (bltT x) (Ja (f a) aNil) else stE)
 | _ => stE
noncomputable def Jue (P : Pg) (S : Sc) (f : Sc -> Expr -> E1) (x : Str) (args : List Expr) (kws : List Keyword) : E1 := match args, kws with
 | [a], [⟨some k, d, _⟩] => if x == "max" && k == "default" && S.gl x && P.free x && Jn a then Jrk (Ja (f S a) aNil) (f S d) else stE
 | _, _ => stE
noncomputable def Jus (ifs : List Expr) (f : Expr -> T1) (m : T1 -> E1) : E1 := match ifs with
 | [] => m Jci
 | [c] => m (f c)
 | _ => stE
noncomputable section
mutual
noncomputable def ev (P : Pg) : Nat -> Sc -> Expr -> E1
 | 0, _, _ => stE
 | n + 1, S, e => match e with
  | .Constant c _ _ => evC c
  | .Name x _ => (match S.vis x with
   | some i => eVar i
   | none => if S.gl x then (match P.con x with
    | some v => eC v
    | none => stE) else stE)
  | .BinOp a op b _ => eBin (binI op) (ev P n S a) (ev P n S b)
  | .UnaryOp op a _ => eUn (unI op) (ev P n S a)
  | .BoolOp .And vs _ => Jwd (vs.map (ev P n S))
  | .BoolOp .Or vs _ => eOrs (vs.map (ev P n S))
  | .IfExp t a b _ => eIf (evT P n S t) (ev P n S a) (ev P n S b)
  | .Compare a [o] [b] _ => if behindInMarks o b then stE else eBin (cmpD o b) (ev P n S a) (ev P n S b)
  | .Compare a [o, o'] [b, c] _ => if lastMarks [o, o'] [b, c] then stE else Jfw (cmpI o) (cmpI o') (ev P n S a) (ev P n S b) (ev P n S c)
  | .Tuple es _ _ => if es.all Jn then eTup (aAll (es.map (ev P n S))) else stE
  | .List es _ => if es.all Jn then eLst (aAll (es.map (ev P n S))) else stE
  | .Subscript a (.Slice lo hi none _) _ => eSl (slD a) (ev P n S a) (evO P n S lo) (evO P n S hi)
  | .Subscript a i _ => if Jto i then eBin (ixD a) (ev P n S a) (ev P n S i) else stE
  | .Attribute o f _ => if Jfs o && P.fld f then eFld f (ev P n S o) else stE
  | .Call (.Name x _) args [] _ => if S.gl x && args.all Jn then Jtt P n S x args else stE
  | .Call (.Name x _) args (kw :: kws) _ => Jue P S (fun S e => ev P n S e) x args (kw :: kws)
  | .Call (.Attribute o m ap) args [] p => if args.all Jn && Jfs o && (ap.endLine == p.line) && decide (args.length < 30) then eDot P m args.length (ev P n S o) (aAll (args.map (ev P n S))) else stE
  | .ListComp elt [⟨tg, iter, ifs, as⟩] sc _ =>
   if as = 0 /\ Jrm iter = true /\ Jfb S.N (Jl8 sc) (Jkv sc) (jsOf S sc) S.fake sc = true then
    Jus ifs (evT P n (S.comp sc)) fun mt => Jbi (evI P n S tg iter) (Jl8 sc).length (jsOf S sc) (tgt P n (S.comp sc) tg) mt (ev P n (S.comp sc) elt)
   else stE
  | _ => stE
noncomputable def evT (P : Pg) : Nat -> Sc -> Expr -> T1
 | 0, _, _ => stT
 | n + 1, S, e => match e with
  | .UnaryOp .Not a _ => Jbd (evT P n S a)
  | .BoolOp .And vs _ => Jwy (vs.map (evT P n S))
  | .BoolOp .Or vs _ => tOrs (vs.map (evT P n S))
  | .IfExp .. => stT
  | .Compare a [o] [b] _ => if behindInMarks o b then stT else tOfB asB (eBin (cmpD o b) (ev P n S a) (ev P n S b))
  | .Compare a [o, o'] [b, c] _ => if lastMarks [o, o'] [b, c] then stT else tOfB asB (Jfw (cmpI o) (cmpI o') (ev P n S a) (ev P n S b) (ev P n S c))
  | .Compare .. => stT
  | e => tOfB tru (ev P n S e)
noncomputable def evO (P : Pg) : Nat -> Sc -> Option Expr -> O1
 | 0, _, _ => stO
 | _ + 1, _, none => Jmh
 | n + 1, S, some e => Jle (ev P n S e)
noncomputable def Jtt (P : Pg) : Nat -> Sc -> Str -> List Expr -> E1
 | 0, _, _, _ => stE
 | n + 1, S, x, args => match P.fn x with
  | some f => Jqq f args.length (aAll (args.map (ev P n S)))
  | none => match P.cls x with
   | some f => Jqu x f args.length (aAll (args.map (ev P n S)))
   | none => if P.free x then Jmy P S x (ev P n S) args else stE
noncomputable def evI (P : Pg) : Nat -> Sc -> Expr -> Expr -> I1
 | 0, _, _, _ => stI
 | n + 1, S, tg, e => match e with
  | .Call (.Name x _) args [] _ =>
   if S.gl x && P.free x && args.all Jn && (x == "range") then J1f args.length (aAll (args.map (ev P n S)))
   else if S.gl x && P.free x && args.all Jn && (x == "enumerate") then (match tg, args with
    | .Tuple .., [a] => iRg Jd6 (Ja (ev P n S a) aNil)
    | _, _ => stI)
   else iAny (ev P n S e)
  | e => iAny (ev P n S e)
noncomputable def tgt (P : Pg) : Nat -> Sc -> Expr -> G1
 | 0, _, _ => stG
 | n + 1, S, e => match e with
  | .Name x _ => (match S.sto x with
   | some i => gNm i
   | none => stG)
  | .Tuple es _ _ => if es.all Jn then gTp es.length (gAll (es.map (tgt P n S))) else stG
  | _ => stG
end
end
end L4
namespace L4
open PySem PySem.Spec PyProof.Rows L2 L3
noncomputable def Jkf (t : T1) (b : S1) : Nat -> S1
 | 0, _, _ => .stuck
 | n + 1, σ, h => match t σ h with
  | .ok c h1 => if c then (match b σ h1 with
   | .next σ2 h2 => Jkf t b n σ2 h2
   | .cont σ2 h2 => Jkf t b n σ2 h2
   | .brk σ2 h2 => .next σ2 h2
   | .ret v h2 => .ret v h2
   | _ => .stuck) else .next σ h1
  | _ => .stuck
@[irreducible] noncomputable def J0c : Nat := 1000000
noncomputable def Js7 (t : T1) (b : S1) : S1 := Jkf t b J0c
noncomputable def ipI : Operator -> IV -> IV -> IH -> Res IV
 | .Add, .int i, .int j, h => .ok (.int (i + j)) h
 | _, _, _, _ => .stuck
noncomputable def sAug (op : Operator) (i : Nat) (e : E1) : S1 := fun σ h => rS σ (eVar i σ h) fun x h1 => rS σ (e σ h1) fun y h2 => rS σ (ipI op x y h2) fun z h3 => .next (σ.set i (some z)) h3
noncomputable def sAugF (op : Operator) (f : Str) (o e : E1) : S1 := fun σ h => rS σ (o σ h) fun ov h1 => match ov with
 | .ref i => (match h1[i]? with
  | some (.ins _ fs) => (match fs.lookup f with
   | some x => rS σ (e σ h1) fun y h2 => rS σ (ipI op x y h2) fun z h3 => (match h3[i]? with
    | some (.ins c gs) => if gs.length < 1000 then .next σ (h3.set i (.ins c (putI f z gs))) else .stuck
    | _ => .stuck)
   | none => .stuck)
  | _ => .stuck)
 | _ => .stuck
noncomputable def ixL : IV -> IV -> IH -> Res IV
 | .ref i, .int k, h => match h[i]? with
  | some (.lst xs) => (match atI xs k with
   | some v => if 0 <= k then .ok v h else .stuck
   | none => .stuck)
  | _ => .stuck
 | _, _, _ => .stuck
noncomputable def sAugS (op : Operator) (o k e : E1) : S1 := fun σ h => rS σ (o σ h) fun ov h1 => rS σ (k σ h1) fun kv h2 => rS σ (ixL ov kv h2) fun x h3 => rS σ (e σ h3) fun y h4 => rS σ (ipI op x y h4) fun z h5 => setI ov kv z σ h5
noncomputable def sAll : List S1 -> S1
 | [] => sNil
 | [a] => a
 | a :: b :: r => sSeq a (sAll (b :: r))
noncomputable def Jx9 : Expr -> Bool
 | .Tuple .. => false
 | _ => true
noncomputable def Jwo : Expr -> Bool
 | .Tuple .. => true
 | _ => false
noncomputable def isLC : Expr -> Bool
 | .ListComp .. => true
 | _ => false
noncomputable def Jwz : Expr -> Bool
 | .Subscript .. => true
 | _ => false
noncomputable abbrev Xi := Str -> Option (Str -> Option Bool)
noncomputable def Jy8 (g : Str -> Option Bool) : Ty -> Option Bool
 | .exc c => g c
 | _ => none
noncomputable section
noncomputable def Jx8 (S : Sc) (xi : Xi) (f : Expr) (as : List Expr) (ks : List Keyword) (m : Expr -> E1) : E1 := match f, as, ks with
 | .Name x _, [a, .Name D _], [] => if x == "isinstance" && S.gl x && S.gl D && Jn a then (match xi D with
  | some g => eIsi (Jy8 g) (m a)
  | none => stE) else stE
 | _, _, _ => stE
noncomputable def hv (S : Sc) (xi : Xi) : Nat -> Expr -> E1
 | 0, _ => stE
 | n + 1, e => match e with
  | .Constant c _ _ => evC c
  | .Name x _ => (match S.vis x with
   | some i => eVar i
   | none => stE)
  | .UnaryOp op a _ => eUn (unI op) (hv S xi n a)
  | .BoolOp .And vs _ => Jwd (vs.map (hv S xi n))
  | .BoolOp .Or vs _ => eOrs (vs.map (hv S xi n))
  | .Tuple es _ _ => if es.all Jn then eTup (aAll (es.map (hv S xi n))) else stE
  | .List es _ => if es.all Jn then eLst (aAll (es.map (hv S xi n))) else stE
  | .Call f as ks _ => Jx8 S xi f as ks (hv S xi n)
  | _ => stE
noncomputable def hT (S : Sc) (xi : Xi) : Nat -> Expr -> T1
 | 0, _ => stT
 | n + 1, e => match e with
  | .UnaryOp .Not a _ => Jbd (hT S xi n a)
  | .BoolOp .And vs _ => Jwy (vs.map (hT S xi n))
  | .BoolOp .Or vs _ => tOrs (vs.map (hT S xi n))
  | .Call f as ks p => tOfB tru (hv S xi n (.Call f as ks p))
  | _ => stT
noncomputable def hx (S : Sc) (xi : Xi) : Nat -> Stmt -> S1
 | 0, _ => stS
 | n + 1, st => match st with
  | .Pass _ => Jvl
  | .Return (some e) _ => sRet (hv S xi n e)
  | .If c a b _ => sIf (hT S xi n c) (sAll (a.map (hx S xi n))) (sAll (b.map (hx S xi n)))
  | .Assign [.Name x _] e _ => if Jfx e then (match S.sto x with
   | some i => sSet i (hv S xi n e)
   | none => stS) else stS
  | _ => stS
noncomputable def hSl (S : Sc) : Option Str -> Option (Option Nat)
 | none => some none
 | some x => if S.names.lookup x == some .local then (ixOf x S.N).map some else none
noncomputable def hHd (S : Sc) (xi : Xi) (n : Nat) : ExceptHandler -> Option HdI
 | .ExceptHandler (some (.Name D _)) nm (b :: suite) _ => if S.gl D then (match xi D, hSl S nm with
  | some g, some sl => some (g, sl, sAll ((b :: suite).map (hx S xi n)))
  | _, _ => none) else none
 | _ => none
noncomputable def hHds (S : Sc) (xi : Xi) (n : Nat) : List ExceptHandler -> Option (List HdI)
 | [] => some []
 | h :: r => match hHd S xi n h, hHds S xi n r with
  | some q, some l => some (q :: l)
  | _, _ => none
end
noncomputable def XiOk (K : W.Frag) (mg : Str -> Option Value) (xi : Xi) : Prop := ∀ D g, xi D = some g -> ∃ v, (mg D = some v ∨ (mg D = none /\ bootBuiltins D = some v)) /\
 ∀ c C b, g c = some b -> W.nsIn K mainGlobals c = some (some (.ref C)) -> ExI K C /\ W.kitOne K (.ref C) v = some b /\ W.exmOne K (.ref C) v = some b
noncomputable section
noncomputable def Jsv (P : Pg) (S : Sc) (m : Expr -> E1) (exc cause : Option Expr) : S1 := match exc, cause with
 | some (.Call (.Name x _) [e] [] _), none => if S.gl x && P.rz x && Jn e then Jb7 x (Ja (m e) aNil) else stS
 | _, _ => stS
noncomputable def hTry (P : Pg) (S : Sc) (n : Nat) (m : Stmt -> S1) (body : List Stmt) (hs : List ExceptHandler) (o f : List Stmt) : S1 := match hs, o, f with
 | h :: r, [], [] => if S.own && P.free "isinstance" then (match hHds S P.xi n (h :: r) with
  | some ms => sTry (sAll (body.map m)) ms
  | none => stS) else stS
 | _, _, _ => stS
end
noncomputable section
noncomputable def ex (P : Pg) : Nat -> Sc -> Stmt -> S1
 | 0, _, _ => stS
 | n + 1, S, st => match st with
  | .Pass _ => Jvl
  | .Break _ => Jw6
  | .Continue _ => J1c
  | .Expr e _ => if Jfx e then Jiq (ev P n S e) else stS
  | .Return none _ => Jzx
  | .Return (some e) _ => sRet (ev P n S e)
  | .If c a b _ => sIf (evT P n S c) (sAll (a.map (ex P n S))) (sAll (b.map (ex P n S)))
  | .While c a [] _ => Js7 (evT P n S c) (sAll (a.map (ex P n S)))
  | .For tg it a [] _ => if Jrm it then sFor (evI P n S tg it) (tgt P n S tg) (sAll (a.map (ex P n S))) else stS
  | .Assign [.Name x _] e _ => if Jfx e || isLC e then (match S.sto x with
   | some i => sSet i (ev P n S e)
   | none => stS) else stS
  | .Assign [.Attribute o f _] e _ => if Jfx e && P.fld f then Jju f (ev P n S o) (ev P n S e) else stS
  | .Assign [tg] e _ => if Jfx e && ((Jwo tg && Jx9 e) || Jwz tg) then sAsg (ev P n S e) (tgt P n S tg) else stS
  | .Raise exc cause _ => Jsv P S (ev P n S) exc cause
  | .Try body hs o f _ => hTry P S n (ex P n S) body hs o f
  | _ => stS
end
end L4
namespace L4
open PySem PySem.Spec PyProof.Rows L2 L3
structure FnD (ce : Str -> Option Addr) (prog : Program) (w : World) (K : W.Frag) (mg : Str -> Option Value) (base : Heap) (k : Nat) (f : Fn) (fa : Addr) (fd : FuncData) (ps : List Str) : Prop where
 len : ps.length = f.np
 ok : FnOk prog w K mg base (CXI prog w) k fa fd ps (spI ce K ps f.run)
 dv : ∀ j, j <= f.dvs.length -> ∃ ds, Jg1 K fd ps ds /\ ds.length = f.dvs.length - j /\ ∃ vs, Vals vs ds /\ ∀ ι H, RVs K ι H (f.dvs.drop j) vs
structure PgOk (ce : Str -> Option Addr) (k : Nat) (P : Pg) (prog : Program) (w : World) (K : W.Frag) (mg : Str -> Option Value) (base : Heap) : Prop where
 fn : ∀ x f, P.fn x = some f -> ∃ fa fd ps, mg x = some (.ref fa) /\ W.keepIn K (.ref fa) = true /\ FnD ce prog w K mg base k f fa fd ps
 cls : ∀ x f, P.cls x = some f -> ∃ C fa fd ps, mg x = some (.ref C) /\ ce x = some C /\ Mk K C fa /\ FnD ce prog w K mg base k f fa fd ps
 meth : ∀ c m f, P.meth c m = some f -> ∃ C fa fd ps, ce c = some C /\ Cls K C /\ Meth K C m fa /\ FnD ce prog w K mg base k f fa fd ps
 con : ∀ x v, P.con x = some v -> ∃ u y, mg x = some u /\ RelV y u /\ ∀ ι H, RV K ι H v y
 isa : ∀ D g, P.isa D = some g -> ∃ c, mg D = some c /\ IsOk ce K c fun t => match t with | .ins c => some (g c) | .exc _ => none | _ => some false
 fld : ∀ f, P.fld f = true -> Jwh ce K f
 free : ∀ x, P.free x = true -> mg x = none
 blt : ∀ q j, P.tabs q = some j -> Jwi mg base
 rz : ∀ x, P.rz x = true -> ∃ C, mg x = some (.ref C) /\ W.nsIn K mainGlobals x = some (some (.ref C)) /\ XCls K C
 xi : XiOk K mg P.xi
structure Good (ce : Str -> Option Addr) (k : Nat) (P : Pg) (S : Sc) (X : Cx) : Prop where
 n : X.N = S.N
 sc : X.env.scope.names = S.names
 nd : S.N.Nodup
 fk : X.env.scope.kind = .function
 calm : X.calm = true
 room : Room (k + 1) X.A
 st : S.own = true -> ∀ x, X.fn x = true
 pg : PgOk ce k P X.prog X.w X.K X.mg X.base
 code : S.own = true -> W.codeIn X.K X.env.code S.q = true /\ X.env.qual = S.q ++ ".<locals>."
 room3 : S.own = true -> Room (k + 3) X.A
 top : S.own = true -> X.stack = X.env :: X.outer /\ X.env.frame = some X.env.locals
section
variable {ce : Str -> Option Addr} {k : Nat} {P : Pg} {S : Sc} {X : Cx} {α β : Type} {R : REL α β}
theorem Jc {t : Sem β} : PX ce X R t (fun _ _ => .stuck) := fun _ _ _ _ _ _ _ _ _ _ K => (show False from K).elim
theorem px_pt {t : Sem β} {m : ISt -> IH -> Res α} (hh : ∀ σi h, ∃ m', m σi h = m' σi h /\ PX ce X R t m') : PX ce X R t m := by
 intro pins s σ H ι σi h Q E N K
 obtain ⟨m', e, p⟩ := hh σi h
 rw [e] at K
 exact p pins s σ H ι σi h Q E N K
theorem Jjx {tg e : Expr} : PIi ce X tg e stI := fun _ _ _ _ _ _ _ _ _ _ K => (show False from K).elim
theorem Jj1 {e : Expr} : PGi ce X e stG := fun _ _ _ _ _ _ _ _ _ _ _ _ _ K => (show False from K).elim
theorem Jo {t : Sem Flow} : PSi ce X t stS := fun _ _ _ _ _ _ _ _ _ _ K => (show False from K).elim
theorem Jh3 {x : Str} : ∀ {l : List Str} {i : Nat}, ixOf x l = some i -> l[i]? = some x
 | [], _, h => by cases h
 | y :: r, i, h => by
  unfold ixOf at h
  split at h
  ·rename_i e
   cases h
   simp [beq_iff_eq.mp e]
  ·obtain ⟨j, hj, rfl⟩ := Option.map_eq_some_iff.mp h
   simpa using Jh3 hj
theorem Good.kind (G : Good ce k P S X) (x : Str) : X.env.kindOf x = S.names.lookup x := by
 show X.env.scope.names.lookup x = _
 rw [G.sc]
theorem Good.vis (G : Good ce k P S X) {x : Str} {i : Nat} (h : S.vis x = some i) : X.N[i]? = some x /\ Vis X.env.scope x /\ (x == ("__debug__" : Str)) = false /\ (x == ("__classdict__" : Str)) = false := by
 unfold Sc.vis at h
 have fin : ∀ {o : NameKind}, (o = .local ∨ o = .cell ∨ o = .free) -> S.names.lookup x = some o -> (if (x == ("__debug__" : Str) || x == ("__classdict__" : Str)) = true then none else ixOf x S.N) = some i ->
   X.N[i]? = some x /\ Vis X.env.scope x /\ (x == ("__debug__" : Str)) = false /\ (x == ("__classdict__" : Str)) = false := fun ho e h => by
  split at h
  ·cases h
  ·rename_i hd
   have hd' := Bool.eq_false_iff.mpr hd
   rw [Bool.or_eq_false_iff] at hd'
   refine ⟨by rw [G.n]; exact Jh3 h, ?_, hd'.1, hd'.2⟩
   unfold Vis
   rw [G.sc, e]
   rcases ho with rfl | rfl | rfl
   ·exact .inl rfl
   ·exact .inr (.inl rfl)
   ·exact .inr (.inr rfl)
 cases e : S.names.lookup x with
 | none => rw [e] at h; cases h
 | some o =>
  rw [e] at h
  cases o with
  | «local» => exact fin (.inl rfl) e h
  | cell => exact fin (.inr (.inl rfl)) e h
  | free => exact fin (.inr (.inr rfl)) e h
  | _ => cases h
theorem Good.gl (G : Good ce k P S X) {x : Str} (h : S.gl x = true) : Gl X x /\ (x == ("__debug__" : Str)) = false /\ x ≠ "__name__" := by
 unfold Sc.gl at h
 simp only [Bool.and_eq_true, beq_iff_eq, Bool.not_eq_true'] at h
 refine ⟨?_, h.1.2, fun e => ?_⟩
 ·show X.env.kindOf x = _
  rw [G.kind]
  exact h.1.1
 ·have := h.2
  rw [e] at this
  exact absurd this (by decide)
theorem Good.sto (G : Good ce k P S X) {x : Str} {i : Nat} (h : S.sto x = some i) : X.N[i]? = some x /\ Loc X.env.scope x /\ (X.fn x = true ∨ X.env.scope.names.lookup x = some .local) := by
 unfold Sc.sto at h
 unfold L2.Loc
 rw [G.sc]
 cases e : S.names.lookup x with
 | none => rw [e] at h; cases h
 | some o =>
  rw [e] at h
  cases o with
  | «local» => exact ⟨by rw [G.n]; exact Jh3 h, .inl rfl, .inr rfl⟩
  | cell =>
   dsimp only at h
   split at h
   ·rename_i ho
    exact ⟨by rw [G.n]; exact Jh3 h, .inr rfl, .inl (G.st ho x)⟩
   ·cases h
  | _ => cases h
theorem Good.nodup (G : Good ce k P S X) : X.N.Nodup := by rw [G.n]; exact G.nd
theorem Je {a : Expr} {es : List Expr} {env : Env} (h : Jn a = true) : starEach (a :: es) env = (false, eval a env) :: starEach es env := by
 cases a <;> first | rfl | cases h
theorem Jgb {pos : Pos} {env : Env} : ∀ {es : List Expr}, es.all Jn = true -> (backTo pos (starEach es env)).any (·.1) = false
 | [], _ => rfl
 | a :: es, h => by
  simp only [List.all_cons, Bool.and_eq_true] at h
  rw [Je h.1]
  show (false || (backTo pos (starEach es env)).any (·.1)) = false
  rw [Jgb h.2] <;> rfl
theorem Jj7 {pos : Pos} {env : Env} : ∀ {es : List Expr}, es.all Jn = true -> (backTo pos (starEach es env)).all (fun x => !x.1) = true
 | [], _ => rfl
 | a :: es, h => by
  simp only [List.all_cons, Bool.and_eq_true] at h
  rw [Je h.1]
  show (true && (backTo pos (starEach es env)).all (fun x => !x.1)) = true
  rw [Jj7 h.2] <;> rfl
theorem Jzc {pos : Pos} {env : Env} {es : List Expr} (ha : es.all Jn = true) (hn : es.length < 30) : ((backTo pos (starEach es env)).all (fun x => !x.1) && (backToKw pos (keywordEach [] env)).all (fun x => x.1.isSome)
   && decide (es.length + ([] : List Keyword).length + (if ([] : List Keyword).isEmpty then 0 else 1) < 30)) = true := by
 show ((backTo pos (starEach es env)).all (fun x => !x.1) && true && decide (es.length + 0 + 0 < 30)) = true
 rw [Jj7 ha]
 simpa using hn
theorem Jj0 : ∀ (l : List E1), ALen l.length (aAll l)
 | [] => Jww
 | _ :: r => Js6 (Jj0 r)
theorem Jk8 {f : Expr -> E1} : ∀ {es : List Expr}, es.all Jn = true -> (∀ e, PEi ce X e (f e)) -> PAi ce X es (aAll (es.map f))
 | [], _, _ => Jmv
 | a :: es, h, hf => by
  simp only [List.all_cons, Bool.and_eq_true] at h
  exact Jgx (hf a) (Jk8 h.2 hf) (Je h.1)
theorem Jtq {f : Expr -> E1} {pos : Pos} (hf : ∀ e, PEi ce X e (f e)) : ∀ (vs : List Expr), PEi ce X (.BoolOp .And vs pos) (Jwd (vs.map f))
 | [] => Jc
 | [a] => J1o (hf a)
 | a :: b :: r => i_and Jlm (hf a) (Jtq hf (b :: r))
theorem Jxw {f : Expr -> E1} {pos : Pos} (hf : ∀ e, PEi ce X e (f e)) : ∀ (vs : List Expr), PEi ce X (.BoolOp .Or vs pos) (eOrs (vs.map f))
 | [] => Jc
 | [a] => J1o (hf a)
 | a :: b :: r => i_or Jlm (hf a) (Jxw hf (b :: r))
theorem Jtu {f : Expr -> T1} {pos : Pos} (hf : ∀ e, PTi ce X e (f e)) : ∀ (vs : List Expr), PWi ce X (.BoolOp .And vs pos) (Jwy (vs.map f))
 | [] => fun _ => Jc
 | [a] => Jx0 (hf a)
 | a :: b :: r => Jz8 (hf a) (Jtu hf (b :: r))
theorem Jyw {f : Expr -> T1} {pos : Pos} (hf : ∀ e, PTi ce X e (f e)) : ∀ (vs : List Expr), PWi ce X (.BoolOp .Or vs pos) (tOrs (vs.map f))
 | [] => fun _ => Jc
 | [a] => J03 (hf a)
 | a :: b :: r => tw_or (hf a) (Jyw hf (b :: r))
theorem Jw8 {f : Expr -> G1} : ∀ {es : List Expr}, es.all Jn = true -> (∀ e, PGi ce X e (f e)) -> PGsi ce X es (gAll (es.map f))
 | [], _, _ => J0h
 | a :: es, h, hf => by
  simp only [List.all_cons, Bool.and_eq_true] at h
  refine Jxy (hf a) (Jw8 h.2 hf) ?_
  cases a <;> first | rfl | exact absurd h.1 Bool.false_ne_true
theorem Jxq {env : Env} : ∀ {es : List Expr}, es.all Jn = true -> (assignEach es env).length = es.length
 | [], _ => rfl
 | a :: es, h => by
  simp only [List.all_cons, Bool.and_eq_true] at h
  have : assignEach (a :: es) env = (false, assign a env) :: assignEach es env := by cases a <;> first | rfl | exact absurd h.1 Bool.false_ne_true
  rw [this, List.length_cons, List.length_cons, Jxq h.2]
theorem Js8 {env : Env} : ∀ {es : List Expr}, es.all Jn = true -> (assignEach es env).findIdx? (·.1) = none
 | [], _ => rfl
 | a :: es, h => by
  simp only [List.all_cons, Bool.and_eq_true] at h
  have : assignEach (a :: es) env = (false, assign a env) :: assignEach es env := by cases a <;> first | rfl | exact absurd h.1 Bool.false_ne_true
  rw [this, List.findIdx?_cons, Js8 h.2]
  rfl
theorem o_bin (op : Operator) : OpI ce X (binaryOp op) (binI op) := by
 cases op with
 | Add => exact o_add
 | Sub => exact o_sub
 | Mult => exact J1m
 | FloorDiv => exact J1l
 | Mod => exact o_mod
 | Pow => exact o_pow
 | _ => exact fun _ _ _ _ _ _ _ _ _ _ _ _ _ _ _ _ K => (show False from K).elim
theorem Jte (hu : X.A.units + 64 < cLine) (op : CmpOp) : OpI ce X (compareOp op) (cmpI op) := by
 cases op with
 | Lt => exact o_lt
 | LtE => exact o_le
 | Gt => exact o_gt
 | GtE => exact o_ge
 | Eq => exact o_eq hu
 | NotEq => exact o_ne hu
 | Is => exact o_is
 | IsNot => exact Jzv
 | In => exact o_in hu
 | NotIn => exact Jy4 hu
theorem Jxf (hu : X.A.units + 64 < cLine) (op : CmpOp) (b : Expr) : OpI ce X (compareOp op) (cmpD op b) := by
 unfold cmpD
 split
 ·split
  ·exact o_inD
  ·exact o_in hu
 ·split
  ·exact o_neO hu
  ·exact o_ne hu
 ·exact Jte hu op
theorem x_slD (a : Expr) : SlI ce X (slD a) := by
 unfold slD
 split
 ·exact x_slT
 ·exact x_sl
theorem x_ixF (a : Expr) : IxI ce X (ixD a) := x_ix
theorem o_un (op : UnaryOp) : UnI ce X (unaryOp op) (unI op) := by
 cases op with
 | Not => exact Jyd Jlm
 | USub => exact u_neg
 | _ => exact fun _ _ _ _ _ _ _ _ _ _ _ _ _ K => (show False from K).elim
theorem Jge {o : Expr} {m : Str} {env : Env} {w : Sem Value} (h : Jfs o = true) : attributeBase o m env w = w := by
 cases o with
 | Call f as ks p =>
  cases f with
  | Name x q =>
   cases as with
   | nil =>
    cases ks with
    | nil => cases h
    | cons _ _ => rfl
   | cons _ _ => rfl
  | _ => rfl
 | _ => rfl
theorem Jce {e : Expr} {env : Env} (h : Jrm e = true) (x : Value) : foldedSetIterable e env x = pure x := by
 cases e <;> first | rfl | cases h
theorem Jee {e : Expr} {t : Option Expr} {l : Nat} {env : Env} (h : Jfx e = true) : swapsWith e t l env = pure false := by
 cases e <;> first | rfl | cases h
theorem Jwa {i : Expr} (h : Jto i = true) : Juw i := fun _ _ => by
 cases i <;> first | rfl | cases h
theorem Jnv {o : Expr} {m : Str} {ap pos : Pos} {es : List Expr} {env : Env} (hb : Jfs o = true) (hs : es.all Jn = true) (hl : (ap.endLine == pos.line) = true) (hn : es.length < 30) :
  eval (.Call (.Attribute o m ap) es [] pos) env = (do
   let ov <- eval o env
   standAt ap.atName
   let (f, first) <- holding [ov] (getMethod ov m (do return (<- importBound o env).getD true))
   callWith pos f first (backTo pos (starEach es env)) (backToKw pos (keywordEach [] env))) := by
 have hform : methodCallForm (es.length + ([] : List Keyword).length) (backTo pos (starEach es env)) (backToKw pos (keywordEach [] env)) = true := by
  show ((backTo pos (starEach es env)).all (fun x => !x.1) && true && decide (es.length + 0 + 0 < 30)) = true
  rw [Jj7 hs]
  simpa using hn
 have hpos : methodCallPos true o env ap pos = pure pos := by unfold methodCallPos; simp [hl]
 rw [arm_eval_Call, Jge hb]
 unfold methodCall
 rw [hform, hpos]
 rfl
end
section
variable {ce : Str -> Option Addr} {k : Nat} {P : Pg} {S : Sc} {X : Cx}
theorem Jo8 (G : Good ce k P S X) (N0 l c : List Str) (js : List Nat) (sc : Scope) : Jfb N0 l c js X.env.scope sc = Jfb N0 l c js S.fake sc := by
 unfold Jfb
 rw [G.fk, G.sc]
 rfl
theorem Good.comp (G : Good ce k P S X) {sc : Scope} (h : Jfb S.N (Jl8 sc) (Jkv sc) (jsOf S sc) S.fake sc = true) (C : Addr) (s : Shared) (H : Hp) (fp : List Addr) : Good ce k P (S.comp sc) (cxC X (Jl8 sc ++ Jkv sc) sc C s H fp) := by
 simp only [Jfb, Bool.and_eq_true, decide_eq_true_eq] at h
 obtain ⟨⟨⟨⟨⟨⟨⟨⟨⟨kF, kF0⟩, kNC⟩, kL⟩, kFr⟩, kFx⟩, kJ⟩, kLen⟩, kNd⟩, kLo⟩ := h
 refine ⟨rfl, ?_, kNd, kF, G.calm, G.room, fun z => absurd z Bool.false_ne_true, G.pg, fun z => absurd z Bool.false_ne_true, fun z => absurd z Bool.false_ne_true, fun z => absurd z Bool.false_ne_true⟩
 show (relabel sc X.env).names = _
 unfold relabel Sc.comp
 dsimp only
 refine List.map_congr_left fun x _ => ?_
 obtain ⟨n, kd⟩ := x
 dsimp only
 rw [G.fk, G.kind]
 simp
end
structure Snd (ce : Str -> Option Addr) (k : Nat) (P : Pg) (n : Nat) : Prop where
 e : ∀ S X e, Good ce k P S X -> PEi ce X e (ev P n S e)
 t : ∀ S X e, Good ce k P S X -> PTi ce X e (evT P n S e)
 o : ∀ S X e, Good ce k P S X -> PPi ce X e (evO P n S e)
 c : ∀ S X x args p pos, Good ce k P S X -> S.gl x = true -> args.all Jn = true -> PEi ce X (.Call (.Name x p) args [] pos) (Jtt P n S x args)
 i : ∀ S X tg e, Good ce k P S X -> PIi ce X tg e (evI P n S tg e)
 g : ∀ S X e, Good ce k P S X -> PGi ce X e (tgt P n S e)
section
variable {ce : Str -> Option Addr} {k : Nat} {P : Pg} {n : Nat} {S : Sc} {X : Cx}
theorem Jvd : Snd ce k P 0 := ⟨fun _ _ _ _ => Jc, fun _ _ _ _ => Jc, fun _ _ _ _ => Jc, fun _ _ _ _ _ _ _ _ _ => Jc, fun _ _ _ _ _ => Jjx, fun _ _ _ _ => Jj1⟩
theorem Jpu {prog : Program} {w : World} {K : W.Frag} {mg : Str -> Option Value} {base : Heap} {f : Fn} {fa : Addr} {fd : FuncData} {ps : List Str} {m : Nat} {d : List IV} (D : FnD ce prog w K mg base k f fa fd ps) (h : f.fill m = some d) :
  ∃ ds, Jg1 K fd ps ds /\ m + ds.length = ps.length /\ ∃ vs, Vals vs ds /\ ∀ ι H, RVs K ι H d vs := by
 unfold Fn.fill at h
 split at h
 ·rename_i hz
  cases h
  obtain ⟨ds, hb, hl, q⟩ := D.dv (f.dvs.length - (f.np - m)) (by omega)
  exact ⟨ds, hb, by rw [hl, D.len]; omega, q⟩
 ·cases h
theorem Jwq (G : Good ce k P S X) {x : Str} {f : Fn} (hx : P.fn x = some f) (hg : S.gl x = true) {args : List Expr} (ha : args.all Jn = true) {g : Expr -> E1} (hf : ∀ e, PEi ce X e (g e)) {p pos : Pos} :
  PEi ce X (.Call (.Name x p) args [] pos) (Jqq f args.length (aAll (args.map g))) := by
 obtain ⟨fa, fd, ps, hm, hk, D⟩ := G.pg.fn x f hx
 obtain ⟨gl, hdb, _⟩ := G.gl hg
 unfold Jqq
 cases hd : f.fill args.length with
 | none => exact Jc
 | some d =>
  obtain ⟨ds, hb, hl, q⟩ := Jpu D hd
  have hr : Room k X.A := G.room.mono (Nat.le_succ k)
  cases args with
  | nil => exact Jzd D.ok hr gl hm hk hb q (by simpa using hl) hdb
  | cons a es =>
   have ha' := ha
   simp only [List.all_cons, Bool.and_eq_true] at ha'
   refine Jz6 D.ok hr gl hm hk hb q (Jk8 ha hf) (fun σ h xs h' e => ?_) hdb (Je ha'.1) (Jgb ha'.2)
   have := Jj0 _ σ h xs h' e
   rw [List.length_map] at this
   rw [this]
   exact hl
theorem Jwf (G : Good ce k P S X) {x : Str} {f : Fn} (hx : P.cls x = some f) (hg : S.gl x = true) {args : List Expr} (ha : args.all Jn = true) {g : Expr -> E1} (hf : ∀ e, PEi ce X e (g e)) {p pos : Pos} :
  PEi ce X (.Call (.Name x p) args [] pos) (Jqu x f args.length (aAll (args.map g))) := by
 obtain ⟨C, fa, fd, ps, hm, hC, M, D⟩ := G.pg.cls x f hx
 obtain ⟨gl, hdb, _⟩ := G.gl hg
 unfold Jqu
 cases hd : f.fill (args.length + 1) with
 | none => exact Jc
 | some d =>
  obtain ⟨ds, hb, hl, q⟩ := Jpu D hd
  cases args with
  | nil => exact Jx2 M D.ok hC G.room gl hm hb q (by simp at hl; omega) hdb
  | cons a es =>
   have ha' := ha
   simp only [List.all_cons, Bool.and_eq_true] at ha'
   refine J0u M D.ok hC G.room gl hm hb q (Jk8 ha hf) (fun σ h xs h' e => ?_) hdb (Je ha'.1) (Jgb ha'.2)
   have := Jj0 _ σ h xs h' e
   rw [List.length_map] at this
   omega
theorem Jty (G : Good ce k P S X) (m : Str) (n : Nat) : Jt2 ce X m n (Jk4 P m n) := by
 intro c f dvs h
 unfold Jk4 at h
 cases hm : P.meth c m with
 | none => rw [hm] at h; cases h
 | some fn =>
  rw [hm] at h
  dsimp only at h
  cases hd : fn.fill (n + 1) with
  | none => rw [hd] at h; cases h
  | some d =>
   rw [hd] at h
   cases h
   obtain ⟨C, fa, fd, ps, hC, hcl, hM, D⟩ := G.pg.meth c m fn hm
   obtain ⟨ds, hb, hl, q⟩ := Jpu D hd
   exact ⟨C, fa, fd, k, ps, ds, hC, hcl, hM, D.ok, G.room.mono (Nat.le_succ k), hb, q, by omega⟩
theorem bm_ok {T : String} {m : Str} {n : Nat} {g : IV -> List IV -> IH -> Res IV} (h : bmOf T m n = some g) : ∃ id, PlainAttrs T /\ Slot T m id /\ typeOf (.builtin id) = pure (.type "method_descriptor") /\ MtI ce X T id g := by
 unfold bmOf at h
 split at h
 ·rename_i hm
  simp only [Bool.and_eq_true, beq_iff_eq] at hm
  obtain ⟨⟨rfl, rfl⟩, _⟩ := hm
  cases h
  exact ⟨_, PySem.F.plainAttrs_list, PySem.F.slot_list_append, PySem.F.type_list_append, Jwu⟩
 ·split at h
  ·rename_i hm
   simp only [Bool.and_eq_true, beq_iff_eq] at hm
   obtain ⟨⟨rfl, rfl⟩, _⟩ := hm
   cases h
   exact ⟨_, PySem.F.plainAttrs_list, PySem.F.slot_list_reverse, PySem.F.type_list_reverse, Juf⟩
  ·split at h
   ·rename_i hm
    simp only [Bool.and_eq_true, beq_iff_eq] at hm
    obtain ⟨⟨rfl, rfl⟩, _⟩ := hm
    cases h
    exact ⟨_, PySem.F.plainAttrs_str, PySem.F.slot_str_upper, PySem.F.type_str_upper, Jyn⟩
   ·cases h
theorem J02 {o : Expr} {m : Str} {mo : E1} {args : List Expr} {f : Expr -> E1} {ap pos : Pos} {T : String} {g : IV -> List IV -> IH -> Res IV} {n : Nat} (hg : bmOf T m n = some g) (ho : PEi ce X o mo) (hf : ∀ e, PEi ce X e (f e)) (ha : args.all Jn = true) (hb : Jfs o = true) (hl : (ap.endLine == pos.line) = true) (hn : args.length < 30) :
  PEi ce X (.Call (.Attribute o m ap) args [] pos) (eBm T g mo (aAll (args.map f))) := by
 obtain ⟨id, pa, sl, ty, mt⟩ := bm_ok (ce := ce) (X := X) hg
 cases args with
 | nil => exact i_bm0 pa sl ty mt ho (Jge hb) hl
 | cons a es =>
  have ha' := ha
  simp only [List.all_cons, Bool.and_eq_true] at ha'
  exact i_bm pa sl ty mt ho (Jk8 ha hf) (Jge hb) (Jzc ha hn) hl (Je ha'.1) (Jgb ha'.2)
theorem Jyi (G : Good ce k P S X) {o : Expr} {m : Str} {mo : E1} {args : List Expr} {f : Expr -> E1} {ap pos : Pos} (ho : PEi ce X o mo) (hf : ∀ e, PEi ce X e (f e)) (ha : args.all Jn = true) (hb : Jfs o = true) (hl : (ap.endLine == pos.line) = true) (hn : args.length < 30) :
  PEi ce X (.Call (.Attribute o m ap) args [] pos) (eDot P m args.length mo (aAll (args.map f))) := by
 refine px_pt fun σi h => ?_
 unfold eDot
 cases e : mo σi h with
 | exc n h1 => exact ⟨fun _ _ => .stuck, rfl, Jc⟩
 | stuck => exact ⟨fun _ _ => .stuck, rfl, Jc⟩
 | ok v h1 =>
  dsimp only
  split
  ·refine ⟨_, rfl, ?_⟩
   cases args with
   | nil => exact Jx3 ho (Jty G m 0) (Jnv hb ha hl hn)
   | cons a es =>
    have ha' := ha
    simp only [List.all_cons, Bool.and_eq_true] at ha'
    refine J1t ho (Jty G m (a :: es).length) (Jk8 ha hf) (fun σ h xs h' e => ?_) (Je ha'.1) (Jgb ha'.2) (Jnv hb ha hl hn)
    have := Jj0 _ σ h xs h' e
    rwa [List.length_map] at this
  ·cases hg : bmOf (tyS v h1) m args.length with
   | none => exact ⟨fun _ _ => .stuck, rfl, Jc⟩
   | some g => exact ⟨_, rfl, J02 hg ho hf ha hb hl hn⟩
theorem Jyz (G : Good ce k P S X) {a : Expr} {ma : E1} {y : Str} {p p2 pos : Pos} (ha : PEi ce X a ma) (hs : Jn a = true) (hg : S.gl "isinstance" = true) (hfr : P.free "isinstance" = true) (hy : S.gl y = true) :
  PEi ce X (.Call (.Name "isinstance" p) [a, .Name y p2] [] pos) (Jze (Jwk P y) ma) := by
 unfold Jze
 cases e : Jwk P y with
 | none => exact Jc
 | some ans =>
  obtain ⟨gy, ydb, yn⟩ := G.gl hy
  have fin : ∀ {c : Value}, ClsE X (.Name y p2) c -> IsOk ce X.K c ans -> PEi ce X (.Call (.Name "isinstance" p) [a, .Name y p2] [] pos) (eIsi ans ma) := fun hc O =>
   J0s hc O ha (G.gl hg).1 (G.pg.free _ hfr) rfl (Je hs) rfl rfl
  unfold Jwk at e
  cases hi : P.isa y with
  | some g =>
   rw [hi] at e
   cases e
   obtain ⟨c, hm, O⟩ := G.pg.isa y g hi
   exact fin (Jqc gy hm ydb) O
  | none =>
   rw [hi] at e
   dsimp only at e
   split at e
   ·rename_i hf
    have hm := G.pg.free y hf
    split at e
    ·rename_i q; cases (beq_iff_eq.mp q); cases e; exact fin (Jg8 gy hm rfl yn ydb) Jwn
    ·split at e
     ·rename_i q; cases (beq_iff_eq.mp q); cases e; exact fin (Jg8 gy hm rfl yn ydb) Juv
     ·split at e
      ·rename_i q; cases (beq_iff_eq.mp q); cases e; exact fin (Jg8 gy hm rfl yn ydb) Jv7
      ·split at e
       ·rename_i q; cases (beq_iff_eq.mp q); cases e; exact fin (Jg8 gy hm rfl yn ydb) Jtd
       ·split at e
        ·rename_i q; cases (beq_iff_eq.mp q); cases e; exact fin (Jg8 gy hm rfl yn ydb) Ju7
        ·cases e
   ·cases e
theorem Jvb (G : Good ce k P S X) {a : Expr} {ma : E1} {x : Str} {p pos : Pos} (ha : PEi ce X a ma) (hs : Jn a = true) (hg : S.gl x = true) (hfr : P.free x = true) (hx : Jsz x = true) :
  PEi ce X (.Call (.Name x p) [a] [] pos) (eCB (bltF x) (Ja ma aNil)) := by
 obtain ⟨gx, xdb, xn⟩ := G.gl hg
 have hm := G.pg.free x hfr
 have hh := G.room.hd
 have pa : PAi ce X [a] (Ja ma aNil) := Jgx ha Jmv (Je hs)
 unfold Jsz at hx
 simp only [Bool.or_eq_true, beq_iff_eq] at hx
 rcases hx with (rfl | rfl) | rfl
 ·exact Jks c_len gx hm rfl pa xn xdb (Je hs) rfl
 ·exact Jks (c_all hh) gx hm rfl pa xn xdb (Je hs) rfl
 ·exact Jks (c_sum hh) gx hm rfl pa xn xdb (Je hs) rfl
theorem Jv9 (G : Good ce k P S X) {a : Expr} {ma : E1} {x : Str} {p pos : Pos} (ha : PEi ce X a ma) (hs : Jn a = true) (hg : S.gl x = true) (hfr : P.free x = true) (hx : Jun x = true) :
  PEi ce X (.Call (.Name x p) [a] [] pos) (eCB (bltT x) (Ja ma aNil)) := by
 obtain ⟨gx, xdb, xn⟩ := G.gl hg
 have hm := G.pg.free x hfr
 have pa : PAi ce X [a] (Ja ma aNil) := Jgx ha Jmv (Je hs)
 unfold Jun at hx
 simp only [Bool.or_eq_true, beq_iff_eq] at hx
 rcases hx with (rfl | rfl) | rfl
 ·exact Jpy J1n gx hm rfl pa xn xdb (Je hs) rfl
 ·exact Jpy Jyj gx hm rfl pa xn xdb (Je hs) rfl
 ·exact Jpy c_int gx hm rfl pa xn xdb (Je hs) rfl
theorem Ju0 (G : Good ce k P S X) {f : Expr -> E1} (hf : ∀ e, PEi ce X e (f e)) {x : Str} {args : List Expr} {p pos : Pos} (hg : S.gl x = true) (ha : args.all Jn = true) (hfr : P.free x = true) :
  PEi ce X (.Call (.Name x p) args [] pos) (Jmy P S x f args) := by
 unfold Jmy
 split
 ·rename_i a b
  simp only [List.all_cons, Bool.and_eq_true] at ha
  obtain ⟨gx, xdb, xn⟩ := G.gl hg
  have hm := G.pg.free x hfr
  have pa : PAi ce X [a, b] (Ja (f a) (Ja (f b) aNil)) := Jgx (hf a) (Jgx (hf b) Jmv (Je ha.2.1)) (Je ha.1)
  have h1 : ∀ pos, (backTo pos (starEach [b] X.env)).any (·.1) = false := fun pos => Jgb (by simp [ha.2.1])
  split
  ·rename_i hs
   cases (beq_iff_eq.mp hs)
   exact Jks (c_max G.calm) gx hm rfl pa xn xdb (Je ha.1) (h1 _)
  ·split
   ·rename_i hs
    cases (beq_iff_eq.mp hs)
    exact Jks (c_min G.calm) gx hm rfl pa xn xdb (Je ha.1) (h1 _)
   ·split
    ·rename_i y p2 _
     split
     ·rename_i hs
      simp only [Bool.and_eq_true, beq_iff_eq] at hs
      obtain ⟨rfl, hy⟩ := hs
      exact Jyz G (hf a) ha.1 hg hfr hy
     ·exact Jc
    ·exact Jc
 ·rename_i a
  simp only [List.all_cons, Bool.and_eq_true] at ha
  split
  ·rename_i e he
   split at he
   ·rename_i hc
    simp only [Bool.and_eq_true, beq_iff_eq] at hc
    obtain ⟨⟨rfl, g2⟩, f2⟩ := hc
    unfold Jxj at he
    split at he
    ·split at he
     ·rename_i hq
      simp only [Bool.and_eq_true, beq_iff_eq] at hq
      obtain ⟨rfl, ns⟩ := hq
      cases he
      exact Jvu G.room.hd (G.gl hg).1 (G.pg.free _ hfr) (G.gl g2).1 (G.pg.free _ f2) (Jgx (hf e) Jmv (Je ns)) (Je ns)
     ·cases he
    ·cases he
   ·cases he
  ·split
   ·rename_i e he
    split at he
    ·rename_i hc
     simp only [Bool.and_eq_true, beq_iff_eq] at hc
     obtain ⟨⟨rfl, g2⟩, f2⟩ := hc
     unfold Jw1 at he
     split at he
     ·split at he
      ·rename_i hq
       simp only [Bool.and_eq_true, beq_iff_eq] at hq
       obtain ⟨rfl, ns⟩ := hq
       cases he
       exact Jsx G.room.hd (G.gl hg).1 (G.pg.free _ hfr) (G.gl g2).1 (G.pg.free _ f2) (Jgx (hf e) Jmv (Je ns)) (Je ns)
      ·cases he
     ·cases he
    ·cases he
   ·split
    ·rename_i hb
     exact Jvb G (hf a) ha.1 hg hfr hb
    ·split
     ·rename_i hb
      exact Jv9 G (hf a) ha.1 hg hfr hb
     ·exact Jc
 ·exact Jc
theorem Jzj.of (G : Good ce k P S X) {y : Str} {sc : Scope} (h : Jzj S y sc = true) : LamSc X.N X.env.scope.names y (Jkv sc) (jsOf S sc) sc := by
 rw [G.n, G.sc]
 simp only [Jzj, Bool.and_eq_true, beq_iff_eq, Bool.not_eq_true', decide_eq_true_eq, List.all_eq_true, Bool.or_eq_true, beq_eq_false_iff_ne] at h
 obtain ⟨⟨⟨⟨⟨⟨⟨h1, h2⟩, h3⟩, h4⟩, h5⟩, h6⟩, h7⟩, h8⟩ := h
 refine ⟨h1, h2, h3, h4, h5, fun z hz e => (h6 z hz).resolve_left fun q => q e, fun z e => PySem.mem_of_lookup e, fun i j z ej ez => ?_, by simp [jsOf], h8⟩
 unfold jsOf at ej
 rw [List.getElem?_map, ez] at ej
 cases ej
 exact h7 z (List.mem_of_getElem? ez)
theorem Jz3 (G : Good ce k P S X) {f : Sc -> Expr -> E1} (hf : ∀ S X e, Good ce k P S X -> PEi ce X e (f S e)) {x : Str} {args : List Expr} {kws : List Keyword} {p pos : Pos} : PEi ce X (.Call (.Name x p) args kws pos) (Jue P S f x args kws) := by
 unfold Jue
 split
 ·split
  ·rename_i hq
   simp only [Bool.and_eq_true, beq_iff_eq] at hq
   obtain ⟨⟨⟨⟨rfl, rfl⟩, g1⟩, f1⟩, ns⟩ := hq
   exact Jz4 G.room.hd (G.gl g1).1 (G.pg.free _ f1) (Jgx (hf _ _ _ G) Jmv (Je ns)) (hf _ _ _ G) (Je ns)
  ·exact Jc
 ·exact Jc
theorem Jv2 (ih : Snd ce k P n) : Snd ce k P (n + 1) := by
 refine ⟨fun S X e G => ?_, fun S X e G => ?_, fun S X e G => ?_, fun S X x args p pos G hg ha => ?_, fun S X tg e G => ?_, fun S X e G => ?_⟩
 ·have ihe := fun e => ih.e S X e G
  have hu := G.room.units
  cases e with
  | Constant c j p =>
   cases c with
   | int i => exact J12
   | bool b => exact i_bl
   | none => exact J0g
   | str x => exact J1q
   | _ => exact Jc
  | Name x p =>
   show PEi ce X (.Name x p) (match S.vis x with | some i => eVar i | none => if S.gl x then (match P.con x with | some v => eC v | none => stE) else stE)
   cases hv : S.vis x with
   | some i =>
    obtain ⟨h1, h2, h3, h4⟩ := G.vis hv
    exact J1z i h1 h2 h3 h4
   | none =>
    dsimp only
    split
    ·rename_i hg
     obtain ⟨gx, xdb, _⟩ := G.gl hg
     cases hc : P.con x with
     | none => exact Jc
     | some v =>
      obtain ⟨u, y, hm, r, q⟩ := G.pg.con x v hc
      exact J0r gx hm r q xdb
    ·exact Jc
  | BinOp a op b p => exact i_bin (o_bin op) (ihe a) (ihe b)
  | UnaryOp op a p => exact i_un (o_un op) (ihe a)
  | BoolOp op vs p =>
   cases op with
   | And => exact Jtq ihe vs
   | Or => exact Jxw ihe vs
  | IfExp t a b p => exact Jxr (ih.t S X t G) (ihe a) (ihe b)
  | Compare a ops cs p =>
   match ops, cs with
   | [o], [b] =>
    show PEi ce X _ (if behindInMarks o b then stE else eBin (cmpD o b) (ev P n S a) (ev P n S b))
    split
    ·exact Jc
    ·rename_i hb
     exact i_cmp (Jxf hu o b) (ihe a) (ihe b) (Bool.eq_false_iff.mpr hb)
   | [o, o'], [b, c] =>
    show PEi ce X _ (if lastMarks [o, o'] [b, c] then stE else Jfw (cmpI o) (cmpI o') (ev P n S a) (ev P n S b) (ev P n S c))
    split
    ·exact Jc
    ·rename_i hb
     exact Jye (Jte hu o) (Jte hu o') (ihe a) (ihe b) (ihe c) (Bool.eq_false_iff.mpr hb)
   | [], _ => exact Jc
   | [_], [] => exact Jc
   | [_], _ :: _ :: _ => exact Jc
   | [_, _], [] => exact Jc
   | [_, _], [_] => exact Jc
   | [_, _], _ :: _ :: _ :: _ => exact Jc
   | _ :: _ :: _ :: _, _ => exact Jc
  | Tuple es j p =>
   show PEi ce X _ (if es.all Jn then eTup (aAll (es.map (ev P n S))) else stE)
   split
   ·rename_i hs
    exact J0n (Jk8 hs ihe)
   ·exact Jc
  | List es p =>
   show PEi ce X _ (if es.all Jn then eLst (aAll (es.map (ev P n S))) else stE)
   split
   ·rename_i hs
    exact J06 (Jk8 hs ihe)
   ·exact Jc
  | Subscript a i p =>
   cases i with
   | Slice lo hi st q =>
    cases st with
    | none => exact Jx5 (x_slD a) (ihe a) (ih.o S X lo G) (ih.o S X hi G)
    | some st => exact Jc
   | _ => exact i_ix (x_ixF a) (ihe a) (ihe _) (Jwa rfl)
  | Attribute o f p =>
   show PEi ce X _ (if Jfs o && P.fld f then eFld f (ev P n S o) else stE)
   split
   ·rename_i hs
    simp only [Bool.and_eq_true] at hs
    exact i_fld (ihe o) (G.pg.fld f hs.2) (Jge hs.1)
   ·exact Jc
  | Call f args kws p =>
   cases kws with
   | cons kw kws =>
    cases f with
    | Name x q => exact Jz3 G fun S X e G => ih.e S X e G
    | _ => exact Jc
   | nil =>
    cases f with
    | Name x q =>
     show PEi ce X _ (if S.gl x && args.all Jn then Jtt P n S x args else stE)
     split
     ·rename_i hs
      simp only [Bool.and_eq_true] at hs
      exact ih.c S X x args q p G hs.1 hs.2
     ·exact Jc
    | Attribute o m ap =>
     show PEi ce X _ (if args.all Jn && Jfs o && (ap.endLine == p.line) && decide (args.length < 30) then eDot P m args.length (ev P n S o) (aAll (args.map (ev P n S))) else stE)
     split
     ·rename_i hs
      simp only [Bool.and_eq_true, decide_eq_true_eq] at hs
      exact Jyi G (ihe o) ihe hs.1.1.1 hs.1.1.2 hs.1.2 hs.2
     ·exact Jc
    | _ => exact Jc
  | ListComp elt gens sc p =>
   match gens with
   | [⟨tg, iter, ifs, as⟩] =>
    show PEi ce X _ (if as = 0 /\ Jrm iter = true /\ Jfb S.N (Jl8 sc) (Jkv sc) (jsOf S sc) S.fake sc = true then
     Jus ifs (evT P n (S.comp sc)) (fun mt => Jbi (evI P n S tg iter) (Jl8 sc).length (jsOf S sc) (tgt P n (S.comp sc) tg) mt (ev P n (S.comp sc) elt)) else stE)
    split
    ·rename_i hs
     obtain ⟨rfl, hi, ok⟩ := hs
     have Gc := G.comp ok
     have ok' := ok
     rw [<- Jo8 G] at ok'
     match ifs with
     | [] => exact Jw3 G.calm (ih.i S X tg iter G) (fun C s H fp => ih.g _ _ tg (Gc C s H fp)) (fun C s H fp => Jxe) (fun C s H fp => ih.e _ _ elt (Gc C s H fp)) ok' G.n rfl (Jce hi)
     | [c] => exact Jw3 G.calm (ih.i S X tg iter G) (fun C s H fp => ih.g _ _ tg (Gc C s H fp)) (fun C s H fp => Jxp (ih.t _ _ c (Gc C s H fp))) (fun C s H fp => ih.e _ _ elt (Gc C s H fp)) ok' G.n rfl (Jce hi)
     | _ :: _ :: _ => exact Jc
    ·exact Jc
   | [] => exact Jc
   | ⟨_, _, _, _⟩ :: _ :: _ => exact Jc
  | _ => exact Jc
 ·have ihe := fun e => ih.e S X e G
  have hu := G.room.units
  cases e with
  | UnaryOp op a p =>
   cases op with
   | Not => exact J1y (ih.t S X a G)
   | _ => exact Jyp Jlm (ihe _)
  | BoolOp op vs p =>
   cases op with
   | And => exact (Jtu (fun e => ih.t S X e G) vs).t
   | Or => exact (Jyw (fun e => ih.t S X e G) vs).t
  | IfExp t a b p => exact Jc
  | Compare a ops cs p =>
   match ops, cs with
   | [o], [b] =>
    show PTi ce X _ (if behindInMarks o b then stT else tOfB asB (eBin (cmpD o b) (ev P n S a) (ev P n S b)))
    split
    ·exact Jc
    ·rename_i hb
     exact t_cmp (Jxf hu o b) (ihe a) (ihe b) (Bool.eq_false_iff.mpr hb)
   | [o, o'], [b, c] =>
    show PTi ce X _ (if lastMarks [o, o'] [b, c] then stT else tOfB asB (Jfw (cmpI o) (cmpI o') (ev P n S a) (ev P n S b) (ev P n S c)))
    split
    ·exact Jc
    ·rename_i hb
     exact Jzi (Jte hu o) (Jte hu o') (ihe a) (ihe b) (ihe c) (Bool.eq_false_iff.mpr hb)
   | [], _ => exact Jc
   | [_], [] => exact Jc
   | [_], _ :: _ :: _ => exact Jc
   | [_, _], [] => exact Jc
   | [_, _], [_] => exact Jc
   | [_, _], _ :: _ :: _ :: _ => exact Jc
   | _ :: _ :: _ :: _, _ => exact Jc
  | _ => exact Jyp Jlm (ihe _)
 ·cases e with
  | none => exact J1b
  | some e => exact J1u (ih.e S X e G)
 ·have ihe := fun e => ih.e S X e G
  show PEi ce X _ (match P.fn x with
  | some f => Jqq f args.length (aAll (args.map (ev P n S)))
  | none => match P.cls x with
   | some f => Jqu x f args.length (aAll (args.map (ev P n S)))
   | none => if P.free x then Jmy P S x (ev P n S) args else stE)
  cases hx : P.fn x with
  | some f => exact Jwq G hx hg ha ihe
  | none =>
   dsimp only
   cases hc : P.cls x with
   | some f => exact Jwf G hc hg ha ihe
   | none =>
    dsimp only
    split
    ·rename_i hfr
     exact Ju0 G ihe hg ha hfr
    ·exact Jc
 ·have ihe := fun e => ih.e S X e G
  cases e with
  | Call f args kws p =>
   cases kws with
   | cons _ _ => cases f <;> exact Jwe (ihe _)
   | nil =>
    cases f with
    | Name x q =>
     show PIi ce X tg _ (if S.gl x && P.free x && args.all Jn && (x == "range") then J1f args.length (aAll (args.map (ev P n S)))
      else if S.gl x && P.free x && args.all Jn && (x == "enumerate") then (match tg, args with
       | .Tuple .., [a] => iRg Jd6 (Ja (ev P n S a) aNil)
       | _, _ => stI)
      else iAny (ev P n S (.Call (.Name x q) args [] p)))
     split
     ·rename_i hs
      simp only [Bool.and_eq_true, beq_iff_eq] at hs
      obtain ⟨⟨⟨hg, hf⟩, ha⟩, rfl⟩ := hs
      obtain ⟨gx, _, _⟩ := G.gl hg
      have hm := G.pg.free _ hf
      have pa := Jk8 ha ihe
      match args, ha, pa with
      | [], _, _ => exact Jjx
      | [a], ha, pa =>
       simp only [List.all_cons, Bool.and_eq_true] at ha
       exact Jv1 gx hm pa (Je ha.1)
      | [a, b], ha, pa =>
       simp only [List.all_cons, Bool.and_eq_true] at ha
       exact Jws gx hm pa (by rw [Je ha.1, Je ha.2.1]; rfl) (Je ha.2.1)
      | _ :: _ :: _ :: _, _, _ => exact Jjx
     ·split
      ·rename_i hs
       simp only [Bool.and_eq_true, beq_iff_eq] at hs
       obtain ⟨⟨⟨hg, hf⟩, ha⟩, rfl⟩ := hs
       obtain ⟨gx, _, _⟩ := G.gl hg
       have hm := G.pg.free _ hf
       split
       ·simp only [List.all_cons, Bool.and_eq_true] at ha
        exact Jya gx hm (Jgx (ihe _) Jmv (Je ha.1)) (Je ha.1)
       ·exact Jjx
      ·exact Jwe (ihe _)
    | _ => exact Jwe (ihe _)
  | _ => exact Jwe (ihe _)
 ·cases e with
  | Name x p =>
   show PGi ce X _ (match S.sto x with | some i => gNm i | none => stG)
   cases hv : S.sto x with
   | none => exact Jj1
   | some i =>
    obtain ⟨h1, h2, h3⟩ := G.sto hv
    exact g_nm G.nodup h1 h2 h3
  | Tuple es j p =>
   show PGi ce X _ (if es.all Jn then gTp es.length (gAll (es.map (tgt P n S))) else stG)
   split
   ·rename_i hs
    exact g_tup G.calm (Jw8 hs fun e => ih.g S X e G) (Jxq hs) (Js8 hs)
   ·exact Jj1
  | _ => exact Jj1
theorem Jml (ce : Str -> Option Addr) (k : Nat) (P : Pg) : ∀ n, Snd ce k P n
 | 0 => Jvd
 | n + 1 => Jv2 (Jml ce k P n)
end
end L4
namespace L4
open PySem PySem.Spec PyProof.Rows L2 L3
section
variable {ce : Str -> Option Addr} {X : Cx} {pos : Pos}
theorem Jzs {c : Expr} {body : List Stmt} {mt : T1} {mb : S1} (hc : PTi ce X c mt) (hb : PS2 ce X body mb) : PS1 ce X (.While c body [] pos) (Js7 mt mb) := by
 intro pins s σ H ι σi h Q E N K
 unfold Js7 at K
 generalize J0c = m0 at K
 refine wpAny_While (codeAny_whileLoop (fun n s' => ∃ ιk σk hk σ' H', Now ce X pins ιk σk hk σ' H' s' /\ Nxt ι H ιk H' /\ Jcj ce X pins ιk H' (Jkf mt mb n σk hk) Q E) ?_ m0 ⟨ι, σi, h, σ, H, N, .refl, K⟩)
 rintro n s1 ⟨ι1, σ1i, h1, σ1, H1, N1, n1, K1⟩
 cases n with
 | zero => exact Zf K1
 | succ n =>
  unfold Jkf at K1
  refine nof (hc pins s1 σ1 H1 ι1 σ1i h1 _ (fun _ _ => False) N1 ?_)
  cases et : mt σ1i h1 with
  | exc m h2 => rw [et] at K1; exact Zf K1
  | stuck => rw [et] at K1; exact Zf K1
  | ok b h2 =>
   rw [et] at K1
   intro b' s2 H2 ι2 N2 n2 r2
   have r' : b' = b := r2
   subst r'
   dsimp only at K1
   cases b' with
   | false => exact wpAny_execs_nil (K1 s2 σ1 H2 ι2 N2 n2)
   | true =>
    rw [if_pos rfl]
    rw [if_pos rfl] at K1
    refine nof (hb pins s2 σ1 H2 ι2 σ1i h2 _ (fun _ _ => False) N2 ?_)
    cases eb : mb σ1i h2 with
    | next σ3 h3 =>
     rw [eb] at K1
     exact fun s3 σ3' H3 ι3 N3 n3 => ⟨n, Nat.lt_succ_self n, ι3, σ3, h3, σ3', H3, N3, (n1.trans n2).trans n3, Jcj.mono (r := Jkf mt mb n σ3 h3) K1 (n2.trans n3)⟩
    | cont σ3 h3 =>
     rw [eb] at K1
     exact fun s3 σ3' H3 ι3 N3 n3 => ⟨n, Nat.lt_succ_self n, ι3, σ3, h3, σ3', H3, N3, (n1.trans n2).trans n3, Jcj.mono (r := Jkf mt mb n σ3 h3) K1 (n2.trans n3)⟩
    | brk σ3 h3 =>
     rw [eb] at K1
     exact fun s3 σ3' H3 ι3 N3 n3 => K1 s3 σ3' H3 ι3 N3 (n2.trans n3)
    | ret v h3 =>
     rw [eb] at K1
     exact fun u s3 σ3i σ3' H3 ι3 N3 n3 r => K1 u s3 σ3i σ3' H3 ι3 N3 (n2.trans n3) r
    | exc m σ3 h3 => rw [eb] at K1; exact Zf K1
    | stuck => rw [eb] at K1; exact Zf K1
end
end L4
namespace L4
open PySem PySem.Spec PyProof.Rows L2 L3
section
variable {ce : Str -> Option Addr} {k : Nat} {P : Pg} {n : Nat} {S : Sc} {X : Cx}
theorem Jgo {f : Stmt -> S1} (hf : ∀ s, PS1 ce X s (f s)) : ∀ (l : List Stmt), PS2 ce X l (sAll (l.map f))
 | [] => J0v
 | [a] => J05 (hf a)
 | a :: b :: r => Jzo (hf a) (Jgo hf (b :: r))
end
section
variable {ce : Str -> Option Addr} {k : Nat} {P : Pg} {S : Sc} {X : Cx} {xi : Xi}
theorem Jvt (G : Good ce k P S X) (O : XiOk X.K X.mg xi) (hi : X.mg "isinstance" = none) (a : Addr) {f : Expr} {as : List Expr} {ks : List Keyword} {p : Pos} {m : Expr -> E1} (hm : ∀ e, PEi ce (Ja9 X a) e (m e)) : PEi ce (Ja9 X a) (.Call f as ks p) (Jx8 S xi f as ks m) := by
 unfold Jx8
 split
 ·rename_i x q b D q2
  split
  ·rename_i h
   simp only [Bool.and_eq_true, beq_iff_eq] at h
   obtain ⟨⟨⟨rfl, h1⟩, h2⟩, h3⟩ := h
   cases hx : xi D with
   | none => exact Jc
   | some g =>
    obtain ⟨v, hv, hg⟩ := O D g hx
    obtain ⟨gD, db, nn⟩ := G.gl h2
    have hc : ClsE (Ja9 X a) (.Name D q2) v := by
     rcases hv with z | ⟨z, w⟩
     ·exact Jqc (X := Ja9 X a) gD z db
     ·exact Jg8 (X := Ja9 X a) gD z w nn db
    refine J0s (X := Ja9 X a) (c := v) hc ⟨nofun, nofun, nofun, nofun, nofun, nofun, nofun, nofun, fun c C b e hC => ?_⟩ (hm b) (G.gl h1).1 hi rfl (Je h3) rfl rfl
    obtain ⟨e1, e2, _⟩ := hg c C b e hC
    exact ⟨e1, e2⟩
  ·exact Jc
 ·exact Jc
theorem Jzp (G : Good ce k P S X) (O : XiOk X.K X.mg xi) (hi : X.mg "isinstance" = none) (a : Addr) : ∀ n e, PEi ce (Ja9 X a) e (hv S xi n e)
 | 0, _ => Jc
 | n + 1, e => by
  have ihe := Jzp G O hi a n
  cases e with
  | Constant c j p =>
   cases c with
   | int i => exact J12
   | bool b => exact i_bl
   | none => exact J0g
   | str x => exact J1q
   | _ => exact Jc
  | Name x p =>
   show PEi ce (Ja9 X a) (.Name x p) (match S.vis x with | some i => eVar i | none => stE)
   cases hv : S.vis x with
   | some i =>
    obtain ⟨h1, h2, h3, h4⟩ := G.vis hv
    exact J1z (X := Ja9 X a) i h1 h2 h3 h4
   | none => exact Jc
  | UnaryOp op b p => exact i_un (o_un op) (ihe b)
  | BoolOp op vs p =>
   cases op with
   | And => exact Jtq ihe vs
   | Or => exact Jxw ihe vs
  | Tuple es j p =>
   show PEi ce (Ja9 X a) _ (if es.all Jn then eTup (aAll (es.map (hv S xi n))) else stE)
   split
   ·rename_i hs
    exact J0n (Jk8 hs ihe)
   ·exact Jc
  | List es p =>
   show PEi ce (Ja9 X a) _ (if es.all Jn then eLst (aAll (es.map (hv S xi n))) else stE)
   split
   ·rename_i hs
    exact J06 (Jk8 hs ihe)
   ·exact Jc
  | Call f as ks p =>
   exact Jvt G O hi a ihe
  | _ => exact Jc
theorem J07 (G : Good ce k P S X) (O : XiOk X.K X.mg xi) (hi : X.mg "isinstance" = none) (a : Addr) : ∀ n e, PTi ce (Ja9 X a) e (hT S xi n e)
 | 0, _ => Jc
 | n + 1, e => by
  have ih := J07 G O hi a n
  cases e with
  | UnaryOp op b p =>
   cases op with
   | Not => exact J1y (ih b)
   | _ => exact Jc
  | BoolOp op vs p =>
   cases op with
   | And => exact (Jtu ih vs).t
   | Or => exact (Jyw ih vs).t
  | Call f as ks p => exact Jyp Jlm (Jzp G O hi a n _)
  | _ => exact Jc
theorem J0b (G : Good ce k P S X) (O : XiOk X.K X.mg xi) (hi : X.mg "isinstance" = none) (a : Addr) : ∀ n st, PS1 ce (Ja9 X a) st (hx S xi n st)
 | 0, _ => Jo
 | n + 1, st => by
  have ih := J0b G O hi a n
  have ihe := Jzp G O hi a n
  cases st with
  | Pass p => exact Jw2
  | Return v p =>
   cases v with
   | none => exact Jo
   | some e => exact Jz9 (ihe e)
  | If c x y p => exact s_if (J07 G O hi a n c) (Jgo ih x) (Jgo ih y)
  | Assign tgs e p =>
   match tgs with
   | [] => exact Jo
   | b :: _ :: _ => cases b <;> exact Jo
   | [tg] =>
    cases tg with
    | Name x q =>
     show PS1 ce (Ja9 X a) _ (if Jfx e then (match S.sto x with | some i => sSet i (hv S xi n e) | none => stS) else stS)
     split
     ·rename_i h
      cases hv : S.sto x with
      | none => exact Jo
      | some i =>
       obtain ⟨h1, h2, h3⟩ := G.sto hv
       exact Jxu (X := Ja9 X a) G.nodup (ihe e) h1 h2 (Jee h) h3
     ·exact Jo
    | _ => exact Jo
  | _ => exact Jo
theorem hTest (G : Good ce k P S X) (O : XiOk X.K X.mg xi) {D : Str} {g : Str -> Option Bool} {q : Pos} (hx : xi D = some g) (h2 : S.gl D = true) (a : Addr) (c : Str) (C : Addr) (b : Bool) (pins : List (Addr × Obj)) (σ : L2.St) (H : Hp) (s : Shared) (Q : Bool -> Shared -> Prop) (E : Value -> Shared -> Prop) (hb : g c = some b)
  (hC : W.nsIn X.K mainGlobals c = some (some (.ref C))) (I : Inv (Ja9 X a) pins σ H s) (ho : ∃ oe, s.heap.get? a = some oe /\ oe.cls = .ref C) (hq : Q b s) : wpAny (model X.prog X.w) (Ja9 X a).A (eval (.Name D q) X.env) (fun v s₁ => wpAny (model X.prog X.w) (Ja9 X a).A (excMatches (.ref a) v) Q E s₁) E s := by
 obtain ⟨v, hv, hg⟩ := O D g hx
 obtain ⟨gD, db, nn⟩ := G.gl h2
 have hc : ClsE (Ja9 X a) (.Name D q) v := by
  rcases hv with z | ⟨z, w⟩
  ·exact Jqc (X := Ja9 X a) gD z db
  ·exact Jg8 (X := Ja9 X a) gD z w nn db
 refine hc pins σ H s _ E I ?_
 obtain ⟨_, _, e3⟩ := hg c C b hb hC
 obtain ⟨oe, h1, h2⟩ := ho
 obtain ⟨hh, gg, d, tk, os⟩ := s
 have LT : W.Looks (model X.prog X.w) hh (typeOf (.ref a)) (.ref C) := h2 ▸ (W.Looks.ld h1).andThen .now
 exact (W.exm_one (I.kIn : X.K.In hh) LT e3).at hq
theorem Js4 (G : Good ce k P S X) (O : XiOk X.K X.mg xi) (hi : X.mg "isinstance" = none) {n : Nat} : ∀ {l : List ExceptHandler} {ms : List HdI}, hHds S xi n l = some ms -> HdsOk ce X l ms
 | [], ms, e => by cases e; exact .nil
 | h :: r, ms, e => by
  unfold hHds at e
  cases e1 : hHd S xi n h with
  | none => rw [e1] at e; cases e
  | some q =>
   cases e2 : hHds S xi n r with
   | none => rw [e1, e2] at e; cases e
   | some l =>
    rw [e1, e2] at e
    cases e
    unfold hHd at e1
    split at e1
    ·rename_i D q2 nm b suite pos
     split at e1
     ·rename_i hD
      cases e3 : xi D with
      | none => rw [e3] at e1; cases e1
      | some g =>
       cases e4 : hSl S nm with
       | none => rw [e3, e4] at e1; cases e1
       | some sl =>
        rw [e3, e4] at e1
        cases e1
        refine .cons ⟨fun a c C b pins σ H s Q E hb hC I ho hq => hTest G O e3 hD a c C b pins σ H s Q E hb hC I ho hq, ?_, fun a => Jgo (J0b G O hi a n) _⟩ (Js4 G O hi e2)
        unfold hSl at e4
        cases nm with
        | none => cases e4; exact .inl ⟨rfl, rfl⟩
        | some x =>
         dsimp only at e4
         split at e4
         ·rename_i hl
          obtain ⟨i, hi', rfl⟩ := Option.map_eq_some_iff.mp e4
          refine .inr ⟨x, i, rfl, rfl, by rw [G.n]; exact Jh3 hi', ?_⟩
          rw [G.kind]
          exact beq_iff_eq.mp hl
         ·cases e4
     ·cases e1
    ·cases e1
end
section
variable {ce : Str -> Option Addr} {k : Nat} {P : Pg} {n : Nat} {S : Sc} {X : Cx}
theorem Jtc (G : Good ce k P S X) {m : Expr -> E1} (hm : ∀ e, PEi ce X e (m e)) {exc cause : Option Expr} {p : Pos} : PS1 ce X (.Raise exc cause p) (Jsv P S m exc cause) := by
 unfold Jsv
 split
 ·rename_i x q e q2
  split
  ·rename_i h
   simp only [Bool.and_eq_true] at h
   obtain ⟨⟨h1, h2⟩, h3⟩ := h
   obtain ⟨C, c1, c2, c3⟩ := G.pg.rz x h2
   obtain ⟨gx, db, _⟩ := G.gl h1
   exact Jza G.calm gx c1 c2 c3 (Jgx (hm e) Jmv (Je h3)) db (Je h3) rfl
  ·exact Jo
 ·exact Jo
theorem Jyr (G : Good ce k P S X) {m : Stmt -> S1} (hm : ∀ s, PS1 ce X s (m s)) {body : List Stmt} {hs : List ExceptHandler} {o f : List Stmt} {p : Pos} : PS1 ce X (.Try body hs o f p) (hTry P S n m body hs o f) := by
 unfold hTry
 split
 ·split
  ·rename_i h
   simp only [Bool.and_eq_true] at h
   obtain ⟨hk, hf⟩ := G.top h.1
   split
   ·rename_i ms e
    exact s_try G.nodup hk hf (Jgo hm body) (Js4 G G.pg.xi (G.pg.free _ h.2) e)
   ·exact Jo
  ·exact Jo
 ·exact Jo
theorem Jym {tg : Expr} {env : Env} (h : Jn tg = true) : (assignEach [tg] env).map (·.2) = [assign tg env] := by
 cases tg <;> first | rfl | cases h
theorem Jv3 (G : Good ce k P S X) (i : Nat) {e : Expr} {x : Str} {p q : Pos} (h : isLC e = true) (h1 : X.N[i]? = some x) (h2 : L2.Loc X.env.scope x) (h3 : X.fn x = true ∨ X.env.scope.names.lookup x = some .local) :
  PS1 ce X (.Assign [.Name x q] e p) (sSet i (ev P n S e)) := by
 cases e with
 | ListComp elt gens sc cp =>
  cases hb : (X.env.blockKind == .function && X.env.kindOf x == some .local && q.line == cp.line && !(sc.names.any fun (n, k) => n == x && (k == .local || k == .cell))) with
  | false =>
   refine Jxu G.nodup ((Jml ce k P n).e S X _ G) h1 h2 ?_ h3
   show (pure (X.env.blockKind == .function && X.env.kindOf x == some .local && q.line == cp.line && !(sc.names.any fun (n, k) => n == x && (k == .local || k == .cell))) : Sem Bool) = pure false
   rw [hb]
  | true =>
   have hsw : swapsWith (.ListComp elt gens sc cp) (some (.Name x q)) p.line X.env = pure true := by
    show (pure (X.env.blockKind == .function && X.env.kindOf x == some .local && q.line == cp.line && !(sc.names.any fun (n, k) => n == x && (k == .local || k == .cell))) : Sem Bool) = pure true
    rw [hb]
   have dead : ∀ m : E1, (∀ σ h, m σ h = .stuck) -> PS1 ce X (.Assign [.Name x q] (.ListComp elt gens sc cp) p) (sSet i m) := fun m hm => by
    intro pins s σ H ι σi h Q E N K
    unfold sSet at K
    rw [hm] at K
    exact Zf K
   cases n with
   | zero => exact dead _ fun _ _ => rfl
   | succ n =>
    have ih := Jml ce k P n
    match gens, hsw with
    | [⟨tg, iter, ifs, as⟩], hsw =>
     show PS1 ce X _ (sSet i (if as = 0 /\ Jrm iter = true /\ Jfb S.N (Jl8 sc) (Jkv sc) (jsOf S sc) S.fake sc = true then
      Jus ifs (evT P n (S.comp sc)) (fun mt => Jbi (evI P n S tg iter) (Jl8 sc).length (jsOf S sc) (tgt P n (S.comp sc) tg) mt (ev P n (S.comp sc) elt)) else stE))
     split
     ·rename_i hs
      obtain ⟨rfl, hi, ok⟩ := hs
      have Gc := G.comp ok
      have ok' := ok
      rw [<- Jo8 G] at ok'
      match ifs, hsw with
      | [], hsw => exact Jxa G.calm (ih.i S X tg iter G) (fun C s H fp => ih.g _ _ tg (Gc C s H fp)) (fun C s H fp => Jxe) (fun C s H fp => ih.e _ _ elt (Gc C s H fp)) ok' G.n rfl (Jce hi) G.nodup h1 h2 h3 hsw
      | [c], hsw => exact Jxa G.calm (ih.i S X tg iter G) (fun C s H fp => ih.g _ _ tg (Gc C s H fp)) (fun C s H fp => Jxp (ih.t _ _ c (Gc C s H fp))) (fun C s H fp => ih.e _ _ elt (Gc C s H fp)) ok' G.n rfl (Jce hi) G.nodup h1 h2 h3 hsw
      | _ :: _ :: _, _ => exact dead _ fun _ _ => rfl
     ·exact dead _ fun _ _ => rfl
    | [], _ => exact dead _ fun _ _ => rfl
    | ⟨_, _, _, _⟩ :: _ :: _, _ => exact dead _ fun _ _ => rfl
 | _ => cases h
theorem Jq3 (ce : Str -> Option Addr) (k : Nat) (P : Pg) : ∀ (n : Nat) (S : Sc) (X : Cx) (st : Stmt), Good ce k P S X -> PS1 ce X st (ex P n S st)
 | 0, _, _, _, _ => Jo
 | n + 1, S, X, st, G => by
  have ih := fun st => Jq3 ce k P n S X st G
  have E := Jml ce k P n
  have ihe := fun e => E.e S X e G
  cases st with
  | Pass p => exact Jw2
  | Break p => exact Jy2
  | Continue p => exact J11
  | Expr e p =>
   show PS1 ce X _ (if Jfx e then Jiq (ev P n S e) else stS)
   split
   ·rename_i h
    exact J1w (ihe e) (Jee h)
   ·exact Jo
  | Return v p =>
   cases v with
   | none => exact Jz0
   | some e => exact Jz9 (ihe e)
  | If c a b p => exact s_if (E.t S X c G) (Jgo ih a) (Jgo ih b)
  | Raise exc cause p => exact Jtc G ihe
  | Try body hs o f p => exact Jyr G ih
  | While c a o p =>
   cases o with
   | nil => exact Jzs (E.t S X c G) (Jgo ih a)
   | cons _ _ => exact Jo
  | For tg it a o p =>
   cases o with
   | nil =>
    show PS1 ce X _ (if Jrm it then sFor (evI P n S tg it) (tgt P n S tg) (sAll (a.map (ex P n S))) else stS)
    split
    ·rename_i h
     exact s_for G.calm (E.i S X tg it G) (E.g S X tg G) (Jgo ih a) (Jce h)
    ·exact Jo
   | cons _ _ => exact Jo
  | Assign tgs e p =>
   match tgs with
   | [] => exact Jo
   | a :: _ :: _ => cases a <;> exact Jo
   | [tg] =>
    have gen : PS1 ce X (.Assign [tg] e p) (if Jfx e && ((Jwo tg && Jx9 e) || Jwz tg) then sAsg (ev P n S e) (tgt P n S tg) else stS) := by
     split
     ·rename_i h
      simp only [Bool.and_eq_true, Bool.or_eq_true] at h
      have hst : Jn tg = true := by
       rcases h.2 with q | q
       ·cases tg <;> first | rfl | (simp [Jwo] at q)
       ·cases tg <;> first | rfl | (simp [Jwz] at q)
      refine s_asg (ihe e) (E.g S X tg G) (Jee h.1) ?_ (Jym hst)
      rcases h.2 with q | q
      ·cases tg with
       | Tuple es j pp =>
        have q2 := q.2
        cases e <;> first | rfl | (simp [Jx9] at q2)
       | _ => simp [Jwo] at q
      ·cases tg with
       | Subscript => cases e <;> rfl
       | _ => simp [Jwz] at q
     ·exact Jo
    cases tg with
    | Name x q =>
     show PS1 ce X _ (if Jfx e || isLC e then (match S.sto x with | some i => sSet i (ev P n S e) | none => stS) else stS)
     split
     ·rename_i h
      cases hv : S.sto x with
      | none => exact Jo
      | some i =>
       obtain ⟨h1, h2, h3⟩ := G.sto hv
       rcases Bool.or_eq_true _ _ ▸ h with h | h
       ·exact Jxu G.nodup (ihe e) h1 h2 (Jee h) h3
       ·exact Jv3 G i h h1 h2 h3
     ·exact Jo
    | Attribute o f q =>
     show PS1 ce X _ (if Jfx e && P.fld f then Jju f (ev P n S o) (ev P n S e) else stS)
     split
     ·rename_i h
      simp only [Bool.and_eq_true] at h
      exact s_fld (ihe o) (ihe e) (G.pg.fld f h.2) (Jee h.1)
     ·exact Jo
    | _ => exact gen
  | _ => exact Jo
end
structure D4 where
 st : Stmt
 qual : Str
 ps : List Str
 N : List Str
 dvs : List IV
noncomputable def D4.sc (d : D4) : Sc := ⟨d.N, (Jb d.st).names, true, d.qual⟩
structure Tab where
 fns : List (Str × D4)
 clss : List (Str × D4)
 meths : List (Str × List (Str × D4))
 cons : List (Str × IV)
 isas : List (Str × List Str)
 flds : List Str
 frees : List Str
 tabs : List Str := []
 razs : List Str := []
 xis : List (Str × List (Str × Bool)) := []
noncomputable def memS (x : Str) : List Str -> Bool
 | [] => false
 | y :: r => y == x || memS x r
noncomputable def Jg5 {α : Type} (x : Str) : List (Str × α) -> Option α
 | [] => none
 | (y, a) :: r => if y == x then some a else Jg5 x r
noncomputable def mkPg (T : Tab) (r : D4 -> List IV -> IH -> Res IV) : Pg where
 fn := fun x => (Jg5 x T.fns).map fun d => ⟨d.ps.length, d.dvs, r d⟩
 cls := fun x => (Jg5 x T.clss).map fun d => ⟨d.ps.length, d.dvs, r d⟩
 meth := fun c m => ((Jg5 c T.meths).bind (Jg5 m)).map fun d => ⟨d.ps.length, d.dvs, r d⟩
 con := fun x => Jg5 x T.cons
 isa := fun x => (Jg5 x T.isas).map fun l c => memS c l
 fld := fun x => memS x T.flds
 free := fun x => memS x T.frees
 tabs := fun q => ixOf q T.tabs
 rz := fun x => memS x T.razs
 xi := fun D => (Jg5 D T.xis).map fun l c => Jg5 c l
noncomputable def run (T : Tab) : Nat -> D4 -> List IV -> IH -> Res IV
 | 0, _ => fun _ _ => .stuck
 | k + 1, d => fnI d.N.length (sAll ((Jh d.st).map (ex (mkPg T (run T k)) 40 d.sc)))
theorem Jaq {α : Type} {x : Str} {a : α} : ∀ {l : List (Str × α)}, Jg5 x l = some a -> (x, a) ∈ l
 | [], h => by cases h
 | (y, b) :: r, h => by
  unfold Jg5 at h
  split at h
  ·rename_i e
   cases h
   rw [beq_iff_eq.mp e]
   exact List.mem_cons_self
  ·exact List.mem_cons_of_mem _ (Jaq h)
theorem Jjw {x : Str} : ∀ {l : List Str}, memS x l = true -> x ∈ l
 | [], h => by cases h
 | y :: r, h => by
  unfold memS at h
  rcases Bool.or_eq_true _ _ ▸ h with e | e
  ·rw [beq_iff_eq.mp e]
   exact List.mem_cons_self
  ·exact List.mem_cons_of_mem _ (Jjw e)
structure DefOk (K : W.Frag) (x : Str) (d : D4) (fa : Addr) (fd : FuncData) : Prop where
 fun_ : ∃ dV, FunD K x d.qual d.st fa fd dV
 sc : FnScope d.N d.ps (Jb d.st)
 dv : ∀ j, j <= d.dvs.length -> ∃ ds, Jg1 K fd d.ps ds /\ ds.length = d.dvs.length - j /\ ∃ vs, Vals vs ds /\ ∀ ι H, RVs K ι H (d.dvs.drop j) vs
structure TabOk (ce : Str -> Option Addr) (T : Tab) (K : W.Frag) (mg : Str -> Option Value) : Prop where
 fn : ∀ x d, (x, d) ∈ T.fns -> ∃ fa fd, mg x = some (.ref fa) /\ DefOk K x d fa fd
 cls : ∀ x d, (x, d) ∈ T.clss -> ∃ C fa fd, mg x = some (.ref C) /\ ce x = some C /\ Mk K C fa /\ DefOk K "__init__" d fa fd
 meth : ∀ c l m d, (c, l) ∈ T.meths -> (m, d) ∈ l -> ∃ C fa fd, ce c = some C /\ Cls K C /\ Meth K C m fa /\ DefOk K m d fa fd
 con : ∀ x v, (x, v) ∈ T.cons -> ∃ u y, mg x = some u /\ RelV y u /\ ∀ ι H, RV K ι H v y
 isa : ∀ D l, (D, l) ∈ T.isas -> ∃ c, mg D = some c /\ IsOk ce K c fun t => match t with | .ins c => some (memS c l) | .exc _ => none | _ => some false
 fld : ∀ f, f ∈ T.flds -> Jwh ce K f
 free : ∀ x, x ∈ T.frees -> mg x = none
 rz : ∀ x, x ∈ T.razs -> ∃ C, mg x = some (.ref C) /\ W.nsIn K mainGlobals x = some (some (.ref C)) /\ XCls K C
 xi : ∀ D l, (D, l) ∈ T.xis -> ∃ v, (mg D = some v ∨ (mg D = none /\ bootBuiltins D = some v)) /\ ∀ c b, (c, b) ∈ l -> ∃ C, W.nsIn K mainGlobals c = some (some (.ref C)) /\ ExI K C /\ W.kitOne K (.ref C) v = some b /\ W.exmOne K (.ref C) v = some b
section
variable {ce : Str -> Option Addr} {T : Tab} {prog : Program} {w : World} {K : W.Frag} {mg : Str -> Option Value} {base : Heap}
theorem Jrl {k : Nat} {fa : Addr} {fd : FuncData} {ps : List Str} : FnOk prog w K mg base (CXI prog w) k fa fd ps (spI ce K ps fun _ _ => .stuck) :=
 ⟨fun _ _ _ _ h => h.1, fun _ _ _ _ _ _ _ _ _ _ _ _ _ h => by obtain ⟨_, _, _, _, _, _, z⟩ := h; exact z.elim⟩
theorem pg_of (O : TabOk ce T K mg) (B : T.tabs ≠ [] -> Jwi mg base) (k : Nat) (hD : ∀ x d fa fd, DefOk K x d fa fd -> FnD ce prog w K mg base (4 * k) ⟨d.ps.length, d.dvs, run T k d⟩ fa fd d.ps) : PgOk ce (4 * k) (mkPg T (run T k)) prog w K mg base := by
 refine ⟨fun x f h => ?_, fun x f h => ?_, fun c m f h => ?_, fun x v h => ?_, fun D g h => ?_, fun f h => ?_, fun x h => ?_, fun q j h => B fun e => ?_, fun x h => O.rz x (Jjw h), fun D g h => ?_⟩
 ·obtain ⟨d, hd, rfl⟩ := Option.map_eq_some_iff.mp h
  obtain ⟨fa, fd, hm, ok⟩ := O.fn x d (Jaq hd)
  obtain ⟨dV, F⟩ := ok.fun_
  exact ⟨fa, fd, d.ps, hm, F.kp, hD x d fa fd ok⟩
 ·obtain ⟨d, hd, rfl⟩ := Option.map_eq_some_iff.mp h
  obtain ⟨C, fa, fd, hm, hC, M, ok⟩ := O.cls x d (Jaq hd)
  exact ⟨C, fa, fd, d.ps, hm, hC, M, hD _ d fa fd ok⟩
 ·obtain ⟨d, hd, rfl⟩ := Option.map_eq_some_iff.mp h
  obtain ⟨l, hl, hd⟩ := Option.bind_eq_some_iff.mp hd
  obtain ⟨C, fa, fd, hC, cl, me, ok⟩ := O.meth c l m d (Jaq hl) (Jaq hd)
  exact ⟨C, fa, fd, d.ps, hC, cl, me, hD m d fa fd ok⟩
 ·exact O.con x v (Jaq h)
 ·obtain ⟨l, hl, rfl⟩ := Option.map_eq_some_iff.mp h
  exact O.isa D l (Jaq hl)
 ·exact O.fld f (Jjw h)
 ·exact O.free x (Jjw h)
 ·have h' : ixOf q T.tabs = some j := h
  rw [e] at h'
  cases h'
 ·obtain ⟨l, hl, rfl⟩ := Option.map_eq_some_iff.mp h
  obtain ⟨v, hv, hc⟩ := O.xi D l (Jaq hl)
  refine ⟨v, hv, fun c C b e hC => ?_⟩
  obtain ⟨C', h1, h2⟩ := hc c b (Jaq e)
  rw [hC] at h1
  cases h1
  exact h2
theorem Jw5 (O : TabOk ce T K mg) (B : T.tabs ≠ [] -> Jwi mg base) : ∀ k x d fa fd, DefOk K x d fa fd -> FnD ce prog w K mg base (4 * k) ⟨d.ps.length, d.dvs, run T k d⟩ fa fd d.ps
 | 0, x, d, fa, fd, ok => ⟨rfl, Jrl, ok.dv⟩
 | k + 1, x, d, fa, fd, ok => by
  refine ⟨rfl, ?_, ok.dv⟩
  obtain ⟨dV, F⟩ := ok.fun_
  show FnOk prog w K mg base (CXI prog w) (4 * k + 3 + 1) fa fd d.ps (spI ce K d.ps (run T (k + 1) d))
  refine F.fn (m := sAll ((Jh d.st).map (ex (mkPg T (run T k)) 40 d.sc))) ok.sc fun cdv A outer s H E hcd hr => ?_
  refine Jgo (fun st => Jq3 ce (4 * k) (mkPg T (run T k)) 40 d.sc _ st ?_) _
  exact ⟨rfl, rfl, ok.sc.nd, ok.sc.kind, rfl, hr.mono (by omega), fun _ _ => rfl, pg_of O B k (Jw5 O B k), fun _ => ⟨hcd, rfl⟩, fun _ => hr, fun _ => ⟨rfl, rfl⟩⟩
end
end L4
namespace L4
open PySem PySem.Spec PyProof.Rows L2 L3
inductive All {α : Type} (p : α -> Prop) : List α -> Prop
 | nil : All p []
 | cons {a : α} {l : List α} : p a -> All p l -> All p (a :: l)
theorem All.mem {α : Type} {p : α -> Prop} : ∀ {l : List α} {a : α}, All p l -> a ∈ l -> p a
 | _, _, .nil, h => by cases h
 | _, _, .cons h r, m => by
  rcases List.mem_cons.mp m with rfl | m
  ·exact h
  ·exact r.mem m
noncomputable def Jtf (l : List Str) : Ty -> Option Bool := fun t => match t with | .ins c => some (memS c l) | .exc _ => none | _ => some false
section
variable {T : Tab} {K : W.Frag} {mg : Str -> Option Value}
noncomputable def ceOf (ces : List (Str × Addr)) : Str -> Option Addr := fun c => Jg5 c ces
theorem J0m (ces : List (Str × Addr)) (fn : All (fun p : Str × D4 => ∃ fa fd, mg p.1 = some (.ref fa) /\ DefOk K p.1 p.2 fa fd) T.fns)
  (cls : All (fun p : Str × D4 => ∃ C fa fd, mg p.1 = some (.ref C) /\ ceOf ces p.1 = some C /\ Mk K C fa /\ DefOk K "__init__" p.2 fa fd) T.clss)
  (meth : All (fun q : Str × List (Str × D4) => ∃ C, ceOf ces q.1 = some C /\ All (fun p : Str × D4 => ∃ fa fd, Meth K C p.1 fa /\ DefOk K p.1 p.2 fa fd) q.2) T.meths)
  (con : All (fun p : Str × IV => ∃ u y, mg p.1 = some u /\ RelV y u /\ ∀ ι H, RV K ι H p.2 y) T.cons)
  (cl : All (fun p : Str × Addr => ClsI K p.2 /\ All (fun f => Jh5 K p.2 f) T.flds) ces)
  (isa : All (fun q : Str × List Str => ∃ D, mg q.1 = some (.ref D) /\ W.kitOne K (.type "NoneType") (.ref D) = some false /\ W.kitOne K (.type "bool") (.ref D) = some false /\ W.kitOne K (.type "int") (.ref D) = some false /\ W.kitOne K (.type "str") (.ref D) = some false /\
   W.kitOne K (.type "list") (.ref D) = some false /\ W.kitOne K (.type "tuple") (.ref D) = some false /\ W.kitOne K (.type "dict") (.ref D) = some false /\ All (fun p : Str × Addr => W.kitOne K (.ref p.2) (.ref D) = some (memS p.1 q.2)) ces) T.isas)
  (free : All (fun x => mg x = none) T.frees)
  (raz : All (fun x => ∃ C, mg x = some (.ref C) /\ W.nsIn K mainGlobals x = some (some (.ref C)) /\ XCls K C) T.razs := by exact True.intro)
  (xis : All (fun q : Str × List (Str × Bool) => ∃ v, (mg q.1 = some v ∨ (mg q.1 = none /\ bootBuiltins q.1 = some v)) /\ All (fun p : Str × Bool => ∃ C, W.nsIn K mainGlobals p.1 = some (some (.ref C)) /\ ExI K C /\ W.kitOne K (.ref C) v = some p.2 /\ W.exmOne K (.ref C) v = some p.2) q.2) T.xis := by exact True.intro) : TabOk (ceOf ces) T K mg := by
 refine ⟨fun x d h => fn.mem h, fun x d h => cls.mem h, fun c l m d hc hm => ?_, fun x v h => con.mem h, fun D l h => ?_, fun f hf => ?_, fun x h => free.mem h, fun x h => raz.mem h, fun D l h => ?_⟩
 ·obtain ⟨C, hC, hl⟩ := meth.mem hc
  obtain ⟨fa, fd, me, ok⟩ := hl.mem hm
  exact ⟨C, fa, fd, hC, (cl.mem (Jaq hC)).1.cl, me, ok⟩
 ·obtain ⟨C, hC, h1, h2, h3, h4, h5, h6, h7, h8⟩ := isa.mem h
  refine ⟨_, hC, ⟨fun b e => ?_, fun b e => ?_, fun b e => ?_, fun b e => ?_, fun b e => ?_, fun b e => ?_, fun b e => ?_, fun k C' b e hk => ?_, (fun k C' b e => by cases e)⟩⟩
  ·cases e; exact h1
  ·cases e; exact h2
  ·cases e; exact h3
  ·cases e; exact h4
  ·cases e; exact h5
  ·cases e; exact h6
  ·cases e; exact h7
  ·cases e
   exact ⟨(cl.mem (Jaq hk)).1, h8.mem (Jaq hk)⟩
 ·intro c C e
  obtain ⟨h1, h2⟩ := cl.mem (Jaq e)
  exact ⟨h1.cl, h2.mem hf⟩
 ·obtain ⟨v, hv, hl⟩ := xis.mem h
  exact ⟨v, hv, fun c b hc => hl.mem hc⟩
theorem len1 {α : Type} {P : List α -> Prop} (F0 : ∀ a, P [a]) : ∀ us : List α, us.length = 1 -> P us
 | [a], _ => F0 a
theorem len2 {α : Type} {P : List α -> Prop} (F0 : ∀ a b, P [a, b]) : ∀ us : List α, us.length = 2 -> P us
 | [a, b], _ => F0 a b
theorem len3 {α : Type} {P : List α -> Prop} (F0 : ∀ a b c, P [a, b, c]) : ∀ us : List α, us.length = 3 -> P us
 | [a, b, c], _ => F0 a b c
theorem len4 {α : Type} {P : List α -> Prop} (F0 : ∀ a b c d, P [a, b, c, d]) : ∀ us : List α, us.length = 4 -> P us
 | [a, b, c, d], _ => F0 a b c d
theorem len5 {α : Type} {P : List α -> Prop} (F0 : ∀ a b c d e, P [a, b, c, d, e]) : ∀ us : List α, us.length = 5 -> P us
 | [a, b, c, d, e], _ => F0 a b c d e
theorem len6 {α : Type} {P : List α -> Prop} (F0 : ∀ a b c d e f, P [a, b, c, d, e, f]) : ∀ us : List α, us.length = 6 -> P us
 | [a, b, c, d, e, f], _ => F0 a b c d e f
theorem len7 {α : Type} {P : List α -> Prop} (F0 : ∀ a b c d e f g, P [a, b, c, d, e, f, g]) : ∀ us : List α, us.length = 7 -> P us
 | [a, b, c, d, e, f, g], _ => F0 a b c d e f g
theorem upto3 : ∀ j : Nat, j <= 3 -> j = 0 ∨ j = 1 ∨ j = 2 ∨ j = 3 := by omega
theorem Jai {x : Str} {d : D4} {fa : Addr} {oc kV doc pm cdv ct : Value} {od an : Option Addr} {osl : Array (Option Value)} (lk : K.lookup fa = some ⟨oc, od, .func (W.fnOf x d.qual (Jl d.st) (Jh d.st) (Jb d.st) .none kV doc pm an cdv ct), osl⟩)
  (hc : W.codeIn K cdv d.qual = true) (hk : W.keepIn K (.ref fa) = true) (sc : FnScope d.N d.ps (Jb d.st)) (hd : d.dvs = [])
  (hb : ∀ us : List Value, us.length = d.ps.length -> bindArgs (W.fnOf x d.qual (Jl d.st) (Jh d.st) (Jb d.st) .none kV doc pm an cdv ct) ⟨us, []⟩ = pure (d.ps.zip us)) :
  DefOk K x d fa (W.fnOf x d.qual (Jl d.st) (Jh d.st) (Jb d.st) .none kV doc pm an cdv ct) :=
 ⟨⟨_, ⟨oc, od, kV, doc, pm, an, cdv, ct, osl, rfl, lk, hc⟩, hk⟩, sc, fun j hj => ⟨[], .all hb, by rw [hd]; simp, [], .nil, by rw [hd]; intro _ _; cases j <;> exact rfl⟩⟩
noncomputable def scOk (N P : List Str) (sc : Scope) : Bool :=
 sc.kind == .function && !sc.isCoroutine && !sc.isGenerator && decide N.Nodup && decide (N.take P.length = P) && P.all (fun x => sc.names.lookup x == some .local || sc.names.lookup x == some .cell) && sc.names.all (fun y => !(y.2 == .free))
theorem scOk.of {N P : List Str} {sc : Scope} (h : scOk N P sc = true) : FnScope N P sc := by
 simp only [scOk, Bool.and_eq_true, beq_iff_eq, Bool.not_eq_true', decide_eq_true_eq, List.all_eq_true, Bool.or_eq_true, beq_eq_false_iff_ne] at h
 obtain ⟨⟨⟨⟨⟨⟨h1, h2⟩, h3⟩, h4⟩, h5⟩, h6⟩, h7⟩ := h
 exact ⟨h1, h2, h3, h4, h5, h6, h7⟩
theorem Jzr {ce : Str -> Option Addr} {prog : Program} {w : World} {base : Heap} (O : TabOk ce T K mg) (B : T.tabs ≠ [] -> Jwi mg base) (k : Nat) {d : D4} {fa : Addr} {fd : FuncData} {x : Str} (hp : d.ps = [x]) (ok : DefOk K "law" d fa fd) :
  FnOk prog w K mg base (CXI prog w) (4 * k) fa fd [x] (Jrw K x (run T k d)) := by
 have := (Jw5 (prog := prog) (w := w) (base := base) O B k "law" d fa fd ok).ok
 rw [hp] at this
 exact Jv4 this
end
end L4
namespace L4
open PySem PySem.Spec PyProof.Rows L2 L3
noncomputable def WR {α : Type} (r : Res α) (Q : α -> IH -> Prop) : Prop := match r with
 | .ok a h => Q a h
 | _ => False
noncomputable def WS (r : SRes) (N : ISt -> IH -> Prop) (R : IV -> IH -> Prop) : Prop := match r with
 | .next σ h => N σ h
 | .ret v h => R v h
 | _ => False
section
variable {α β : Type} {σ : ISt} {h : IH} {Q : α -> IH -> Prop} {N : ISt -> IH -> Prop} {R : IV -> IH -> Prop}
theorem WR.mono {r : Res α} {P Q : α -> IH -> Prop} (x : WR r P) (f : ∀ a h, P a h -> Q a h) : WR r Q := by
 cases r with
 | ok a h => exact f a h x
 | exc n h => exact x
 | stuck => exact x
theorem WR.of_eq {r : Res α} {a : α} {h : IH} (e : r = .ok a h) (q : Q a h) : WR r Q := by rw [e]; exact q
theorem WR.eq {r : Res α} (x : WR r Q) : ∃ a h, r = .ok a h /\ Q a h := by
 cases r with
 | ok a h => exact ⟨a, h, rfl, x⟩
 | exc n h => exact x.elim
 | stuck => exact x.elim
theorem WS.mono {r : SRes} {N N' : ISt -> IH -> Prop} {R R' : IV -> IH -> Prop} (x : WS r N R) (f : ∀ σ h, N σ h -> N' σ h) (g : ∀ v h, R v h -> R' v h) : WS r N' R' := by
 cases r with
 | next σ h => exact f σ h x
 | ret v h => exact g v h x
 | _ => exact x
theorem Jd5 (a : α) : WR (.ok a h) Q = Q a h := rfl
theorem Jvz : WR (.stuck : Res α) Q = False := rfl
theorem Jd (r : Res α) (f : α -> IH -> Res β) (Q : β -> IH -> Prop) : WR (r.bind f) Q = WR r fun a h => WR (f a h) Q := by cases r <;> rfl
theorem Jhh (r : Res α) : WR r.nx Q = WR r Q := by cases r <;> rfl
theorem Jf2 (c : Prop) [Decidable c] (x y : Res α) : WR (if c then x else y) Q = ((c -> WR x Q) /\ (¬ c -> WR y Q)) := by
 by_cases hc : c <;> simp [hc]
theorem Jc2 (r : Res α) (k : α -> IH -> SRes) : WS (rS σ r k) N R = WR r fun a h => WS (k a h) N R := by cases r <;> rfl
theorem Jcv (r : SRes) (Q : IV -> IH -> Prop) : WR r.fin Q = WS r (fun _ h => Q .non h) Q := by
 cases r with
 | exc n σ h => show WR (match h[n]? with | some (.exc _ _) => Res.exc n h | _ => Res.stuck) Q = False; split <;> rfl
 | _ => rfl
theorem Jb2 (σ : ISt) : WS (.next σ h) N R = N σ h := rfl
theorem Jdc (v : IV) : WS (.ret v h) N R = R v h := rfl
theorem Jco (a b : S1) : WS (sSeq a b σ h) N R = WS (a σ h) (fun σ1 h1 => WS (b σ1 h1) N R) R := by
 unfold sSeq; cases a σ h <;> rfl
theorem Jdu : WS (sNil σ h) N R = N σ h := rfl
theorem Jb4 : WS (Jvl σ h) N R = N σ h := rfl
theorem Jdp (i : Nat) (e : E1) : WS (sSet i e σ h) N R = WR (e σ h) fun v h1 => N (σ.set i (some v)) h1 := by unfold sSet; rw [Jc2]; rfl
theorem Jib (t : T1) (a b : S1) : WS (sIf t a b σ h) N R = WR (t σ h) fun c h1 => (c = true -> WS (a σ h1) N R) /\ (c = false -> WS (b σ h1) N R) := by
 unfold sIf; rw [Jc2]; congr 1; funext c h1; cases c <;> simp
theorem Jb0 (e : E1) : WS (sRet e σ h) N R = WR (e σ h) R := by unfold sRet; rw [Jc2]; rfl
theorem Jbx : WS (Jzx σ h) N R = R .non h := rfl
theorem Jb3 (e : E1) : WS (Jiq e σ h) N R = WR (e σ h) fun _ h1 => N σ h1 := by unfold Jiq; rw [Jc2]; rfl
theorem Jdj (e : E1) (g : G1) : WS (sAsg e g σ h) N R = WR (e σ h) fun v h1 => WS (g v σ h1) N R := by unfold sAsg; rw [Jc2]
theorem Jdy (i : Nat) (v : IV) : WS (gNm i v σ h) N R = N (σ.set i (some v)) h := rfl
theorem Jtk (n : Nat) (g : List IV -> ISt -> IH -> SRes) (xs : List IV) : WS (gTp n g (.tup xs) σ h) N R = (xs.length = n /\ WS (g xs σ h) N R) := by
 unfold gTp
 by_cases hn : xs.length = n
 ·simp [hn]
 ·simp [hn, WS]
theorem Jyt : WS (gN [] σ h) N R = N σ h := rfl
theorem Jy9 (i : Nat) (r : List IV -> ISt -> IH -> SRes) (v : IV) (vs : List IV) : WS (gC (gNm i) r (v :: vs) σ h) N R = WS (r vs (σ.set i (some v)) h) N R := rfl
theorem Jpx (f : Str) (o e : E1) : WS (Jju f o e σ h) N R = WR (e σ h) fun v h1 => WR (o σ h1) fun ov h2 => ∃ i c fs, ov = .ref i /\ h2[i]? = some (.ins c fs) /\ fs.length < 1000 /\ N σ (h2.set i (.ins c (putI f v fs))) := by
 unfold Jju; rw [Jc2]; congr 1; funext v h1; rw [Jc2]; congr 1; funext ov h2
 cases ov with
 | ref i =>
  cases e : h2[i]? with
  | none => simp [WS, e]
  | some o =>
   cases o with
   | ins c fs =>
    by_cases hl : fs.length < 1000
    ·simp only [e, hl, if_true, WS]
     refine propext ⟨fun q => ⟨i, c, fs, rfl, e, hl, q⟩, fun ⟨i', c', fs', e1, e2, _, q⟩ => ?_⟩
     cases e1
     rw [e] at e2
     cases e2
     exact q
    ·simp only [e, hl, if_false, WS]
     refine propext ⟨fun q => q.elim, fun ⟨i', c', fs', e1, e2, hl', _⟩ => ?_⟩
     cases e1
     rw [e] at e2
     cases e2
     exact hl hl'
   | _ => simp [WS, e]
 | _ => simp [WS]
theorem Jd0 (it : I1) (g : G1) (b : S1) : WS (sFor it g b σ h) N R = WR (it σ h) fun J h1 => WS (Jg9 J.chk g b J.xs σ h1) N R := by unfold sFor; rw [Jc2]
theorem Jqg (v : IV) (Q : IV -> IH -> Prop) : WR (eC v σ h) Q = Q v h := rfl
theorem Jd1 (f : IV -> IV -> IH -> Res IV) (a b : E1) (Q : IV -> IH -> Prop) : WR (eBin f a b σ h) Q = WR (a σ h) fun x h1 => WR (b σ h1) fun y h2 => WR (f x y h2) Q := by
 unfold eBin; rw [Jd]; congr 1; funext x h1; rw [Jd]
theorem Jhy (f : IV -> IH -> Res IV) (a : E1) (Q : IV -> IH -> Prop) : WR (eUn f a σ h) Q = WR (a σ h) fun x h1 => WR (f x h1) Q := by unfold eUn; rw [Jd]
theorem Jdh (a b : E1) (tr : IV -> IH -> Res Bool) (Q : IV -> IH -> Prop) : WR (eAnd a b tr σ h) Q = WR (a σ h) fun x h1 => WR (tr x h1) fun c h2 => (c = true -> WR (b σ h2) Q) /\ (c = false -> Q x h2) := by
 unfold eAnd; rw [Jd]; congr 1; funext x h1; rw [Jd]; congr 1; funext c h2; cases c <;> simp [WR]
theorem Jil (a b : E1) (tr : IV -> IH -> Res Bool) (Q : IV -> IH -> Prop) : WR (eOr a b tr σ h) Q = WR (a σ h) fun x h1 => WR (tr x h1) fun c h2 => (c = true -> Q x h2) /\ (c = false -> WR (b σ h2) Q) := by
 unfold eOr; rw [Jd]; congr 1; funext x h1; rw [Jd]; congr 1; funext c h2; cases c <;> simp [WR]
theorem Jis (t : T1) (a b : E1) (Q : IV -> IH -> Prop) : WR (eIf t a b σ h) Q = WR (t σ h) fun c h1 => (c = true -> WR (a σ h1) Q) /\ (c = false -> WR (b σ h1) Q) := by
 unfold eIf; rw [Jd]; congr 1; funext c h1; cases c <;> simp
theorem Jbp (a b : T1) (Q : Bool -> IH -> Prop) : WR (Jn0 a b σ h) Q = WR (a σ h) fun c h1 => (c = true -> WR (b σ h1) Q) /\ (c = false -> Q false h1) := by
 unfold Jn0; rw [Jd]; congr 1; funext c h1; cases c <;> simp [WR]
theorem Jdo (a b : T1) (Q : Bool -> IH -> Prop) : WR (tOrI a b σ h) Q = WR (a σ h) fun c h1 => (c = true -> Q true h1) /\ (c = false -> WR (b σ h1) Q) := by
 unfold tOrI; rw [Jd]; congr 1; funext c h1; cases c <;> simp [WR]
theorem Jbq (a : T1) (Q : Bool -> IH -> Prop) : WR (Jbd a σ h) Q = WR (a σ h) fun c h1 => Q (!c) h1 := by unfold Jbd; rw [Jd]; rfl
theorem Jbz (tr : IV -> IH -> Res Bool) (a : E1) (Q : Bool -> IH -> Prop) : WR (tOfB tr a σ h) Q = WR (a σ h) fun x h1 => WR (tr x h1) Q := by unfold tOfB; rw [Jd]
theorem Jar (f g : IV -> IV -> IH -> Res IV) (a b c : E1) (Q : IV -> IH -> Prop) : WR (Jfw f g a b c σ h) Q = WR (a σ h) fun x h1 => WR (b σ h1) fun y h2 => WR (f x y h2) fun k h3 => ∃ t, k = .bl t /\ (t = true -> WR (c σ h3) fun z h4 => WR (g y z h4) Q) /\ (t = false -> Q (.bl false) h3) := by
 unfold Jfw; rw [Jd]; congr 1; funext x h1; rw [Jd]; congr 1; funext y h2; rw [Jd]; congr 1; funext k h3
 cases k with
 | bl t =>
  cases t with
  | true =>
   show WR ((c σ h3).bind fun z h4 => g y z h4) Q = _
   rw [Jd]
   simp
  | false => simp [WR]
 | _ => simp [WR]
theorem Jb6 (Q : List IV -> IH -> Prop) : WR (aNil σ h) Q = Q [] h := rfl
theorem Jax (a : E1) (r : A1) (Q : List IV -> IH -> Prop) : WR (Ja a r σ h) Q = WR (a σ h) fun x h1 => WR (r σ h1) fun xs h2 => Q (x :: xs) h2 := by
 unfold Ja; rw [Jd]; congr 1; funext x h1; rw [Jd]; rfl
theorem Jdn (a : A1) (Q : IV -> IH -> Prop) : WR (eTup a σ h) Q = WR (a σ h) fun xs h1 => xs.length <= sizeLine /\ Q (.tup xs) h1 := by
 unfold eTup; rw [Jd]; congr 1; funext xs h1; rw [Jf2]
 by_cases hz : xs.length <= sizeLine <;> simp [hz, WR]
theorem Jc9 (a : A1) (Q : IV -> IH -> Prop) : WR (eLst a σ h) Q = WR (a σ h) fun xs h1 => xs.length <= sizeLine /\ Q (.ref h1.length) (h1 ++ [.lst xs]) := by
 unfold eLst; rw [Jd]; congr 1; funext xs h1; rw [Jf2]
 by_cases hz : xs.length <= sizeLine <;> simp [hz, WR]
theorem Jbw (f : List IV -> IH -> Res IV) (d : List IV) (a : A1) (Q : IV -> IH -> Prop) : WR (Jy f d a σ h) Q = WR (a σ h) fun vs h1 => WR (f (vs ++ d) h1) Q := by
 unfold Jy; rw [Jd]
theorem Jby (c : Str) (f : List IV -> IH -> Res IV) (d : List IV) (a : A1) (Q : IV -> IH -> Prop) : WR (Jkq c f d a σ h) Q = WR (a σ h) fun vs h1 => WR (f (.ref h1.length :: (vs ++ d)) (h1 ++ [.ins c []])) fun r h2 => r = .non /\ Q (.ref h1.length) h2 := by
 unfold Jkq; rw [Jd]; congr 1; funext vs h1; rw [Jd]; congr 1; funext r h2; cases r <;> simp [WR]
theorem Jhr (f : List IV -> IH -> Res IV) (a : A1) (Q : IV -> IH -> Prop) : WR (eCB f a σ h) Q = WR (a σ h) fun vs h1 => WR (f vs h1) Q := by unfold eCB; rw [Jd]
theorem Jdm (f : IV -> IH -> Res IV) (x : IV) (Q : IV -> IH -> Prop) : WR (on1 f [x] h) Q = WR (f x h) Q := rfl
theorem Jdx (ans : Ty -> Option Bool) (e : E1) (Q : IV -> IH -> Prop) : WR (eIsi ans e σ h) Q = WR (e σ h) fun v h1 => ∃ b, (tyI v h1).bind ans = some b /\ Q (.bl b) h1 := by
 unfold eIsi; rw [Jd]; congr 1; funext v h1
 cases (tyI v h1).bind ans <;> simp [WR]
theorem Jav (Q : Option Int -> IH -> Prop) : WR (Jmh σ h) Q = Q none h := rfl
theorem Jaz (e : E1) (Q : Option Int -> IH -> Prop) : WR (Jle e σ h) Q = WR (e σ h) fun v h1 => ∃ i, v = .int i /\ Q (some i) h1 := by
 unfold Jle; rw [Jd]; congr 1; funext v h1; cases v <;> simp [WR]
theorem Ji4 (f : IV -> Option Int -> Option Int -> IH -> Res IV) (e : E1) (lo hi : O1) (Q : IV -> IH -> Prop) : WR (eSl f e lo hi σ h) Q = WR (e σ h) fun x h1 => WR (lo σ h1) fun l h2 => WR (hi σ h2) fun u h3 => WR (f x l u h3) Q := by
 unfold eSl; rw [Jd]; congr 1; funext x h1; rw [Jd]; congr 1; funext l h2; rw [Jd]
noncomputable def Jnu (f : Str) (v : IV) (h : IH) : Option IV := match v with
 | .ref i => (match h[i]? with
  | some (.ins _ fs) => fs.lookup f
  | _ => none)
 | _ => none
theorem Jde (f : Str) (o : E1) (Q : IV -> IH -> Prop) : WR (eFld f o σ h) Q = WR (o σ h) fun v h1 => ∃ x, Jnu f v h1 = some x /\ Q x h1 := by
 unfold eFld; rw [Jd]; congr 1; funext v h1
 cases v with
 | ref i =>
  unfold Jnu
  cases e : h1[i]? with
  | none => simp [WR, e]
  | some ob =>
   cases ob with
   | ins c fs => cases e2 : fs.lookup f <;> simp [WR, e, e2]
   | _ => simp [WR, e]
 | _ => simp [WR, Jnu]
variable {i j : Int} {x y : Str} {P : IV -> IH -> Prop}
theorem Jdw (i j : Int) : WR (Jam (.int i) (.int j) h) P = P (.int (i + j)) h := rfl
theorem Jdf (i j : Int) : WR (Jl5 (.int i) (.int j) h) P = P (.int (i - j)) h := rfl
theorem Jdd (i : Int) : WR (Jvy (.int i) h) P = P (.int (-i)) h := rfl
theorem Jds (i j : Int) : WR (Jbe (.int i) (.int j) h) P = (Jat i j /\ P (.int (i * j)) h) := by
 show WR (Jro (.int i) (.int j) h) P = _
 unfold Jro; rw [Jf2]; by_cases hm : Jat i j <;> simp [hm, WR]
theorem Jb5 (i j : Int) : WR (Jdb (.int i) (.int j) h) P = ((0 < j /\ j.natAbs.log2 < 9000) /\ P (.int (i / j)) h) := by
 unfold Jdb; rw [Jf2]; by_cases hm : 0 < j /\ j.natAbs.log2 < 9000 <;> simp [hm, WR]
theorem Jdq (i j : Int) : WR (Jbj (.int i) (.int j) h) P = (0 < j /\ P (.int (i % j)) h) := by
 unfold Jbj; rw [Jf2]; by_cases hm : 0 < j <;> simp [hm, WR]
theorem Jdr (i j : Int) : WR (Jkx (.int i) (.int j) h) P = ((0 <= j /\ j <= 1000000 /\ i.natAbs < 2 ^ 64) /\ P (.int (i ^ j.toNat)) h) := by
 unfold Jkx; rw [Jf2]; by_cases hm : 0 <= j /\ j <= 1000000 /\ i.natAbs < 2 ^ 64 <;> simp [hm, WR]
theorem Jbr (x y : Str) : WR (Jam (.str x) (.str y) h) P = (x.length + y.length <= sizeLine /\ P (.str (x ++ y)) h) := by
 unfold Jam; rw [Jf2]; by_cases hm : x.length + y.length <= sizeLine <;> simp [hm, WR]
theorem Jh1 (i j : Int) : WR (cLt (.int i) (.int j) h) P = P (.bl (decide (i < j))) h := rfl
theorem Jiu (i j : Int) : WR (cLe (.int i) (.int j) h) P = P (.bl (decide (i <= j))) h := rfl
theorem J1g (x y : Str) : WR (cLe (.str x) (.str y) h) P = P (.bl (!decide (y.cps.toList < x.cps.toList))) h := rfl
theorem Jiy (i j : Int) : WR (cGt (.int i) (.int j) h) P = P (.bl (decide (j < i))) h := rfl
theorem Jii (i j : Int) : WR (cGe (.int i) (.int j) h) P = P (.bl (decide (j <= i))) h := rfl
theorem Jho (i j : Int) : WR (cEq (.int i) (.int j) h) P = P (.bl (decide (i = j))) h := rfl
theorem Jhe (i j : Int) : WR (cNe (.int i) (.int j) h) P = P (.bl (!decide (i = j))) h := rfl
theorem Jc5 (x y : Str) : WR (cEq (.str x) (.str y) h) P = P (.bl (decide (x = y))) h := rfl
theorem Jdk (x y : Str) : WR (cNe (.str x) (.str y) h) P = P (.bl (!decide (x = y))) h := rfl
theorem Jdg (b : Bool) (P : Bool -> IH -> Prop) : WR (asB (.bl b) h) P = P b h := rfl
theorem Jbv (b : Bool) (P : Bool -> IH -> Prop) : WR (tru (.bl b) h) P = P b h := rfl
theorem Jdi (tr : IV -> IH -> Res Bool) (v : IV) : WR (Jpa tr v h) P = WR (tr v h) fun c h1 => P (.bl (!c)) h1 := by unfold Jpa; rw [Jd]; rfl
theorem Jtn (v w : IV) : WR (cIs v w h) P = ∃ b, isI v w = some b /\ P (.bl b) h := by unfold cIs; cases isI v w <;> simp [WR]
theorem Jek {chk : IH -> Prop} {g : G1} {b : S1} (I : Nat -> ISt -> IH -> Prop) {xs : List IV} (hc : ∀ i σ h, I i σ h -> chk h)
  (turn : ∀ i (hi : i < xs.length) σ h, I i σ h -> WS (g xs[i] σ h) (fun σ1 h1 => WS (b σ1 h1) (I (i + 1)) R) fun _ _ => False) (done : ∀ σ h, I xs.length σ h -> N σ h) (start : I 0 σ h) : WS (Jg9 chk g b xs σ h) N R := by
 have key : ∀ (n i : Nat) (σ : ISt) (h : IH), xs.length - i = n -> i <= xs.length -> I i σ h -> WS (Jg9 chk g b (xs.drop i) σ h) N R := by
  intro n
  induction n with
  | zero =>
   intro i σ h hn hi hI
   have : i = xs.length := by omega
   subst this
   rw [List.drop_length]
   unfold Jg9
   rw [if_pos (hc _ _ _ hI)]
   exact done _ _ hI
  | succ n ih =>
   intro i σ h hn hi hI
   have hlt : i < xs.length := by omega
   rw [List.drop_eq_getElem_cons hlt]
   unfold Jg9
   rw [if_pos (hc _ _ _ hI)]
   have t := turn i hlt σ h hI
   cases eg : g xs[i] σ h with
   | next σ1 h1 =>
    rw [eg] at t
    have t' : WS (b σ1 h1) (I (i + 1)) R := t
    dsimp only
    cases eb : b σ1 h1 with
    | next σ2 h2 => rw [eb] at t'; exact ih (i + 1) σ2 h2 (by omega) hlt t'
    | ret v h2 => rw [eb] at t'; exact t'
    | brk σ2 h2 => rw [eb] at t'; exact t'.elim
    | cont σ2 h2 => rw [eb] at t'; exact t'.elim
    | exc m σ2 h2 => rw [eb] at t'; exact t'.elim
    | stuck => rw [eb] at t'; exact t'.elim
   | ret v h1 => rw [eg] at t; exact t.elim
   | brk σ2 h2 => rw [eg] at t; exact t.elim
   | cont σ2 h2 => rw [eg] at t; exact t.elim
   | exc m σ2 h2 => rw [eg] at t; exact t.elim
   | stuck => rw [eg] at t; exact t.elim
 have := key xs.length 0 σ h (by omega) (Nat.zero_le _) start
 simpa using this
end
end L4
namespace L4
open PySem PySem.Spec PyProof.Rows L2 L3
section
variable {α : Type} {h h1 : IH} {a : α} {r : Res α} {P : IV -> IH -> Prop}
theorem Jeh (x : WR r fun v h' => v = a /\ h' = h1) : r = .ok a h1 := by
 obtain ⟨_, _, e, rfl, rfl⟩ := x.eq
 exact e
theorem Jcg (xs : List IV) (n : Int) : WR (opIx (.tup xs) (.int n) h) P = ∃ x, atI xs n = some x /\ P x h := by
 unfold opIx; cases e : atI xs n <;> simp [WR, e]
theorem Jcl (xs : List IV) (n : Int) : WR (opIx (.rol xs) (.int n) h) P = ∃ x, atI xs n = some x /\ P x h := by
 unfold opIx; cases e : atI xs n <;> simp [WR, e]
theorem Jbl (i : Nat) (n : Int) : WR (opIx (.ref i) (.int n) h) P = ∃ xs, h[i]? = some (.lst xs) /\ ∃ x, atI xs n = some x /\ P x h := by
 unfold opIx
 cases e : h[i]? with
 | none => simp [WR, e]
 | some o =>
  cases o with
  | lst xs => cases e2 : atI xs n <;> simp [WR, e, e2]
  | _ => simp [WR, e]
theorem Ja8 (xs : List IV) : WR (lenI (.tup xs) h) P = P (.int xs.length) h := rfl
theorem Jbb (xs : List IV) : WR (lenI (.rol xs) h) P = P (.int xs.length) h := rfl
theorem Jja (i : Nat) : WR (lenI (.ref i) h) P = ∃ xs, h[i]? = some (.lst xs) /\ P (.int xs.length) h := by
 unfold lenI
 cases e : h[i]? with
 | none => simp [WR, e]
 | some o => cases o <;> simp [WR, e]
theorem Jbc (x : Str) : WR (lenI (.str x) h) P = (x.length <= sizeLine /\ P (.int x.length) h) := by
 unfold lenI; rw [Jf2]; by_cases hm : x.length <= sizeLine <;> simp [hm, WR]
theorem Jc6 {xs : List α} {n : Nat} {x : α} (e : xs[n]? = some x) : atI xs (n : Int) = some x := by
 have hn : n < xs.length := (List.getElem?_eq_some_iff.mp e).1
 have : (n : Int) < xs.length := by omega
 simp [atI, ixN, this, e]
theorem Jfe {x : α} {xs : List α} : atI (x :: xs) 0 = some x := by simp [atI, ixN]
theorem Jfo {x y : α} {xs : List α} : atI (x :: y :: xs) 1 = some y := Jc6 (n := 1) rfl
theorem Jgl {x y z : α} {xs : List α} : atI (x :: y :: z :: xs) 2 = some z := Jc6 (n := 2) rfl
theorem Jgh {x y z u : α} {xs : List α} : atI (x :: y :: z :: u :: xs) 3 = some u := Jc6 (n := 3) rfl
theorem Jgi {x y z u v : α} {xs : List α} : atI (x :: y :: z :: u :: v :: xs) 4 = some v := Jc6 (n := 4) rfl
theorem Jtx {xs : List α} {n : Int} {x : α} (h0 : 0 <= n) (e : xs[n.toNat]? = some x) : atI xs n = some x := by
 have := Jc6 e
 rwa [Int.toNat_of_nonneg h0] at this
theorem Jba (i : Int) : tyI (.int i) h = some .int := rfl
theorem Jcn (x : Str) : tyI (.str x) h = some .str := rfl
theorem Jck (xs : List IV) : tyI (.tup xs) h = some .tup := rfl
theorem Jgj (b : Bool) : tyI (.bl b) h = some .bl := rfl
theorem Jcq : tyI .non h = some .non := rfl
theorem Jcm (xs : List IV) : tyI (.rol xs) h = some .lst := rfl
theorem Jti {i : Nat} {xs : List IV} (e : h[i]? = some (.lst xs)) : tyI (.ref i) h = some .lst := by simp [tyI, e]
theorem grow {i : Nat} {o : IO} {g : IH} (e : h[i]? = some o) : (h ++ g)[i]? = some o := by
 rw [List.getElem?_append_left (List.getElem?_eq_some_iff.mp e).1]; exact e
theorem Ja2 {o : IO} : (h ++ [o])[h.length]? = some o := by simp
theorem Jg7 {i : Nat} {o : IO} (e : h[i]? = some o) : i < h.length := (List.getElem?_eq_some_iff.mp e).1
theorem Jnn (f : IV -> Bool) : ∀ xs : List IV, Jnp (xs.map fun x => .bl (f x)) = some (xs.map f)
 | [] => rfl
 | x :: xs => by simp [Jnp, Jnn f xs]
theorem all_map {f : IV -> Bool} {i : Nat} {xs : List IV} (e : h[i]? = some (.lst (xs.map fun x => .bl (f x)))) : allI (.ref i) h = .ok (.bl (xs.all f)) h := by
 simp [allI, e, Jnn, List.all_map, Function.comp_def]
end
end L4
namespace L4
open PySem PySem.Spec PyProof.Rows L2 L3
noncomputable def Ex (h h' : IH) : Prop := ∃ g, h' = h ++ g
theorem Ex.refl (h : IH) : Ex h h := ⟨[], by simp⟩
theorem Ex.trans {h h1 h2 : IH} (a : Ex h h1) (b : Ex h1 h2) : Ex h h2 := by
 obtain ⟨g, rfl⟩ := a
 obtain ⟨g', rfl⟩ := b
 exact ⟨g ++ g', by simp⟩
theorem Ex.get {h h' : IH} (a : Ex h h') {i : Nat} {o : IO} (e : h[i]? = some o) : h'[i]? = some o := by
 obtain ⟨g, rfl⟩ := a
 exact grow e
theorem Ex.one (h : IH) (o : IO) : Ex h (h ++ [o]) := ⟨[o], rfl⟩
theorem Ex.len {h h' : IH} (a : Ex h h') : h.length <= h'.length := by
 obtain ⟨g, rfl⟩ := a
 simp
section
variable {α : Type} {h : IH}
theorem Jx4 {chk : IH -> Prop} {t : T1} {e : E1} {caps : ISt} {p : IV -> Bool} {f : IV -> IV} (i0 : Nat) : ∀ {xs acc : List IV} {o : Option IV} {h1 : IH}, h1[i0]? = some (.lst acc) -> (∀ h2, (∀ j ob, j ≠ i0 -> h1[j]? = some ob -> h2[j]? = some ob) -> chk h2) -> acc.length + xs.length < sizeLine ->
  (∀ x ∈ xs, ∀ h2, (∀ j ob, j ≠ i0 -> h1[j]? = some ob -> h2[j]? = some ob) -> WR (t (some x :: caps) h2) fun b h3 => b = p x /\ Ex h2 h3) ->
  (∀ x ∈ xs, p x = true -> ∀ h2, (∀ j ob, j ≠ i0 -> h1[j]? = some ob -> h2[j]? = some ob) -> WR (e (some x :: caps) h2) fun v h3 => v = f x /\ Ex h2 h3) ->
  WR (Jfc chk (gNm 0) t e i0 xs (o :: caps) h1) fun v h3 => v = .ref i0 /\ ∃ g, h3 = h1.set i0 (.lst (acc ++ (xs.filter p).map f)) ++ g
 | [], acc, o, h1, hi, hc, _, _, _ => by
  unfold Jfc
  rw [if_pos (hc h1 fun _ _ _ q => q)]
  refine ⟨rfl, [], ?_⟩
  simp only [List.filter_nil, List.map_nil, List.append_nil]
  refine (List.ext_getElem? fun j => ?_)
  by_cases hj : j = i0
  ·subst hj
   rw [hi, List.getElem?_set_self (Jg7 hi)]
  ·rw [List.getElem?_set_ne (Ne.symm hj)]
 | x :: xs, acc, o, h1, hi, hc, hl, ht, he => by
  unfold Jfc
  rw [if_pos (hc h1 fun _ _ _ q => q)]
  dsimp only [gNm, List.set_cons_zero]
  have hl' : acc.length + xs.length + 1 < sizeLine := by simpa [Nat.add_assoc] using hl
  obtain ⟨b, h2, e1, rfl, x2⟩ := (ht x List.mem_cons_self h1 fun _ _ _ q => q).eq
  rw [e1]
  have k12 : ∀ j ob, j ≠ i0 -> h1[j]? = some ob -> h2[j]? = some ob := fun j ob _ q => x2.get q
  cases hp : p x with
  | false =>
   dsimp only
   refine WR.mono (Jx4 i0 (x2.get hi) (fun h3 q => hc h3 fun j ob n r => q j ob n (k12 j ob n r)) (by omega) (fun y hy h3 q => ht y (List.mem_cons_of_mem _ hy) h3 fun j ob n r => q j ob n (k12 j ob n r))
    fun y hy hpy h3 q => he y (List.mem_cons_of_mem _ hy) hpy h3 fun j ob n r => q j ob n (k12 j ob n r)) fun v h3 ⟨ev, g, eg⟩ => ⟨ev, ?_⟩
   obtain ⟨g2, rfl⟩ := x2
   refine ⟨g2 ++ g, ?_⟩
   rw [eg, List.set_append_left (h := Jg7 hi)]
   simp [hp]
  | true =>
   dsimp only
   obtain ⟨v, h3, e3, rfl, x3⟩ := (he x List.mem_cons_self hp h2 k12).eq
   rw [e3]
   dsimp only
   rw [x3.get (x2.get hi)]
   dsimp only
   rw [if_pos (by omega)]
   have k13 : ∀ j ob, j ≠ i0 -> h1[j]? = some ob -> (h3.set i0 (.lst (acc ++ [f x])))[j]? = some ob := fun j ob n q => by
    rw [List.getElem?_set_ne (Ne.symm n)]
    exact x3.get (x2.get q)
   refine WR.mono (Jx4 i0 (acc := acc ++ [f x]) (by rw [List.getElem?_set_self (Jg7 (x3.get (x2.get hi)))]) (fun h4 q => hc h4 fun j ob n r => q j ob n (k13 j ob n r)) (by simp; omega) (fun y hy h4 q => ht y (List.mem_cons_of_mem _ hy) h4 fun j ob n r => q j ob n (k13 j ob n r))
    fun y hy hpy h4 q => he y (List.mem_cons_of_mem _ hy) hpy h4 fun j ob n r => q j ob n (k13 j ob n r)) fun v h4 ⟨ev, g, eg⟩ => ⟨ev, ?_⟩
   obtain ⟨g3, q3⟩ := x2.trans x3
   refine ⟨g3 ++ g, ?_⟩
   rw [eg, q3, List.set_append_left (h := Jg7 hi), List.set_append_left (h := by rw [List.length_set]; exact Jg7 hi), List.set_set]
   simp [hp]
theorem Jyk {it : I1} {t : T1} {e : E1} {js : List Nat} {σ : ISt} {xs : List IV} {chk : IH -> Prop} {p : IV -> Bool} {f : IV -> IV} {h0 : IH} (hit : WR (it σ h0) fun J h1 => J.xs = xs /\ J.chk = chk /\ h1 = h) (hl : xs.length < sizeLine)
  (hc : ∀ h2 : IH, (∀ (j : Nat) (ob : IO), h[j]? = some ob -> h2[j]? = some ob) -> chk h2)
  (ht : ∀ x ∈ xs, ∀ h2 : IH, (∀ (j : Nat) (ob : IO), h[j]? = some ob -> h2[j]? = some ob) -> WR (t (some x :: js.map fun j => (σ[j]?).join) h2) fun b h3 => b = p x /\ Ex h2 h3)
  (he : ∀ x ∈ xs, p x = true -> ∀ h2 : IH, (∀ (j : Nat) (ob : IO), h[j]? = some ob -> h2[j]? = some ob) -> WR (e (some x :: js.map fun j => (σ[j]?).join) h2) fun v h3 => v = f x /\ Ex h2 h3) :
  WR (Jbi it 1 js (gNm 0) t e σ h0) fun v h3 => v = .ref h.length /\ ∃ g, h3 = h ++ .lst ((xs.filter p).map f) :: g := by
 obtain ⟨J, h1, e1, q1, q2, rfl⟩ := hit.eq
 unfold Jbi
 rw [e1]
 show WR (Jfc J.chk (gNm 0) t e h1.length J.xs (none :: js.map fun j => (σ[j]?).join) (h1 ++ [.lst []])) _
 rw [q1, q2]
 have lift : ∀ {h2 : IH}, (∀ j ob, j ≠ h1.length -> (h1 ++ [IO.lst []])[j]? = some ob -> h2[j]? = some ob) -> ∀ j ob, h1[j]? = some ob -> h2[j]? = some ob := fun q j ob r => q j ob (Nat.ne_of_lt (Jg7 r)) (grow r)
 refine WR.mono (Jx4 (p := p) (f := f) h1.length (acc := []) Ja2 (fun h2 q => hc h2 (lift q)) (by simpa using hl) (fun x hx h2 q => ht x hx h2 (lift q)) fun x hx hp h2 q => he x hx hp h2 (lift q)) fun v h3 ⟨ev, g, eg⟩ => ⟨ev, g, ?_⟩
 rw [eg]
 simp
theorem filt {α : Type} (xs : List α) : xs.filter (fun _ => true) = xs := List.filter_eq_self.mpr (by simp)
theorem Jcc {it : I1} {e : E1} {js : List Nat} {σ : ISt} {xs : List IV} {chk : IH -> Prop} {f : IV -> IV} {h0 : IH} (hit : WR (it σ h0) fun J h1 => J.xs = xs /\ J.chk = chk /\ h1 = h) (hl : xs.length < sizeLine)
  (hc : ∀ h2 : IH, (∀ (j : Nat) (ob : IO), h[j]? = some ob -> h2[j]? = some ob) -> chk h2)
  (he : ∀ x ∈ xs, ∀ h2 : IH, (∀ (j : Nat) (ob : IO), h[j]? = some ob -> h2[j]? = some ob) -> WR (e (some x :: js.map fun j => (σ[j]?).join) h2) fun v h3 => v = f x /\ Ex h2 h3) :
  WR (Jbi it 1 js (gNm 0) Jci e σ h0) fun v h3 => v = .ref h.length /\ ∃ g, h3 = h ++ .lst (xs.map f) :: g := by
 have := Jyk (p := fun _ => true) (f := f) (t := Jci) (e := e) (js := js) (σ := σ) (h := h) hit hl hc (fun _ _ h2 _ => ⟨rfl, .refl _⟩) fun x hx _ h2 q => he x hx h2 q
 rwa [filt] at this
theorem Jdz {o : IO} {g : IH} : (h ++ o :: g)[h.length]? = some o := by simp
theorem Ex.cons (h : IH) (o : IO) (g : IH) : Ex h (h ++ o :: g) := ⟨_, rfl⟩
end
end L4
namespace L4
open PySem PySem.Spec PyProof.Rows L2 L3
section
variable {σ : ISt} {h h1 : IH} {Q : IV -> IH -> Prop} {J : ItI -> IH -> Prop}
theorem Jb1 (e : E1) : WR (iAny e σ h) J = WR (e σ h) fun v h1 => WR (Jr2 v h1) J := by unfold iAny; rw [Jd]
theorem Jc4 (f : List IV -> IH -> Res ItI) (a : A1) : WR (iRg f a σ h) J = WR (a σ h) fun vs h1 => WR (f vs h1) J := by unfold iRg; rw [Jd]
theorem Jir (i : Nat) : WR (Jr2 (.ref i) h) J = ∃ xs, h[i]? = some (.lst xs) /\ J ⟨xs, fun h' => h'[i]? = some (.lst xs)⟩ h := by
 show WR (itOf (.ref i) h) J = _
 unfold itOf
 cases e : h[i]? with
 | none => simp [WR, e]
 | some o => cases o <;> simp [WR, e]
theorem Jdt (xs : List IV) : WR (Jr2 (.rol xs) h) J = J ⟨xs, fun _ => True⟩ h := rfl
theorem Jda (xs : List IV) : WR (Jr2 (.tup xs) h) J = J ⟨xs, fun _ => True⟩ h := rfl
theorem Jdv (x : Str) : WR (Jr2 (.str x) h) J = J ⟨Jld x, fun _ => True⟩ h := rfl
theorem Jxx (i : Nat) : WR (Jd6 [.ref i] h) J = ∃ xs, h[i]? = some (.lst xs) /\ J ⟨Jfm 0 xs, fun h' => h'[i]? = some (.lst xs)⟩ h := by
 show WR (Jik [.ref i] h) J = _
 unfold Jik
 cases e : h[i]? with
 | none => simp [WR, e]
 | some o => cases o <;> simp [WR, e]
theorem Jq0 (xs : List IV) : WR (Jd6 [.tup xs] h) J = J ⟨Jfm 0 xs, fun _ => True⟩ h := rfl
theorem Jbn (j : Int) : WR (Jc8 [.int j] h) J = ((-(2 ^ 62) <= j /\ j < 2 ^ 62) /\ J ⟨rngI 0 j, fun _ => True⟩ h) := by
 unfold Jc8; rw [Jf2]; exact propext ⟨fun ⟨a, b⟩ => (Classical.em _).elim (fun q => ⟨q, a q⟩) fun q => (b q).elim, fun ⟨a, b⟩ => ⟨fun _ => b, fun q => absurd a q⟩⟩
theorem Jbo (i j : Int) : WR (Jke [.int i, .int j] h) J = ((-(2 ^ 62) <= i /\ i < 2 ^ 62 /\ -(2 ^ 62) <= j /\ j < 2 ^ 62) /\ J ⟨rngI i j, fun _ => True⟩ h) := by
 unfold Jke; rw [Jf2]; exact propext ⟨fun ⟨a, b⟩ => (Classical.em _).elim (fun q => ⟨q, a q⟩) fun q => (b q).elim, fun ⟨a, b⟩ => ⟨fun _ => b, fun q => absurd a q⟩⟩
theorem Jb9 (i j : Int) : (rngI i j).length = (j - i).toNat := by simp [rngI]
theorem Jkr (i j : Int) (n : Nat) (hn : n < (rngI i j).length) : (rngI i j)[n] = .int (i + n) := by simp [rngI]
theorem Jpw (xs : List IV) (n : Nat) (hn : n < (Jfm 0 xs).length) : (Jfm 0 xs)[n] = .tup [.int n, xs[n]'(by rwa [Jbm] at hn)] := by
 have := Jhs xs 0 n
 rw [List.getElem?_eq_getElem hn, List.getElem?_eq_getElem (by rwa [Jbm] at hn)] at this
 simpa using this
theorem Jop (i : Nat) (lo hi : Option Int) : WR (slI (.ref i) lo hi h) Q = ∃ xs, h[i]? = some (.lst xs) /\ Q (.ref h.length) (h ++ [.lst (cutI xs lo hi)]) := by
 unfold slI
 cases e : h[i]? with
 | none => simp [WR, e]
 | some o => cases o <;> simp [WR, e]
theorem Jc7 (xs : List IV) (lo hi : Option Int) : WR (slI (.rol xs) lo hi h) Q = Q (.ref h.length) (h ++ [.lst (cutI xs lo hi)]) := rfl
theorem Jrg (n d : Nat) : HT.sIx n d none = d := HT.sIx_none n d
theorem Jq7 {α : Type} (xs : List α) (n : Nat) : cutI xs none (some (n : Int)) = xs.take n := by
 unfold cutI
 rw [Jrg, HT.sIx_nat]
 simp
theorem Jl6 {α : Type} (xs : List α) (n : Nat) : cutI xs (some (n : Int)) none = xs.drop n := by
 unfold cutI
 rw [Jrg, HT.sIx_nat]
 by_cases hn : n <= xs.length
 ·rw [Nat.min_eq_left hn]
  exact List.take_of_length_le (by simp)
 ·rw [Nat.min_eq_right (by omega), List.drop_length, List.drop_eq_nil_of_le (by omega)]
  simp
variable {P : Pg} {m : Str} {n i : Nat} {o : E1} {a : A1} {xs : List IV} {c : Str} {fs : List (Str × IV)}
theorem Jjf {g : IV -> List IV -> IH -> Res IV} (e : o σ h = .ok (.ref i) h1) (hl : h1[i]? = some (.lst xs)) (hg : bmOf "list" m n = some g) : WR (eDot P m n o a σ h) Q = WR (a σ h1) fun vs h2 => WR (g (.ref i) vs h2) Q := by
 unfold eDot
 rw [e]
 have hi : Jpe (.ref i) h1 = false := by simp [Jpe, hl]
 have ht : tyS (.ref i) h1 = "list" := by simp [tyS, hl]
 dsimp only
 rw [hi, ht, hg]
 dsimp only
 rw [if_neg Bool.false_ne_true]
 unfold eBm
 rw [e, Jd, Jd5]
 have : tyOk "list" (.ref i) h1 = true := by simp [tyOk, hl]
 rw [if_pos this, Jd]
theorem Jg2 {f : List IV -> IH -> Res IV} {d : List IV} (e : o σ h = .ok (.ref i) h1) (hi : h1[i]? = some (.ins c fs)) (hf : fs.lookup m = none) (hd : Jk4 P m n c = some (f, d)) : WR (eDot P m n o a σ h) Q = WR (a σ h1) fun vs h2 => WR (f (.ref i :: (vs ++ d)) h2) Q := by
 unfold eDot
 rw [e]
 have hi' : Jpe (.ref i) h1 = true := by simp [Jpe, hi]
 dsimp only
 rw [hi', if_pos rfl]
 unfold Jtp
 rw [e, Jd, Jd5]
 dsimp only
 rw [hi]
 dsimp only
 rw [hd, hf]
 dsimp only
 rw [Jd]
theorem Jfr (y : IV) : WR (Ji8 (.ref i) [y] h) Q = ∃ xs, h[i]? = some (.lst xs) /\ xs.length < sizeLine /\ Q .non (h.set i (.lst (xs ++ [y]))) := by
 unfold Ji8
 cases e : h[i]? with
 | none => simp [WR, e]
 | some ob =>
  cases ob with
  | lst xs => by_cases hz : xs.length < sizeLine <;> simp [WR, e, hz]
  | _ => simp [WR, e]
theorem Jfk : bmOf "list" "append" 1 = some Ji8 := by kernel_rfl
theorem J0 {f : Str} (e : h[i]? = some (.ins c fs)) : Jnu f (.ref i) h = fs.lookup f := by simp [Jnu, e]
theorem Jq1 : WR (Jl3 (.ref i) h) Q = ∃ xs, h[i]? = some (.lst xs) /\ Q (.ref h.length) (h ++ [.lst xs]) := by
 unfold Jl3
 cases e : h[i]? with
 | none => simp [WR, e]
 | some ob => cases ob <;> simp [WR, e]
theorem Ja0 (xs : List IV) : WR (Jl3 (.tup xs) h) Q = Q (.ref h.length) (h ++ [.lst xs]) := rfl
theorem Jum : WR (Jku (.ref i) h) Q = ∃ xs, h[i]? = some (.lst xs) /\ Q (.tup xs) h := by
 unfold Jku
 cases e : h[i]? with
 | none => simp [WR, e]
 | some ob => cases ob <;> simp [WR, e]
end
end L4
namespace L4
open PySem PySem.Spec PyProof.Rows L2 L3
section
variable {σ : ISt} {h : IH} {Q : IV -> IH -> Prop}
theorem Jyu (i j : Nat) : WR (Jam (.ref i) (.ref j) h) Q = ∃ xs, h[i]? = some (.lst xs) /\ ∃ ys, h[j]? = some (.lst ys) /\ xs.length + ys.length <= sizeLine /\ Q (.ref h.length) (h ++ [.lst (xs ++ ys)]) := by
 unfold Jam
 cases e : h[i]? with
 | none => simp [WR, e]
 | some o =>
  cases e' : h[j]? with
  | none => cases o <;> simp [WR, e, e']
  | some o' =>
   cases o <;> cases o' <;> simp only [e, e', Jf2, Jd5, Jvz, Option.some.injEq, IO.lst.injEq, reduceCtorEq, exists_eq_left', false_and, and_false, exists_false, imp_false, Decidable.not_not]
   simp only [eq_iff_iff]
   exact ⟨fun ⟨a, b⟩ => ⟨b, a b⟩, fun ⟨a, b⟩ => ⟨fun _ => b, a⟩⟩
end
end L4
namespace L4
open PySem PySem.Spec PyProof.Rows L2 L3
section
variable {σ : ISt} {h h1 : IH} {Q : IV -> IH -> Prop} {P : Pg} {m : Str} {n i : Nat} {o : E1} {a : A1} {x : Str}
theorem Jzw {g : IV -> List IV -> IH -> Res IV} (e : o σ h = .ok (.str x) h1) (hg : bmOf "str" m n = some g) : WR (eDot P m n o a σ h) Q = WR (a σ h1) fun vs h2 => WR (g (.str x) vs h2) Q := by
 unfold eDot
 rw [e]
 have hi : Jpe (.str x) h1 = false := rfl
 have ht : tyS (.str x) h1 = "str" := rfl
 dsimp only
 rw [hi, ht, hg]
 dsimp only
 rw [if_neg Bool.false_ne_true]
 unfold eBm
 rw [e, Jd, Jd5]
 have : tyOk "str" (.str x) h1 = true := rfl
 rw [if_pos this, Jd]
theorem Jsm : bmOf "list" "reverse" 0 = some Jim := by kernel_rfl
theorem Jqw : ∀ zs : List Str, Jk5 (zs.map IV.str) = some zs
 | [] => rfl
 | z :: zs => by
  rw [List.map_cons, Jk5, Jqw zs]; rfl
end
end L4
namespace L4
open PySem PySem.Spec PyProof.Rows L2 L3
section
variable {σ : ISt} {h : IH} {Q : IV -> IH -> Prop} {i : Nat}
theorem Jub : WR (sumI (.ref i) h) Q = ∃ xs, h[i]? = some (.lst xs) /\ ∃ ns, Jha xs = some ns /\ Q (.int ns.sum) h := by
 unfold sumI
 cases e : h[i]? with
 | none => simp [WR, e]
 | some ob =>
  cases ob with
  | lst xs => cases q : Jha xs <;> simp [WR, e, q]
  | _ => simp [WR, e]
theorem Jhl : ∀ ns : List Int, Jha (ns.map IV.int) = some ns
 | [] => rfl
 | n :: ns => by
  rw [List.map_cons, Jha, Jhl ns]; rfl
theorem Jt5 (aa : A1) (md : E1) : WR (Jrk aa md σ h) Q = WR (aa σ h) fun xs h1 => WR (md σ h1) fun d h2 => ∃ i, xs = [.ref i] /\ ∃ ys, h2[i]? = some (.lst ys) /\ ∃ ns, Jha ys = some ns /\ Q (maxD ns d) h2 := by
 unfold Jrk
 rw [Jd]
 congr 1; funext xs h1
 rw [Jd]
 congr 1; funext d h2
 match xs with
 | [.ref i] =>
  simp only [List.cons.injEq, IV.ref.injEq, and_true, exists_eq_left']
  cases e : h2[i]? with
  | none => simp [WR]
  | some ob =>
   cases ob with
   | lst ys => cases q : Jha ys <;> simp [WR, q]
   | _ => simp [WR]
 | [] => simp [WR]
 | [.non] => simp [WR]
 | [.bl _] => simp [WR]
 | [.int _] => simp [WR]
 | [.str _] => simp [WR]
 | [.tup _] => simp [WR]
 | [.rol _] => simp [WR]
 | x :: _ :: _ => cases x <;> simp [WR]
theorem Jt3 (aa : A1) : WR (Jkn aa σ h) Q = WR (aa σ h) fun xs h1 => ∃ i, xs = [.ref i] /\ ∃ ys, h1[i]? = some (.lst ys) /\ ∃ zs, Jk5 ys = some zs /\ zs.length + 1 < scanBound /\ Q (.int (cntD (Jfa zs) zs.length)) h1 := by
 unfold Jkn
 rw [Jd]
 congr 1; funext xs h1
 match xs with
 | [.ref i] =>
  simp only [List.cons.injEq, IV.ref.injEq, and_true, exists_eq_left']
  cases e : h1[i]? with
  | none => simp [WR]
  | some ob =>
   cases ob with
   | lst ys =>
    cases q : Jk5 ys with
    | none => simp [WR, q]
    | some zs => by_cases hz : zs.length + 1 < scanBound <;> simp [WR, q, hz]
   | _ => simp [WR]
 | [] => simp [WR]
 | [.non] => simp [WR]
 | [.bl _] => simp [WR]
 | [.int _] => simp [WR]
 | [.str _] => simp [WR]
 | [.tup _] => simp [WR]
 | [.rol _] => simp [WR]
 | x :: _ :: _ => cases x <;> simp [WR]
theorem Jnm {zs : List Str} (nd : zs.Nodup) : ∀ i, i <= zs.length -> cntD (Jfa zs) i = i
 | 0, _ => rfl
 | i + 1, hi => by
  have ih := Jnm nd i (by omega)
  have hm : metB (Jfa zs) i (Jfa zs i) = false := by
   unfold metB
   rw [List.any_eq_false]
   intro j hj
   have hj := List.mem_range.mp hj
   simp only [decide_eq_true_eq]
   intro e
   simp only [Jfa, List.getD_eq_getElem?_getD, List.getElem?_eq_getElem (show j < zs.length by omega), List.getElem?_eq_getElem (show i < zs.length by omega), Option.getD_some] at e
   have := (List.getElem_inj nd).mp e
   omega
  unfold cntD
  rw [hm, ih]
  rfl
end
section
variable {h : IH} {Q : IV -> IH -> Prop} {i : Nat}
end
end L4
namespace L4
open PySem PySem.Spec PyProof.Rows L2 L3
noncomputable def KpB (i0 : Nat) (h h' : IH) : Prop := ∀ (j : Nat) (ob : IO), j ≠ i0 -> h[j]? = some ob -> h'[j]? = some ob
noncomputable def Kp (h h' : IH) : Prop := ∀ (j : Nat) (ob : IO), h[j]? = some ob -> h'[j]? = some ob
theorem KpB.trans {i0 : Nat} {a b c : IH} (p : KpB i0 a b) (q : KpB i0 b c) : KpB i0 a c := fun j ob n e => q j ob n (p j ob n e)
theorem Kp.trans {a b c : IH} (p : Kp a b) (q : Kp b c) : Kp a c := fun j ob e => q j ob (p j ob e)
theorem Kp.refl (a : IH) : Kp a a := fun _ _ e => e
theorem Kp.but {i0 : Nat} {a b : IH} (p : Kp a b) : KpB i0 a b := fun j ob _ e => p j ob e
theorem Ex.kp {a b : IH} (x : Ex a b) : Kp a b := fun _ _ e => x.get e
theorem J0f {chk : IH -> Prop} {e : E1} {caps : ISt} {D : IV -> IV -> IH -> Prop} (i0 : Nat) (mono : ∀ x y h2 h3, KpB i0 h2 h3 -> D x y h2 -> D x y h3) : ∀ {xs acc : List IV} {o : Option IV} {h1 : IH}, h1[i0]? = some (.lst acc) -> (∀ h2, KpB i0 h1 h2 -> chk h2) -> acc.length + xs.length < sizeLine ->
  (∀ x ∈ xs, ∀ h2 : IH, KpB i0 h1 h2 -> i0 < h2.length -> WR (e (some x :: caps) h2) fun v h3 => Ex h2 h3 /\ D x v h3) ->
  WR (Jfc chk (gNm 0) Jci e i0 xs (o :: caps) h1) fun v h3 => v = .ref i0 /\ ∃ ys, h3[i0]? = some (.lst (acc ++ ys)) /\ ys.length = xs.length /\ KpB i0 h1 h3 /\ ∀ (i : Nat) x y, xs[i]? = some x -> ys[i]? = some y -> D x y h3
 | [], acc, o, h1, hi, hc, _, _ => by
  unfold Jfc
  rw [if_pos (hc h1 fun _ _ _ q => q)]
  exact ⟨rfl, [], by simpa using hi, rfl, fun _ _ _ q => q, fun i x y q => by simp at q⟩
 | x :: xs, acc, o, h1, hi, hc, hl, he => by
  unfold Jfc
  rw [if_pos (hc h1 fun _ _ _ q => q)]
  dsimp only [gNm, List.set_cons_zero, Jci]
  have hl' : acc.length + xs.length + 1 < sizeLine := by simpa [Nat.add_assoc] using hl
  obtain ⟨v, h3, e3, x3, dv⟩ := (he x List.mem_cons_self h1 (fun _ _ _ q => q) (Jg7 hi)).eq
  rw [e3]
  dsimp only
  rw [x3.get hi]
  dsimp only
  rw [if_pos (by omega)]
  have k34 : KpB i0 h3 (h3.set i0 (.lst (acc ++ [v]))) := fun j ob n q => by
   rw [List.getElem?_set_ne (Ne.symm n)]; exact q
  have k14 : KpB i0 h1 (h3.set i0 (.lst (acc ++ [v]))) := x3.kp.but.trans k34
  refine WR.mono (J0f i0 mono (acc := acc ++ [v]) (by rw [List.getElem?_set_self (Jg7 (x3.get hi))]) (fun h4 q => hc h4 (k14.trans q)) (by simp; omega) fun y hy h4 q => he y (List.mem_cons_of_mem _ hy) h4 (k14.trans q)) ?_
  rintro w h5 ⟨rfl, ys, g5, ln, k5, d5⟩
  refine ⟨rfl, v :: ys, by simpa using g5, by simp [ln], k14.trans k5, ?_⟩
  intro i x' y' q1 q2
  cases i with
  | zero =>
   simp only [List.getElem?_cons_zero, Option.some.injEq] at q1 q2
   subst q1; subst q2
   exact mono _ _ _ _ (k34.trans k5) dv
  | succ i => exact d5 i x' y' (by simpa using q1) (by simpa using q2)
theorem Jvp {h h0 : IH} {it : I1} {e : E1} {js : List Nat} {σ : ISt} {xs : List IV} {chk : IH -> Prop} (D : IV -> IV -> IH -> Prop) (hit : WR (it σ h0) fun J h1 => J.xs = xs /\ J.chk = chk /\ h1 = h) (hl : xs.length < sizeLine)
  (mono : ∀ x y h2 h3, KpB h.length h2 h3 -> D x y h2 -> D x y h3) (hc : ∀ h2 : IH, Kp h h2 -> chk h2)
  (he : ∀ x ∈ xs, ∀ h2 : IH, Kp h h2 -> h.length < h2.length -> WR (e (some x :: js.map fun j => (σ[j]?).join) h2) fun v h3 => Ex h2 h3 /\ D x v h3) :
  WR (Jbi it 1 js (gNm 0) Jci e σ h0) fun v h3 => v = .ref h.length /\ ∃ ys, h3[h.length]? = some (.lst ys) /\ ys.length = xs.length /\ Kp h h3 /\ ∀ (i : Nat) x y, xs[i]? = some x -> ys[i]? = some y -> D x y h3 := by
 obtain ⟨J, h1, e1, q1, q2, rfl⟩ := hit.eq
 unfold Jbi
 rw [e1]
 show WR (Jfc J.chk (gNm 0) Jci e h1.length J.xs (none :: js.map fun j => (σ[j]?).join) (h1 ++ [.lst []])) _
 rw [q1, q2]
 have lift : ∀ {h2 : IH}, KpB h1.length (h1 ++ [IO.lst []]) h2 -> Kp h1 h2 := fun q j ob r => q j ob (Nat.ne_of_lt (Jg7 r)) (grow r)
 refine WR.mono (J0f h1.length mono (acc := []) Ja2 (fun h2 q => hc h2 (lift q)) (by simpa using hl) fun x hx h2 q ln => he x hx h2 (lift q) ln) ?_
 rintro v h3 ⟨rfl, ys, g3, ln, k3, d3⟩
 exact ⟨rfl, ys, by simpa using g3, ln, lift k3, d3⟩
end L4
namespace L4
open PySem PySem.Spec PyProof.Rows L2 L3
section
variable {h : IH}
end
end L4
namespace L4
open PySem PySem.Spec PyProof.Rows L2 L3
noncomputable def Jwt (o : Obj) (q : Str) : Bool := match o with
 | ⟨_, _, .fields vs, _⟩ => (match vs.toList with | _ :: .str n _ :: _ => n == q | _ => false)
 | _ => false
noncomputable def Jlu (K : W.Frag) (q : Str) (p : Addr) : Bool := (K.lookup p).isNone && K.all (fun e => !(Jwt e.2 q) || W.codeHdIn K e.1 p) && K.any (fun e => Jwt e.2 q && W.codeHdIn K e.1 p)
noncomputable def Jkg (K : W.Frag) : List Str -> List Addr -> Bool
 | [], [] => true
 | q :: qs, p :: ps => Jlu K q p && !ps.contains p && Jkg K qs ps
 | _, _ => false
theorem Jsb {K : W.Frag} {c : Addr} {o : Obj} (h : K.lookup c = some o) : (c, o) ∈ K := by
 induction K with
 | nil => cases h
 | cons p K ih =>
  obtain ⟨b, o'⟩ := p
  rw [List.lookup_cons] at h
  split at h
  ·rename_i e
   cases h
   rw [beq_iff_eq.mp e]
   exact List.mem_cons_self
  ·exact List.mem_cons_of_mem _ (ih h)
theorem Jlu.code {K : W.Frag} {q : Str} {p : Addr} (h : Jlu K q p = true) : ∀ cdv, W.codeIn K cdv q = true -> ∃ c, cdv = .ref c /\ W.codeHdIn K c p = true := by
 simp only [Jlu, Bool.and_eq_true, List.all_eq_true, Bool.or_eq_true, Bool.not_eq_true'] at h
 intro cdv e
 unfold W.codeIn at e
 split at e
 ·rename_i c
  refine ⟨c, rfl, ?_⟩
  cases hk : K.lookup c with
  | none => rw [hk] at e; cases e
  | some o =>
   rw [hk] at e
   rcases h.1.2 _ (Jsb hk) with z | z
   ·exfalso
    have e' : Jwt o q = true := by
     obtain ⟨oc, od, dt, sl⟩ := o
     cases dt <;> first | exact e | cases e
    have z' : Jwt o q = false := z
    rw [e'] at z'
    cases z'
   ·exact z
 ·cases e
theorem Jlu.some {K : W.Frag} {q : Str} {p : Addr} (h : Jlu K q p = true) : K.lookup p = none /\ ∃ c, W.codeHdIn K c p = true := by
 simp only [Jlu, Bool.and_eq_true, List.any_eq_true, Option.isNone_iff_eq_none] at h
 obtain ⟨⟨h1, _⟩, e, _, h2⟩ := h
 exact ⟨h1, e.1, h2.2⟩
theorem Jkg.mem {K : W.Frag} : ∀ {qs : List Str} {ts : List Addr}, Jkg K qs ts = true -> ts.Nodup /\ qs.length = ts.length /\ (∀ (i : Nat) (q : Str), qs[i]? = some q -> ∃ p, ts[i]? = some p /\ Jlu K q p = true) /\ ∀ p ∈ ts, ∃ q, Jlu K q p = true
 | [], [], _ => ⟨.nil, rfl, fun i q e => by simp at e, fun p hp => by cases hp⟩
 | q :: qs, p :: ps, h => by
  simp only [Jkg, Bool.and_eq_true, Bool.not_eq_true', List.contains_eq_mem, decide_eq_false_iff_not] at h
  obtain ⟨⟨h1, h2⟩, h3⟩ := h
  obtain ⟨a, b, c, d⟩ := Jkg.mem h3
  refine ⟨List.nodup_cons.mpr ⟨h2, a⟩, by simp [b], fun i r e => ?_, fun r hr => ?_⟩
  ·cases i with
   | zero =>
    have e' : some q = some r := e
    cases e'
    exact ⟨p, rfl, h1⟩
   | succ i => exact c i r e
  ·rcases List.mem_cons.mp hr with rfl | hr
   ·exact ⟨q, h1⟩
   ·exact d r hr
 | [], _ :: _, h => by cases h
 | _ :: _, [], h => by cases h
end L4
namespace L4
open PySem PySem.Spec PyProof.Rows L2 L3
end L4
namespace L4
open PySem PySem.Spec PyProof.Rows L2 L3
section
variable {α β : Type} {σ : ISt} {h : IH}
noncomputable def WE (r : Res α) (Q : α -> IH -> Prop) (Z : Nat -> IH -> Prop) : Prop := match r with
 | .ok a h => Q a h
 | .exc n h => Z n h
 | .stuck => False
noncomputable def WSE (r : SRes) (N : ISt -> IH -> Prop) (R : IV -> IH -> Prop) (Z : Nat -> ISt -> IH -> Prop) : Prop := match r with
 | .next σ h => N σ h
 | .ret v h => R v h
 | .exc n σ h => Z n σ h
 | _ => False
variable {Q : α -> IH -> Prop} {Z : Nat -> IH -> Prop} {N : ISt -> IH -> Prop} {R : IV -> IH -> Prop} {Y : Nat -> ISt -> IH -> Prop}
theorem we_ok (a : α) : WE (.ok a h) Q Z = Q a h := rfl
theorem Jjd {Q : β -> IH -> Prop} (r : Res α) (f : α -> IH -> Res β) : WE (r.bind f) Q Z = WE r (fun a h => WE (f a h) Q Z) Z := by cases r <;> rfl
theorem WE.of {r : Res α} (w : WR r Q) : WE r Q Z := by
 cases r with
 | ok a h => exact w
 | exc n h => exact Zf w
 | stuck => exact Zf w
theorem WE.mono {r : Res α} {Q' : α -> IH -> Prop} {Z' : Nat -> IH -> Prop} (w : WE r Q Z) (hq : ∀ a h, Q a h -> Q' a h) (hz : ∀ n h, Z n h -> Z' n h) : WE r Q' Z' := by
 cases r with
 | ok a h => exact hq _ _ w
 | exc n h => exact hz _ _ w
 | stuck => exact w
theorem WE.wr {r : Res α} (w : WE r Q fun _ _ => False) : WR r Q := by
 cases r with
 | ok a h => exact w
 | exc n h => exact w
 | stuck => exact w
theorem WSE.of {r : SRes} (w : WS r N R) : WSE r N R Y := by
 cases r with
 | next σ h => exact w
 | ret v h => exact w
 | _ => exact Zf w
theorem Jq9 (r : Res α) (k : α -> IH -> SRes) : WSE (rS σ r k) N R Y = WE r (fun a h => WSE (k a h) N R Y) fun n h => Y n σ h := by cases r <;> rfl
theorem Jp0 (a b : S1) : WSE (sSeq a b σ h) N R Y = WSE (a σ h) (fun σ1 h1 => WSE (b σ1 h1) N R Y) R Y := by
 unfold sSeq; cases a σ h <;> rfl
theorem Jtw : WSE (sNil σ h) N R Y = N σ h := rfl
theorem Jyx (i : Nat) (e : E1) : WSE (sSet i e σ h) N R Y = WE (e σ h) (fun v h1 => N (σ.set i (some v)) h1) fun n h => Y n σ h := by unfold sSet; rw [Jq9]; rfl
theorem Jwj (e : E1) : WSE (Jiq e σ h) N R Y = WE (e σ h) (fun _ h1 => N σ h1) fun n h => Y n σ h := by unfold Jiq; rw [Jq9]; rfl
theorem Jw7 (t : T1) (a b : S1) : WSE (sIf t a b σ h) N R Y = WE (t σ h) (fun c h1 => (c = true -> WSE (a σ h1) N R Y) /\ (c = false -> WSE (b σ h1) N R Y)) fun n h => Y n σ h := by
 unfold sIf; rw [Jq9]; congr 1; funext c h1; cases c <;> simp
theorem Jox (c : Str) (a : A1) : WSE (Jb7 c a σ h) N R Y = WE (a σ h) (fun vs h1 => vs.length <= sizeLine /\ Y h1.length σ (h1 ++ [.exc c []])) fun n h => Y n σ h := by
 unfold Jb7; rw [Jq9]; congr 1; funext vs h1
 by_cases z : vs.length <= sizeLine
 ·simp [z, WSE]
 ·simp [z, WSE]
theorem Jw4 {Q : IV -> IH -> Prop} {r : SRes} (w : WSE r (fun _ h => Q .non h) Q fun n _ h => (∃ c fs, h[n]? = some (.exc c fs)) /\ Z n h) : WE r.fin Q Z := by
 cases r with
 | next σ h => exact w
 | ret v h => exact w
 | exc n σ h =>
  obtain ⟨⟨c, fs, e⟩, z⟩ := w
  rw [Jzf e]
  exact z
 | _ => exact Zf w
theorem Jxc (b : S1) (hs : List HdI) (w : WSE (b σ h) N R fun n σ1 h1 => ∃ c fs, h1[n]? = some (.exc c fs) /\ WS (Jf1 hs c n σ1 h1) N R) : WS (sTry b hs σ h) N R := by
 unfold sTry
 cases e : b σ h with
 | next σ1 h1 => rw [e] at w; exact w
 | ret v h1 => rw [e] at w; exact w
 | exc n σ1 h1 =>
  rw [e] at w
  obtain ⟨c, fs, e1, w⟩ := w
  dsimp only
  rw [e1]
  exact w
 | _ => rw [e] at w; exact Zf w
theorem Jyg {Q : IV -> IH -> Prop} (c : Str) (f : List IV -> IH -> Res IV) (d : List IV) (a : A1) : WE (Jkq c f d a σ h) Q Z = WE (a σ h) (fun vs h1 => WE (f (.ref h1.length :: (vs ++ d)) (h1 ++ [.ins c []])) (fun r h2 => r = .non /\ Q (.ref h1.length) h2) Z) Z := by
 unfold Jkq; rw [Jjd]; congr 1; funext vs h1; rw [Jjd]; congr 1; funext r h2; cases r <;> simp [WE]
theorem Jzl {Q : IV -> IH -> Prop} {P : Pg} {m c : Str} {n i : Nat} {o : E1} {a : A1} {fs : List (Str × IV)} {h1 : IH} {f : List IV -> IH -> Res IV} {d : List IV} (e : o σ h = .ok (.ref i) h1) (hi : h1[i]? = some (.ins c fs)) (hf : fs.lookup m = none) (hd : Jk4 P m n c = some (f, d)) : WE (eDot P m n o a σ h) Q Z = WE (a σ h1) (fun vs h2 => WE (f (.ref i :: (vs ++ d)) h2) Q Z) Z := by
 unfold eDot
 rw [e]
 have hi' : Jpe (.ref i) h1 = true := by simp [Jpe, hi]
 dsimp only
 rw [hi', if_pos rfl]
 unfold Jtp
 rw [e, Jjd, we_ok]
 dsimp only
 rw [hi]
 dsimp only
 rw [hd, hf]
 dsimp only
 rw [Jjd]
theorem Jzk (sl : Option Nat) (r : SRes) : WS (r.drop sl) N R = WS r (fun σ h => N (Jlx sl none σ) h) R := by
 unfold SRes.drop; cases r <;> rfl
theorem Jz2 {g : Str -> Option Bool} {sl : Option Nat} {m : S1} {r : List HdI} {c : Str} {n : Nat} (e : g c = some true) : WS (Jf1 ((g, sl, m) :: r) c n σ h) N R = WS (m (Jlx sl (some (.ref n)) σ) h) (fun σ h => N (Jlx sl none σ) h) R := by
 unfold Jf1; dsimp only; rw [e]; dsimp only; rw [Jzk]
theorem Jmo {Q : List IV -> IH -> Prop} : WE (aNil σ h) Q Z = Q [] h := rfl
theorem Jjv {Q : List IV -> IH -> Prop} (e : E1) (a : A1) : WE (Ja e a σ h) Q Z = WE (e σ h) (fun v h1 => WE (a σ h1) (fun vs h2 => Q (v :: vs) h2) Z) Z := by
 unfold Ja; rw [Jjd]; congr 1; funext v h1; rw [Jjd]; rfl
theorem we_c {Q : IV -> IH -> Prop} (v : IV) : WE (eC v σ h) Q Z = Q v h := rfl
theorem Jxb {n : Nat} {c : Str} {fs : List (Str × IV)} (e : h[n]? = some (.exc c fs)) : tyI (.ref n) h = some (.exc c) := by simp [tyI, e]
theorem Jzq {Q : IV -> IH -> Prop} (x : Str) (lo hi : Option Int) : WR (slT (.str x) lo hi h) Q = (x.length <= sizeLine /\ Q (.str (Txt.slice x lo hi)) h) := by
 unfold slT; by_cases z : x.length <= sizeLine <;> simp [WR, z]
theorem Jwg {Q : IV -> IH -> Prop} (x : Str) : WR (Jlo (.str x) [] h) Q = (3 * x.length <= sizeLine /\ Q (.str (Txt.upper x)) h) := by
 unfold Jlo; by_cases z : 3 * x.length <= sizeLine <;> simp [WR, z]
theorem Jvh : bmOf "str" "upper" 0 = some Jlo := by kernel_rfl
theorem Jvm {x y : IV} (e : Jt7 x y h = true) : cNeO x y h = .ok (.bl false) h := by unfold cNeO; rw [if_pos e]
end
end L4
namespace LW
theorem Kaz {α : Sort _} {p : α -> Prop} {a' : α} : (∃ a, a' = a /\ p a) ↔ p a' := exists_eq_left'
theorem Kbz {α : Sort _} {p : α -> Prop} {a' : α} : (∃ a, a = a' /\ p a) ↔ p a' := exists_eq_left
theorem Kcz (a b : Bool) : (L3.IV.bl a = L3.IV.bl b) = (a = b) := L3.IV.bl.injEq a b
theorem Kdz (a b : Int) : (L3.IV.int a = L3.IV.int b) = (a = b) := L3.IV.int.injEq a b
theorem Kez (a b : Nat) : (L3.IV.ref a = L3.IV.ref b) = (a = b) := L3.IV.ref.injEq a b
theorem Kfz (a b : PySem.Str) : (L3.IV.str a = L3.IV.str b) = (a = b) := L3.IV.str.injEq a b
theorem Kgz (a b : List L3.IV) : (L3.IV.tup a = L3.IV.tup b) = (a = b) := L3.IV.tup.injEq a b
theorem Khz (a b : List L3.IV) : (L3.IO.lst a = L3.IO.lst b) = (a = b) := L3.IO.lst.injEq a b
theorem Kiz {α : Type _} (a b : α) : (some a = some b) = (a = b) := Option.some.injEq a b
theorem Kjz : (!true) = false := Bool.not_true
theorem Kkz : (!false) = true := Bool.not_false
theorem Klz : (true = false) = False := Bool.true_eq_false
theorem Kmz : (false = true) = False := Bool.false_eq_true
theorem Knz {α β : Type _} (a : α) (f : α -> Option β) : (some a).bind f = f a := Option.bind_some a f
theorem Koz (p : Prop) : (True -> p) = p := true_implies p
theorem Kpz (p : Prop) : (False -> p) = True := false_implies p
theorem Kqz (α : Sort _) : (α -> True) = True := implies_true α
theorem Krz {α : Type _} {a b : α} {l : List α} {n : Nat} : (a :: l).set (n + 1) b = a :: l.set n b := List.set_cons_succ
theorem Ksz {α : Type _} {a b : α} {l : List α} : (a :: l).set 0 b = b :: l := List.set_cons_zero
theorem Ktz {α : Type _} {a : α} {l m : List α} : (a :: l) ++ m = a :: (l ++ m) := List.cons_append
theorem Kuz {α : Type _} (l : List α) : [] ++ l = l := List.nil_append l
theorem Kvz {α : Type _} (l : List α) : l ++ [] = l := List.append_nil l
end LW
namespace LW
open PySem L2 L3 L4
noncomputable def top (i : Nat) : Stmt := PySem.Challenge.pw_dutyproof_k04_a_duty.main.body.getD i (.Pass ⟨0, 0, 0, 0⟩)
noncomputable def Jak : D4 := ⟨top 8, "is_whole", ["thing"], ["thing"], []⟩
noncomputable def Jm : D4 := ⟨top 9, "is_whole_from", ["thing", "least"], ["thing", "least"], []⟩
noncomputable def Jac : D4 := ⟨top 10, "rounds_up", ["top", "bottom"], ["top", "bottom"], []⟩
noncomputable def Ja5 : D4 := ⟨top 17, "is_name", ["thing"], ["thing"], []⟩
noncomputable def Ja3 : D4 := ⟨top 18, "is_hold", ["hold", "length"], ["hold", "length"], []⟩
noncomputable def Jah : D4 := ⟨top 19, "lie_apart", ["one", "other"], ["one", "other"], []⟩
noncomputable def Ja4 : D4 := ⟨top 20, "lies_in", ["one", "other"], ["one", "other"], []⟩
noncomputable def Jv : D4 := ⟨top 21, "go_together", ["one", "other"], ["one", "other"], []⟩
noncomputable def Ji : D4 := ⟨top 22, "all_go_together", ["holds"], ["holds", "place", "hold"], []⟩
noncomputable def J2 : D4 := ⟨top 23, "own_holds", ["holds", "length"], ["holds", "length"], []⟩
noncomputable def Ja1 : D4 := ⟨top 24, "own_due", ["due", "gap"], ["due", "gap"], []⟩
noncomputable def Js : D4 := ⟨Jgz (top 25) 0, "Work.__init__", ["self", "name", "gap", "length", "due", "late", "holds"], ["self", "name", "gap", "length", "due", "late", "holds"], [.non, .int 0, .non]⟩
noncomputable def Jaa : D4 := ⟨Jgz (top 25) 1, "Work.held", ["self"], ["self"], []⟩
noncomputable def Jaf : D4 := ⟨top 29, "own_works", ["works"], ["works"], []⟩
noncomputable def Jao : D4 := ⟨top 30, "crowd_of", ["works"], ["works", "greatest"], []⟩
noncomputable def Jab : D4 := ⟨Jgz (top 31) 0, "Duty.__init__", ["self", "works"], ["self", "works"], []⟩
noncomputable def Jag : D4 := ⟨Jgz (top 31) 1, "Duty.size", ["self"], ["self"], []⟩
noncomputable def J7 : D4 := ⟨Jgz (top 31) 2, "Duty.work", ["self", "at"], ["self", "at"], []⟩
noncomputable def Jj : D4 := ⟨Jgz (top 31) 3, "Duty.number_of", ["self", "name"], ["self", "name", "at", "work"], []⟩
noncomputable def Jw : D4 := ⟨Jgz (top 31) 4, "Duty.crowd", ["self"], ["self"], []⟩
noncomputable def Jp : D4 := ⟨top 33, "_law_cell_at", ["_law_script", "_law_k"], ["_law_script", "_law_k"], []⟩
noncomputable def Jx : D4 := ⟨top 34, "_law_number", ["_law_found", "_law_due"], ["_law_found", "_law_due"], []⟩
noncomputable def Jae : D4 := ⟨top 35, "_law_names", ["_law_cell", "_law_many"], ["_law_cell", "_law_many", "_law_letters", "_law_size", "_law_at", "_law_names_here", "_law_k", "_law_name", "_law_j", "_law_sign"], []⟩
noncomputable def Jz : D4 := ⟨top 36, "_law_stream", ["_law_cell", "_law_many"], ["_law_cell", "_law_many", "_law_found", "_law_rest", "_law_k", "_law_number_here"], []⟩
noncomputable def Jad : D4 := ⟨top 37, "_law_draws", ["_law_cell", "_law_k", "_law_many"], ["_law_cell", "_law_k", "_law_many"], []⟩
noncomputable def J6 : D4 := ⟨top 38, "_law_parts", ["_law_script", "_law_k", "_law_unit", "_law_dense", "_law_name", "_law_thing"], ["_law_script", "_law_k", "_law_unit", "_law_dense", "_law_name", "_law_thing", "_law_xs", "_law_gap", "_law_due", "_law_late", "_law_length", "_law_holds"], []⟩
noncomputable def J9 : D4 := ⟨top 39, "_law_crowd", ["_law_some"], ["_law_some", "_law_greatest"], []⟩
noncomputable def Jal : D4 := ⟨top 40, "_law_same", ["_law_work", "_law_parts_here"], ["_law_work", "_law_parts_here"], []⟩
noncomputable def Jr : D4 := ⟨top 41, "_law_unnamed", ["_law_duty", "_law_name"], ["_law_duty", "_law_name", "e"], []⟩
noncomputable def J4 : D4 := ⟨top 42, "_law_tells", ["_law_duty", "_law_some", "_law_names_here"], ["_law_duty", "_law_some", "_law_names_here", "_law_k", "_law_name"], []⟩
noncomputable def Jkp : D4 := ⟨top 43, "law", ["_law_script"], ["_law_script", "_law_many", "_law_names_here", "_law_unit", "_law_dense", "_law_some", "_law_works", "_law_handed", "_law_word", "_law_duty", "e"], []⟩
noncomputable def T : Tab where
 fns := [(("is_whole" : Str), Jak), (("is_whole_from" : Str), Jm), (("rounds_up" : Str), Jac), (("is_name" : Str), Ja5), (("is_hold" : Str), Ja3), (("lie_apart" : Str), Jah), (("lies_in" : Str), Ja4), (("go_together" : Str), Jv), (("all_go_together" : Str), Ji), (("own_holds" : Str), J2), (("own_due" : Str), Ja1), (("own_works" : Str), Jaf), (("crowd_of" : Str), Jao), (("_law_cell_at" : Str), Jp), (("_law_number" : Str), Jx), (("_law_names" : Str), Jae), (("_law_stream" : Str), Jz), (("_law_draws" : Str), Jad), (("_law_parts" : Str), J6), (("_law_crowd" : Str), J9), (("_law_same" : Str), Jal), (("_law_unnamed" : Str), Jr), (("_law_tells" : Str), J4), (("law" : Str), Jkp)]
 clss := [("Work", Js), ("Duty", Jab)]
 meths := [("Work", ([("held", Jaa)] : List (Str × D4))), ("Duty", ([("size", Jag), ("work", J7), ("number_of", Jj), ("crowd", Jw)] : List (Str × D4)))]
 cons := [("MOST_LETTERS", .int 8), ("MOST_HOLDS", .int 6), ("THING", .int 0), ("START", .int 1), ("END", .int 2), ("MOST_WORKS", .int 12), ("MOST_CROWD", .int 80)]
 isas := [("Work", ["Work"]), ("Duty", ["Duty"])]
 flds := ["append", "due", "gap", "hold_tuples", "late", "length", "name", "reverse", "upper", "works"]
 frees := ["all", "bool", "enumerate", "int", "isinstance", "len", "list", "max", "range", "set", "str", "sum", "tuple"]
 razs := ["BadWork", "BadDuty", "TooMany", "NoName"]
 xis := [("DutyError", [("BadWork", true), ("BadDuty", true), ("TooMany", true), ("NoName", true)]), ("NoName", [("BadWork", false), ("BadDuty", false), ("TooMany", false), ("NoName", true)]), ("TooMany", [("BadWork", false), ("BadDuty", false), ("TooMany", true), ("NoName", false)])]
noncomputable def Jc3 : Str -> Option Bool := fun c => Jg5 c [("BadWork", true), ("BadDuty", true), ("TooMany", true), ("NoName", true)]
noncomputable def Jhx : Str -> Option Bool := fun c => Jg5 c [("BadWork", false), ("BadDuty", false), ("TooMany", false), ("NoName", true)]
noncomputable def Jgc : Str -> Option Bool := fun c => Jg5 c [("BadWork", false), ("BadDuty", false), ("TooMany", true), ("NoName", false)]
noncomputable abbrev pg (k : Nat) : Pg := mkPg T (run T k)
noncomputable abbrev Jgf (k : Nat) : List IV -> IH -> Res IV := run T k Jak
noncomputable abbrev Ju (k : Nat) : List IV -> IH -> Res IV := run T k Jm
noncomputable abbrev Jeq (k : Nat) : List IV -> IH -> Res IV := run T k Jac
noncomputable abbrev Jff (k : Nat) : List IV -> IH -> Res IV := run T k Ja5
noncomputable abbrev Jht (k : Nat) : List IV -> IH -> Res IV := run T k Ja3
noncomputable abbrev Je8 (k : Nat) : List IV -> IH -> Res IV := run T k Jah
noncomputable abbrev Jfv (k : Nat) : List IV -> IH -> Res IV := run T k Ja4
noncomputable abbrev Jcs (k : Nat) : List IV -> IH -> Res IV := run T k Jv
noncomputable abbrev Ja6 (k : Nat) : List IV -> IH -> Res IV := run T k Ji
noncomputable abbrev Jbf (k : Nat) : List IV -> IH -> Res IV := run T k J2
noncomputable abbrev Jcw (k : Nat) : List IV -> IH -> Res IV := run T k Ja1
noncomputable abbrev Jca (k : Nat) : List IV -> IH -> Res IV := run T k Js
noncomputable abbrev Jet (k : Nat) : List IV -> IH -> Res IV := run T k Jaa
noncomputable abbrev Jen (k : Nat) : List IV -> IH -> Res IV := run T k Jaf
noncomputable abbrev Jd9 (k : Nat) : List IV -> IH -> Res IV := run T k Jao
noncomputable abbrev Jev (k : Nat) : List IV -> IH -> Res IV := run T k Jab
noncomputable abbrev Jer (k : Nat) : List IV -> IH -> Res IV := run T k Jag
noncomputable abbrev Jez (k : Nat) : List IV -> IH -> Res IV := run T k J7
noncomputable abbrev Jau (k : Nat) : List IV -> IH -> Res IV := run T k Jj
noncomputable abbrev Jdl (k : Nat) : List IV -> IH -> Res IV := run T k Jw
noncomputable abbrev Jq (k : Nat) : List IV -> IH -> Res IV := run T k Jp
noncomputable abbrev J1 (k : Nat) : List IV -> IH -> Res IV := run T k Jx
noncomputable abbrev Jc1 (k : Nat) : List IV -> IH -> Res IV := run T k Jae
noncomputable abbrev Jch (k : Nat) : List IV -> IH -> Res IV := run T k Jz
noncomputable abbrev Jes (k : Nat) : List IV -> IH -> Res IV := run T k Jad
noncomputable abbrev Jey (k : Nat) : List IV -> IH -> Res IV := run T k J6
noncomputable abbrev Jcy (k : Nat) : List IV -> IH -> Res IV := run T k J9
noncomputable abbrev Jgd (k : Nat) : List IV -> IH -> Res IV := run T k Jal
noncomputable abbrev Jbs (k : Nat) : List IV -> IH -> Res IV := run T k Jr
noncomputable abbrev Jcu (k : Nat) : List IV -> IH -> Res IV := run T k J4
noncomputable abbrev Jp7 (k : Nat) : List IV -> IH -> Res IV := run T k Jkp
noncomputable def Jji (k : Nat) : S1 := (sRet (eAnd (eIsi Jbk (eVar 0)) (eUn (Jpa tru) (eIsi Jaj (eVar 0))) tru))
theorem Jp2 (k : Nat) : Jgf (k + 1) = fnI 1 (Jji k) := by kernel_rfl
theorem Jqi (k : Nat) (x0 : IV) (h : IH) : Jgf (k + 1) [x0] h = (Jji k [some x0] h).fin := by rw [Jp2]; rfl
noncomputable def Jcb (k : Nat) : S1 := (sRet (eAnd (Jy (Jgf k) [] (Ja (eVar 0) aNil)) (eBin cGe (eVar 0) (eVar 1)) tru))
theorem Jjp (k : Nat) : Ju (k + 1) = fnI 2 (Jcb k) := by kernel_rfl
theorem Jjq (k : Nat) (x0 x1 : IV) (h : IH) : Ju (k + 1) [x0, x1] h = (Jcb k [some x0, some x1] h).fin := by rw [Jjp]; rfl
noncomputable def Jeo (k : Nat) : S1 := (sRet (eBin Jdb (eBin Jl5 (eBin Jam (eVar 0) (eVar 1)) (eC (.int 1))) (eVar 1)))
theorem Jn5 (k : Nat) : Jeq (k + 1) = fnI 2 (Jeo k) := by kernel_rfl
theorem Joe (k : Nat) (x0 x1 : IV) (h : IH) : Jeq (k + 1) [x0, x1] h = (Jeo k [some x0, some x1] h).fin := by rw [Jn5]; rfl
noncomputable def Je9 (k : Nat) : E1 := (Jfw cLe cLe (eC (.str "a")) (eVar 0) (eC (.str "z")))
noncomputable def Jj8 (k : Nat) : S1 := (sRet (eCB (on1 allI) (Ja (Jbi (iAny (eVar 0)) 1 [] (gNm 0) Jci (Je9 k)) aNil)))
noncomputable def Jg3 (k : Nat) : S1 := sSeq (sIf (tOrI (Jbd (tOfB tru (eIsi Jaw (eVar 0)))) (Jbd (tOfB asB (Jfw cLe cLe (eC (.int 1)) (eCB (on1 lenI) (Ja (eVar 0) aNil)) (eC (.int 8)))))) (sRet (eC (.bl false))) sNil) (Jj8 k)
theorem Jsg (k : Nat) : Jff (k + 1) = fnI 1 (Jg3 k) := by kernel_rfl
theorem Jrj (k : Nat) (x0 : IV) (h : IH) : Jff (k + 1) [x0] h = (Jg3 k [some x0] h).fin := by rw [Jsg]; rfl
noncomputable def Jj2 (k : Nat) : S1 := (sRet (eAnd (Jy (Ju k) [] (Ja (eBin opIx (eVar 0) (eC (.int 2))) (Ja (eBin Jam (eBin opIx (eVar 0) (eC (.int 1))) (eC (.int 1))) aNil))) (eBin cLt (eBin opIx (eVar 0) (eC (.int 2))) (eVar 1)) tru))
noncomputable def Jj3 (k : Nat) : S1 := sSeq (sIf (Jbd (tOfB tru (Jy (Ju k) [] (Ja (eBin opIx (eVar 0) (eC (.int 1))) (Ja (eC (.int 0)) aNil))))) (sRet (eC (.bl false))) sNil) (Jj2 k)
noncomputable def Jg0 (k : Nat) : S1 := sSeq (sIf (tOrI (Jbd (tOfB tru (eIsi Jbu (eVar 0)))) (tOrI (tOfB asB (eBin cNe (eCB (on1 lenI) (Ja (eVar 0) aNil)) (eC (.int 3)))) (Jbd (tOfB tru (Jy (Jff k) [] (Ja (eBin opIx (eVar 0) (eC (.int 0))) aNil)))))) (sRet (eC (.bl false))) sNil) (Jj3 k)
theorem Jsd (k : Nat) : Jht (k + 1) = fnI 2 (Jg0 k) := by kernel_rfl
theorem Jr6 (k : Nat) (x0 x1 : IV) (h : IH) : Jht (k + 1) [x0, x1] h = (Jg0 k [some x0, some x1] h).fin := by rw [Jsd]; rfl
noncomputable def Jel (k : Nat) : S1 := (sRet (eOr (eBin cLe (eBin opIx (eVar 0) (eC (.int 2))) (eBin opIx (eVar 1) (eC (.int 1)))) (eBin cLe (eBin opIx (eVar 1) (eC (.int 2))) (eBin opIx (eVar 0) (eC (.int 1)))) tru))
theorem Jog (k : Nat) : Je8 (k + 1) = fnI 2 (Jel k) := by kernel_rfl
theorem Jm4 (k : Nat) (x0 x1 : IV) (h : IH) : Je8 (k + 1) [x0, x1] h = (Jel k [some x0, some x1] h).fin := by rw [Jog]; rfl
noncomputable def Jhb (k : Nat) : S1 := (sRet (eAnd (eBin cLe (eBin opIx (eVar 1) (eC (.int 1))) (eBin opIx (eVar 0) (eC (.int 1)))) (eBin cLe (eBin opIx (eVar 0) (eC (.int 2))) (eBin opIx (eVar 1) (eC (.int 2)))) tru))
theorem Jr8 (k : Nat) : Jfv (k + 1) = fnI 2 (Jhb k) := by kernel_rfl
theorem Jsp (k : Nat) (x0 x1 : IV) (h : IH) : Jfv (k + 1) [x0, x1] h = (Jhb k [some x0, some x1] h).fin := by rw [Jr8]; rfl
noncomputable def Jf4 (k : Nat) : S1 := (sRet (eOr (Jy (Jfv k) [] (Ja (eVar 0) (Ja (eVar 1) aNil))) (Jy (Jfv k) [] (Ja (eVar 1) (Ja (eVar 0) aNil))) tru))
noncomputable def Jfn (k : Nat) : S1 := sSeq (sIf (tOfB asB (eBin cEq (eBin opIx (eVar 0) (eC (.int 0))) (eBin opIx (eVar 1) (eC (.int 0))))) (sRet (eC (.bl false))) sNil) (Jf4 k)
noncomputable def Jcz (k : Nat) : S1 := sSeq (sIf (tOfB tru (Jy (Je8 k) [] (Ja (eVar 0) (Ja (eVar 1) aNil)))) (sRet (eC (.bl true))) sNil) (Jfn k)
theorem Jlc (k : Nat) : Jcs (k + 1) = fnI 2 (Jcz k) := by kernel_rfl
theorem Jk9 (k : Nat) (x0 x1 : IV) (h : IH) : Jcs (k + 1) [x0, x1] h = (Jcz k [some x0, some x1] h).fin := by rw [Jlc]; rfl
noncomputable def Jcf (k : Nat) : E1 := (Jy (Jcs k) [] (Ja (eVar 1) (Ja (eVar 0) aNil)))
noncomputable def Jcp (k : Nat) : S1 := (sIf (Jbd (tOfB tru (eCB (on1 allI) (Ja (Jbi (iAny (eSl slI (eVar 0) Jmh (Jle (eVar 1)))) 1 [2] (gNm 0) Jci (Jcf k)) aNil)))) (sRet (eC (.bl false))) sNil)
noncomputable def Jct (k : Nat) : S1 := (sRet (eC (.bl true)))
noncomputable def Jbg (k : Nat) : S1 := sSeq (sFor (iRg Jd6 (Ja (eVar 0) aNil)) (gTp 2 (gC (gNm 1) (gC (gNm 2) gN))) (Jcp k)) (Jct k)
theorem Jhk (k : Nat) : Ja6 (k + 1) = fnI 3 (Jbg k) := by kernel_rfl
theorem Jh9 (k : Nat) (x0 : IV) (h : IH) : Ja6 (k + 1) [x0] h = (Jbg k [some x0, none, none] h).fin := by rw [Jhk]; rfl
noncomputable def Jfg (k : Nat) : E1 := (Jy (Jht k) [] (Ja (eVar 0) (Ja (eVar 1) aNil)))
noncomputable def Jfz (k : Nat) : E1 := (eTup (Ja (eBin opIx (eVar 0) (eC (.int 0))) (Ja (eBin opIx (eVar 0) (eC (.int 1))) (Ja (eBin opIx (eVar 0) (eC (.int 2))) aNil))))
noncomputable def Jix (k : Nat) : S1 := (sRet (eCB (on1 Jku) (Ja (Jbi (iAny (eVar 0)) 1 [] (gNm 0) Jci (Jfz k)) aNil)))
noncomputable def Jip (k : Nat) : S1 := sSeq (sIf (Jbd (tOfB tru (Jy (Ja6 k) [] (Ja (eVar 0) aNil)))) (Jb7 "BadWork" (Ja (eC (.str "two holds lie apart, or one in the other, and apart where they are of one thing")) aNil)) sNil) (Jix k)
noncomputable def Jhm (k : Nat) : S1 := sSeq (sIf (Jbd (tOfB tru (eCB (on1 allI) (Ja (Jbi (iAny (eVar 0)) 1 [1] (gNm 0) Jci (Jfg k)) aNil)))) (Jb7 "BadWork" (Ja (eC (.str "a hold is a tuple (thing, start, end), with 0 <= start < end < length")) aNil)) sNil) (Jip k)
noncomputable def Jhg (k : Nat) : S1 := sSeq (sIf (tOfB asB (eBin cGt (eCB (on1 lenI) (Ja (eVar 0) aNil)) (eC (.int 6)))) (Jb7 "BadWork" (Ja (eC (.str "a work has at most six holds")) aNil)) sNil) (Jhm k)
noncomputable def Jij (k : Nat) : S1 := sSeq (sIf (Jbd (tOfB tru (eIsi Jan (eVar 0)))) (Jb7 "BadWork" (Ja (eC (.str "the holds are a list")) aNil)) sNil) (Jhg k)
noncomputable def Jcr (k : Nat) : S1 := sSeq (sIf (tOfB asB (eBin cIs (eVar 0) (eC .non))) (sRet (eTup aNil)) sNil) (Jij k)
theorem Jor (k : Nat) : Jbf (k + 1) = fnI 2 (Jcr k) := by kernel_rfl
theorem Jjg (k : Nat) (x0 x1 : IV) (h : IH) : Jbf (k + 1) [x0, x1] h = (Jcr k [some x0, some x1] h).fin := by rw [Jor]; rfl
noncomputable def Jkl (k : Nat) : S1 := (sRet (eVar 0))
noncomputable def Jko (k : Nat) : S1 := sSeq (sIf (tOrI (Jbd (tOfB tru (Jy (Ju k) [] (Ja (eVar 0) (Ja (eC (.int 1)) aNil))))) (tOfB asB (eBin cGt (eVar 0) (eVar 1)))) (Jb7 "BadWork" (Ja (eC (.str "the due is a whole number from 1 to the gap")) aNil)) sNil) (Jkl k)
noncomputable def Jeg (k : Nat) : S1 := sSeq (sIf (tOfB asB (eBin cIs (eVar 0) (eC .non))) (sRet (eVar 1)) sNil) (Jko k)
theorem Jr9 (k : Nat) : Jcw (k + 1) = fnI 2 (Jeg k) := by kernel_rfl
theorem Jln (k : Nat) (x0 x1 : IV) (h : IH) : Jcw (k + 1) [x0, x1] h = (Jeg k [some x0, some x1] h).fin := by rw [Jr9]; rfl
noncomputable def Jih (k : Nat) : S1 := (Jju "hold_tuples" (eVar 0) (Jy (Jbf k) [] (Ja (eVar 6) (Ja (eVar 3) aNil))))
noncomputable def Jig (k : Nat) : S1 := sSeq (Jju "late" (eVar 0) (eVar 5)) (Jih k)
noncomputable def Jid (k : Nat) : S1 := sSeq (Jju "due" (eVar 0) (Jy (Jcw k) [] (Ja (eVar 4) (Ja (eVar 2) aNil)))) (Jig k)
noncomputable def Jhq (k : Nat) : S1 := sSeq (Jju "length" (eVar 0) (eVar 3)) (Jid k)
noncomputable def Jh2 (k : Nat) : S1 := sSeq (Jju "gap" (eVar 0) (eVar 2)) (Jhq k)
noncomputable def Jia (k : Nat) : S1 := sSeq (Jju "name" (eVar 0) (eVar 1)) (Jh2 k)
noncomputable def Jhn (k : Nat) : S1 := sSeq (sIf (Jbd (tOfB tru (Jy (Ju k) [] (Ja (eVar 5) (Ja (eC (.int 0)) aNil))))) (Jb7 "BadWork" (Ja (eC (.str "the lateness is a whole number from 0 on")) aNil)) sNil) (Jia k)
noncomputable def Jh4 (k : Nat) : S1 := sSeq (sIf (Jbd (tOfB tru (Jy (Ju k) [] (Ja (eVar 3) (Ja (eC (.int 1)) aNil))))) (Jb7 "BadWork" (Ja (eC (.str "the length is a whole number from 1 on")) aNil)) sNil) (Jhn k)
noncomputable def Jhf (k : Nat) : S1 := sSeq (sIf (Jbd (tOfB tru (Jy (Ju k) [] (Ja (eVar 2) (Ja (eC (.int 1)) aNil))))) (Jb7 "BadWork" (Ja (eC (.str "the gap is a whole number from 1 on")) aNil)) sNil) (Jh4 k)
noncomputable def Jex (k : Nat) : S1 := sSeq (sIf (Jbd (tOfB tru (Jy (Jff k) [] (Ja (eVar 1) aNil)))) (Jb7 "BadWork" (Ja (eC (.str "the name is a text of one to eight small letters")) aNil)) sNil) (Jhf k)
theorem Jpf (k : Nat) : Jca (k + 1) = fnI 7 (Jex k) := by kernel_rfl
theorem Jnb (k : Nat) (x0 x1 x2 x3 x4 x5 x6 : IV) (h : IH) : Jca (k + 1) [x0, x1, x2, x3, x4, x5, x6] h = (Jex k [some x0, some x1, some x2, some x3, some x4, some x5, some x6] h).fin := by rw [Jpf]; rfl
noncomputable def Jep (k : Nat) : S1 := (sRet (eCB (on1 Jl3) (Ja (eFld "hold_tuples" (eVar 0)) aNil)))
theorem Jm0 (k : Nat) : Jet (k + 1) = fnI 1 (Jep k) := by kernel_rfl
theorem Jpi (k : Nat) (x0 : IV) (h : IH) : Jet (k + 1) [x0] h = (Jep k [some x0] h).fin := by rw [Jm0]; rfl
noncomputable def Jfy (k : Nat) : E1 := (eIsi (Jtf ["Work"]) (eVar 0))
noncomputable def Jf8 (k : Nat) : E1 := (eFld "name" (eVar 0))
noncomputable def Ji5 (k : Nat) : S1 := (sRet (eCB (on1 Jku) (Ja (eVar 0) aNil)))
noncomputable def Ji0 (k : Nat) : S1 := sSeq (sIf (tOfB asB (eBin cNe (Jkn (Ja (Jbi (iAny (eVar 0)) 1 [] (gNm 0) Jci (Jf8 k)) aNil)) (eCB (on1 lenI) (Ja (eVar 0) aNil)))) (Jb7 "BadDuty" (Ja (eC (.str "no two works of a duty have one name")) aNil)) sNil) (Ji5 k)
noncomputable def Ji3 (k : Nat) : S1 := sSeq (sIf (Jbd (tOfB tru (eCB (on1 allI) (Ja (Jbi (iAny (eVar 0)) 1 [] (gNm 0) Jci (Jfy k)) aNil)))) (Jb7 "BadDuty" (Ja (eC (.str "a duty is made of works alone")) aNil)) sNil) (Ji0 k)
noncomputable def Je3 (k : Nat) : S1 := sSeq (sIf (Jbd (tOfB tru (eIsi Jan (eVar 0)))) (Jb7 "BadDuty" (Ja (eC (.str "a duty is made of a list of works")) aNil)) sNil) (Ji3 k)
theorem Joo (k : Nat) : Jen (k + 1) = fnI 1 (Je3 k) := by kernel_rfl
theorem Jm7 (k : Nat) (x0 : IV) (h : IH) : Jen (k + 1) [x0] h = (Je3 k [some x0] h).fin := by rw [Joo]; rfl
noncomputable def Jgs (k : Nat) : E1 := (eFld "due" (eVar 0))
noncomputable def Jgt (k : Nat) : E1 := (Jy (Jeq k) [] (Ja (eBin Jam (eVar 1) (eFld "late" (eVar 0))) (Ja (eFld "gap" (eVar 0)) aNil)))
noncomputable def Jjm (k : Nat) : S1 := (sRet (eCB (on1 sumI) (Ja (Jbi (iAny (eVar 0)) 1 [1] (gNm 0) Jci (Jgt k)) aNil)))
noncomputable def Jf0 (k : Nat) : S1 := sSeq (sSet 1 (Jrk (Ja (Jbi (iAny (eVar 0)) 1 [] (gNm 0) Jci (Jgs k)) aNil) (eC (.int 0)))) (Jjm k)
theorem Jqb (k : Nat) : Jd9 (k + 1) = fnI 2 (Jf0 k) := by kernel_rfl
theorem Jqf (k : Nat) (x0 : IV) (h : IH) : Jd9 (k + 1) [x0] h = (Jf0 k [some x0, none] h).fin := by rw [Jqb]; rfl
noncomputable def Jio (k : Nat) : S1 := (sIf (tOfB asB (eBin cGt (Jy (Jd9 k) [] (Ja (eFld "works" (eVar 0)) aNil)) (eC (.int 80)))) (Jb7 "TooMany" (Ja (eC (.str "the crowd of a duty is at most 80")) aNil)) sNil)
noncomputable def Jh0 (k : Nat) : S1 := sSeq (sIf (tOfB asB (eBin cGt (eCB (on1 lenI) (Ja (eFld "works" (eVar 0)) aNil)) (eC (.int 12)))) (Jb7 "TooMany" (Ja (eC (.str "a duty has at most twelve works")) aNil)) sNil) (Jio k)
noncomputable def Je6 (k : Nat) : S1 := sSeq (Jju "works" (eVar 0) (Jy (Jen k) [] (Ja (eVar 1) aNil))) (Jh0 k)
theorem Jno (k : Nat) : Jev (k + 1) = fnI 2 (Je6 k) := by kernel_rfl
theorem Jpl (k : Nat) (x0 x1 : IV) (h : IH) : Jev (k + 1) [x0, x1] h = (Je6 k [some x0, some x1] h).fin := by rw [Jno]; rfl
noncomputable def Je5 (k : Nat) : S1 := (sRet (eCB (on1 lenI) (Ja (eFld "works" (eVar 0)) aNil)))
theorem Joa (k : Nat) : Jer (k + 1) = fnI 1 (Je5 k) := by kernel_rfl
theorem Jo3 (k : Nat) (x0 : IV) (h : IH) : Jer (k + 1) [x0] h = (Je5 k [some x0] h).fin := by rw [Joa]; rfl
noncomputable def Je1 (k : Nat) : S1 := (sRet (eBin opIx (eFld "works" (eVar 0)) (eVar 1)))
theorem Jo4 (k : Nat) : Jez (k + 1) = fnI 2 (Je1 k) := by kernel_rfl
theorem Joh (k : Nat) (x0 x1 : IV) (h : IH) : Jez (k + 1) [x0, x1] h = (Je1 k [some x0, some x1] h).fin := by rw [Jo4]; rfl
noncomputable def Jbh (k : Nat) : S1 := (sIf (tOfB asB (eBin cEq (eFld "name" (eVar 3)) (eVar 1))) (sRet (eVar 2)) sNil)
noncomputable def Jbt (k : Nat) : S1 := (Jb7 "NoName" (Ja (eC (.str "no work of the duty has this name")) aNil))
noncomputable def Jay (k : Nat) : S1 := sSeq (sIf (tOfB tru (eIsi Jaw (eVar 1))) (sFor (iRg Jd6 (Ja (eFld "works" (eVar 0)) aNil)) (gTp 2 (gC (gNm 2) (gC (gNm 3) gN))) (Jbh k)) sNil) (Jbt k)
theorem Jjc (k : Nat) : Jau (k + 1) = fnI 4 (Jay k) := by kernel_rfl
theorem Jeb (k : Nat) (x0 x1 : IV) (h : IH) : Jau (k + 1) [x0, x1] h = (Jay k [some x0, some x1, none, none] h).fin := by rw [Jjc]; rfl
noncomputable def Jd3 (k : Nat) : S1 := (sRet (Jy (Jd9 k) [] (Ja (eFld "works" (eVar 0)) aNil)))
theorem Jl9 (k : Nat) : Jdl (k + 1) = fnI 1 (Jd3 k) := by kernel_rfl
theorem Jmx (k : Nat) (x0 : IV) (h : IH) : Jdl (k + 1) [x0] h = (Jd3 k [some x0] h).fin := by rw [Jl9]; rfl
noncomputable def Jfq (k : Nat) : S1 := (sRet (eC (.int 0)))
noncomputable def Jcx (k : Nat) : S1 := sSeq (sIf (tOfB asB (eBin cLt (eVar 1) (eCB (on1 lenI) (Ja (eVar 0) aNil)))) (sRet (eBin opIx (eVar 0) (eVar 1))) sNil) (Jfq k)
theorem Jk3 (k : Nat) : Jq (k + 1) = fnI 2 (Jcx k) := by kernel_rfl
theorem Jk7 (k : Nat) (x0 x1 : IV) (h : IH) : Jq (k + 1) [x0, x1] h = (Jcx k [some x0, some x1] h).fin := by rw [Jk3]; rfl
noncomputable def Jd2 (k : Nat) : S1 := (sRet (eAnd (eIsi Jbk (eVar 0)) (eAnd (eUn (Jpa tru) (eIsi Jaj (eVar 0))) (eBin cEq (eVar 0) (eVar 1)) tru) tru))
theorem Jly (k : Nat) : J1 (k + 1) = fnI 2 (Jd2 k) := by kernel_rfl
theorem Jl1 (k : Nat) (x0 x1 : IV) (h : IH) : J1 (k + 1) [x0, x1] h = (Jd2 k [some x0, some x1] h).fin := by rw [Jly]; rfl
noncomputable def Jgy (k : Nat) : S1 := (sSeq (sSet 9 (eBin Jam (eBin Jam (eBin Jdb (eVar 0) (eC (.int 6720))) (eBin Jbe (eVar 8) (eBin Jam (eC (.int 1)) (eBin Jbj (eVar 0) (eC (.int 25)))))) (eBin Jbe (eVar 6) (eCB (on1 intI) (Ja (eBin cEq (eVar 8) (eVar 4)) aNil))))) (sSet 7 (eBin Jam (eVar 7) (eBin opIx (eVar 2) (eBin Jbj (eVar 9) (eC (.int 26)))))))
noncomputable def Jgu (k : Nat) : S1 := (sSeq (sSet 7 (eC (.str ""))) (sSeq (sFor (iRg Jc8 (Ja (eVar 3) aNil)) (gNm 8) (Jgy k)) (Jiq (eDot (pg k) "append" 1 (eVar 5) (Ja (eVar 7) aNil)))))
noncomputable def Jie (k : Nat) : S1 := (sRet (eVar 5))
noncomputable def Ji2 (k : Nat) : S1 := sSeq (sFor (iRg Jc8 (Ja (eVar 1) aNil)) (gNm 6) (Jgu k)) (Jie k)
noncomputable def Jiz (k : Nat) : S1 := sSeq (sSet 5 (eLst aNil)) (Ji2 k)
noncomputable def Jhp (k : Nat) : S1 := sSeq (sSet 4 (eBin Jbj (eBin Jbj (eBin Jdb (eVar 0) (eC (.int 8))) (eC (.int 840))) (eVar 3))) (Jiz k)
noncomputable def Jh8 (k : Nat) : S1 := sSeq (sSet 3 (eBin Jam (eC (.int 1)) (eBin Jbj (eVar 0) (eC (.int 8))))) (Jhp k)
noncomputable def Je7 (k : Nat) : S1 := sSeq (sSet 2 (eC (.str "abcdefghijklmnopqrstuvwxyz"))) (Jh8 k)
theorem Joz (k : Nat) : Jc1 (k + 1) = fnI 10 (Je7 k) := by kernel_rfl
theorem Jm9 (k : Nat) (x0 x1 : IV) (h : IH) : Jc1 (k + 1) [x0, x1] h = (Je7 k [some x0, some x1, none, none, none, none, none, none, none, none] h).fin := by rw [Joz]; rfl
noncomputable def Jfp (k : Nat) : S1 := (sSeq (Jiq (eDot (pg k) "append" 1 (eVar 2) (Ja (eBin Jbj (eVar 3) (eC (.int 2147483647))) aNil))) (sSet 3 (eBin Jdb (eVar 3) (eC (.int 2147483647)))))
noncomputable def Jfd (k : Nat) : S1 := (sSeq (sSet 5 (eBin Jbj (eBin Jam (eBin Jam (eBin Jbe (eVar 5) (eVar 5)) (eBin Jbe (eC (.int 48271)) (eVar 5))) (eVar 4)) (eC (.int 2147483647)))) (Jiq (eDot (pg k) "append" 1 (eVar 2) (Ja (eVar 5) aNil))))
noncomputable def Jgm (k : Nat) : S1 := (sRet (eSl slI (eVar 2) (Jle (eC (.int 2))) Jmh))
noncomputable def Jgp (k : Nat) : S1 := sSeq (sFor (iRg Jc8 (Ja (eBin Jam (eVar 1) (eC (.int 2))) aNil)) (gNm 4) (Jfd k)) (Jgm k)
noncomputable def Jgv (k : Nat) : S1 := sSeq (sSet 5 (eBin Jam (eBin Jbj (eVar 0) (eC (.int 2147483647))) (eC (.int 48271)))) (Jgp k)
noncomputable def Jgn (k : Nat) : S1 := sSeq (sIf (tOfB asB (eBin cGe (eVar 0) (eBin Jkx (eC (.int 10)) (eC (.int 30))))) (sSeq (sSet 3 (eBin Jl5 (eVar 0) (eBin Jkx (eC (.int 10)) (eC (.int 30))))) (sSeq (sFor (iRg Jc8 (Ja (eVar 1) aNil)) (gNm 4) (Jfp k)) (sRet (eVar 2)))) sNil) (Jgv k)
noncomputable def Jd7 (k : Nat) : S1 := sSeq (sSet 2 (eLst aNil)) (Jgn k)
theorem Jmw (k : Nat) : Jch (k + 1) = fnI 6 (Jd7 k) := by kernel_rfl
theorem Jma (k : Nat) (x0 x1 : IV) (h : IH) : Jch (k + 1) [x0, x1] h = (Jd7 k [some x0, some x1, none, none, none, none] h).fin := by rw [Jmw]; rfl
noncomputable def Jiv (k : Nat) : S1 := (sRet (Jy (Jch k) [] (Ja (eBin Jam (eVar 0) (eBin Jbe (eC (.int 7919)) (eVar 1))) (Ja (eVar 2) aNil))))
noncomputable def Jeu (k : Nat) : S1 := sSeq (sIf (tOfB asB (eBin cGe (eVar 0) (eBin Jkx (eC (.int 10)) (eC (.int 30))))) (sRet (eSl slI (Jy (Jch k) [] (Ja (eVar 0) (Ja (eBin Jbe (eVar 2) (eBin Jam (eVar 1) (eC (.int 1)))) aNil))) (Jle (eBin Jbe (eVar 2) (eVar 1))) Jmh)) sNil) (Jiv k)
theorem Jnq (k : Nat) : Jes (k + 1) = fnI 3 (Jeu k) := by kernel_rfl
theorem Jn7 (k : Nat) (x0 x1 x2 : IV) (h : IH) : Jes (k + 1) [x0, x1, x2] h = (Jeu k [some x0, some x1, some x2] h).fin := by rw [Jnq]; rfl
noncomputable def Jgw (k : Nat) : S1 := (sRet (eLst (Ja (eVar 4) (Ja (eVar 7) (Ja (eVar 10) (Ja (eVar 8) (Ja (eVar 9) (Ja (eVar 11) aNil))))))))
noncomputable def Jhw (k : Nat) : S1 := sSeq (sIf (Jn0 (tOfB asB (eBin cEq (eBin Jbj (eBin opIx (eVar 6) (eC (.int 5))) (eC (.int 2))) (eC (.int 1)))) (tOfB asB (eBin cGt (eVar 10) (eC (.int 3))))) (sSet 11 (eLst (Ja (eTup (Ja (eVar 5) (Ja (eC (.int 0)) (Ja (eBin Jam (eC (.int 1)) (eBin Jbj (eBin opIx (eVar 6) (eC (.int 4))) (eBin Jl5 (eVar 10) (eC (.int 2))))) aNil)))) (Ja (eTup (Ja (eVar 4) (Ja (eBin Jl5 (eVar 10) (eC (.int 2))) (Ja (eBin Jl5 (eVar 10) (eC (.int 1))) aNil)))) aNil)))) sNil) (Jgw k)
noncomputable def Jhd (k : Nat) : S1 := sSeq (sSet 11 (eLst aNil)) (Jhw k)
noncomputable def Jej (k : Nat) : S1 := sSeq (sSet 10 (eBin Jam (eC (.int 1)) (eBin Jbj (eBin Jbe (eBin Jbe (eBin Jbe (eBin Jbe (eBin opIx (eVar 6) (eC (.int 3))) (eBin opIx (eVar 6) (eC (.int 4)))) (eBin opIx (eVar 6) (eC (.int 5)))) (eBin opIx (eVar 6) (eC (.int 3)))) (eBin opIx (eVar 6) (eC (.int 4)))) (eBin Jkx (eC (.int 10)) (eC (.int 40)))))) (Jhd k)
noncomputable def Jhj (k : Nat) : S1 := sSeq (sIf (tOfB asB (eBin cEq (eBin Jbj (eBin opIx (eVar 6) (eC (.int 2))) (eC (.int 2))) (eC (.int 1)))) (sSet 9 (eBin Jbj (eBin Jbe (eBin opIx (eVar 6) (eC (.int 2))) (eBin Jam (eC (.int 1)) (eBin Jdb (eVar 2) (eC (.int 1000))))) (eBin Jbe (eC (.int 2)) (eVar 7)))) sNil) (Jej k)
noncomputable def Jei (k : Nat) : S1 := sSeq (sSet 9 (eC (.int 0))) (Jhj k)
noncomputable def Jiw (k : Nat) : S1 := sSeq (sIf (Jn0 (tOfB asB (eBin cGt (eBin Jbj (eBin opIx (eVar 6) (eC (.int 1))) (eC (.int 3))) (eC (.int 0)))) (tOrI (tOfB asB (eBin cGt (eVar 1) (eC (.int 0)))) (Jbd (tOfB tru (eVar 3))))) (sSet 8 (eBin Jam (eC (.int 1)) (eBin Jbj (eBin Jbe (eBin opIx (eVar 6) (eC (.int 1))) (eBin Jam (eC (.int 1)) (eBin Jdb (eVar 2) (eC (.int 1000))))) (eVar 7)))) sNil) (Jei k)
noncomputable def Jem (k : Nat) : S1 := sSeq (sSet 8 (eVar 7)) (Jiw k)
noncomputable def Jit (k : Nat) : S1 := sSeq (sIf (tOfB tru (eVar 3)) (sSet 7 (eBin Jam (eBin Jbe (eVar 2) (eBin opIx (eLst (Ja (eC (.int 8)) (Ja (eC (.int 1)) aNil))) (eCB (on1 intI) (Ja (eBin cGt (eVar 1) (eC (.int 0))) aNil)))) (eBin Jbj (eBin Jbe (eBin opIx (eVar 6) (eC (.int 0))) (eBin Jam (eC (.int 1)) (eBin Jdb (eVar 2) (eC (.int 1000))))) (eVar 2)))) sNil) (Jem k)
noncomputable def Jh7 (k : Nat) : S1 := sSeq (sSet 7 (eBin Jam (eBin Jbe (eVar 2) (eBin Jam (eC (.int 1)) (eBin Jbj (eBin opIx (eVar 6) (eC (.int 0))) (eC (.int 8))))) (eBin Jbj (eBin Jdb (eBin opIx (eVar 6) (eC (.int 0))) (eC (.int 8))) (eVar 2)))) (Jit k)
noncomputable def Je4 (k : Nat) : S1 := sSeq (sSet 6 (Jy (Jes k) [] (Ja (Jy (Jq k) [] (Ja (eVar 0) (Ja (eBin Jam (eC (.int 4)) (eVar 1)) aNil))) (Ja (eVar 1) (Ja (eC (.int 6)) aNil))))) (Jh7 k)
theorem Jos (k : Nat) : Jey (k + 1) = fnI 12 (Je4 k) := by kernel_rfl
theorem Jpp (k : Nat) (x0 x1 x2 x3 x4 x5 : IV) (h : IH) : Jey (k + 1) [x0, x1, x2, x3, x4, x5] h = (Je4 k [some x0, some x1, some x2, some x3, some x4, some x5, none, none, none, none, none, none] h).fin := by rw [Jos]; rfl
noncomputable def Jf9 (k : Nat) : E1 := (eBin opIx (eVar 0) (eC (.int 3)))
noncomputable def Jf3 (k : Nat) : E1 := (eBin Jdb (eBin Jl5 (eBin Jam (eBin Jam (eVar 1) (eBin opIx (eVar 0) (eC (.int 4)))) (eBin opIx (eVar 0) (eC (.int 1)))) (eC (.int 1))) (eBin opIx (eVar 0) (eC (.int 1))))
noncomputable def Jhz (k : Nat) : S1 := (sRet (eCB (on1 sumI) (Ja (Jbi (iAny (eVar 0)) 1 [1] (gNm 0) Jci (Jf3 k)) aNil)))
noncomputable def Je2 (k : Nat) : S1 := sSeq (sSet 1 (Jrk (Ja (Jbi (iAny (eVar 0)) 1 [] (gNm 0) Jci (Jf9 k)) aNil) (eC (.int 0)))) (Jhz k)
theorem Joi (k : Nat) : Jcy (k + 1) = fnI 2 (Je2 k) := by kernel_rfl
theorem Jm6 (k : Nat) (x0 : IV) (h : IH) : Jcy (k + 1) [x0] h = (Je2 k [some x0, none] h).fin := by rw [Joi]; rfl
noncomputable def Jjk (k : Nat) : S1 := (sRet (eAnd (Jy (J1 k) [] (Ja (eFld "due" (eVar 0)) (Ja (eBin opIx (eVar 1) (eC (.int 3))) aNil))) (eAnd (Jy (J1 k) [] (Ja (eFld "late" (eVar 0)) (Ja (eBin opIx (eVar 1) (eC (.int 4))) aNil))) (eBin cEq (eDot (pg k) "held" 0 (eVar 0) aNil) (eBin opIx (eVar 1) (eC (.int 5)))) tru) tru))
noncomputable def Jjh (k : Nat) : S1 := sSeq (sIf (tOrI (Jbd (tOfB tru (Jy (J1 k) [] (Ja (eFld "gap" (eVar 0)) (Ja (eBin opIx (eVar 1) (eC (.int 1))) aNil))))) (Jbd (tOfB tru (Jy (J1 k) [] (Ja (eFld "length" (eVar 0)) (Ja (eBin opIx (eVar 1) (eC (.int 2))) aNil)))))) (sRet (eC (.bl false))) sNil) (Jjk k)
noncomputable def Jga (k : Nat) : S1 := sSeq (sIf (tOrI (Jbd (tOfB tru (eIsi (Jtf ["Work"]) (eVar 0)))) (tOrI (Jbd (tOfB tru (eIsi Jaw (eFld "name" (eVar 0))))) (tOfB asB (eBin cNe (eFld "name" (eVar 0)) (eBin opIx (eVar 1) (eC (.int 0))))))) (sRet (eC (.bl false))) sNil) (Jjh k)
theorem Jpr (k : Nat) : Jgd (k + 1) = fnI 2 (Jga k) := by kernel_rfl
theorem Jp1 (k : Nat) (x0 x1 : IV) (h : IH) : Jgd (k + 1) [x0, x1] h = (Jga k [some x0, some x1] h).fin := by rw [Jpr]; rfl
noncomputable def Jj6 (k : Nat) : S1 := (sRet (eC (.bl false)))
noncomputable def Jc0 (k : Nat) : S1 := sSeq (sTry (Jiq (eDot (pg k) "number_of" 1 (eVar 0) (Ja (eVar 1) aNil))) [(Jc3, some 2, (sRet (eAnd (eIsi (Jy8 Jhx) (eVar 2)) (eUn (Jpa tru) (eIsi (Jy8 Jgc) (eVar 2))) tru)))]) (Jj6 k)
theorem Jk0 (k : Nat) : Jbs (k + 1) = fnI 3 (Jc0 k) := by kernel_rfl
theorem Jlb (k : Nat) (x0 x1 : IV) (h : IH) : Jbs (k + 1) [x0, x1] h = (Jc0 k [some x0, some x1, none] h).fin := by rw [Jk0]; rfl
noncomputable def Jgr (k : Nat) : S1 := (sIf (tOrI (Jbd (tOfB tru (Jy (Jgd k) [] (Ja (eDot (pg k) "work" 1 (eVar 0) (Ja (eVar 3) aNil)) (Ja (eBin opIx (eVar 1) (eVar 3)) aNil))))) (Jbd (tOfB tru (Jy (J1 k) [] (Ja (eDot (pg k) "number_of" 1 (eVar 0) (Ja (eBin opIx (eBin opIx (eVar 1) (eVar 3)) (eC (.int 0))) aNil)) (Ja (eVar 3) aNil)))))) (sRet (eC (.bl false))) sNil)
noncomputable def Jgq (k : Nat) : S1 := (sIf (Jn0 (tOfB asB (eBin Jj9 (eVar 4) (eSl slI (eVar 2) Jmh (Jle (eCB (on1 lenI) (Ja (eVar 1) aNil)))))) (Jbd (tOfB tru (Jy (Jbs k) [] (Ja (eVar 0) (Ja (eVar 4) aNil)))))) (sRet (eC (.bl false))) sNil)
noncomputable def Jic (k : Nat) : S1 := (sRet (eC (.bl true)))
noncomputable def Jhv (k : Nat) : S1 := sSeq (sFor (iAny (eBin Jam (eSl slI (eVar 2) (Jle (eCB (on1 lenI) (Ja (eVar 1) aNil))) Jmh) (eLst (Ja (eC (.str "")) (Ja (eBin Jam (eBin opIx (eVar 2) (eC (.int 0))) (eC (.str "a"))) (Ja (eSl slT (eBin opIx (eVar 2) (eC (.int 0))) Jmh (Jle (eUn Jvy (eC (.int 1))))) (Ja (eDot (pg k) "upper" 0 (eBin opIx (eVar 2) (eC (.int 0))) aNil) (Ja (eC .non) (Ja (eC (.int 0)) (Ja (eLst (Ja (eBin opIx (eVar 2) (eC (.int 0))) aNil)) aNil)))))))))) (gNm 4) (Jgq k)) (Jic k)
noncomputable def Jin (k : Nat) : S1 := sSeq (sFor (iRg Jc8 (Ja (eCB (on1 lenI) (Ja (eVar 1) aNil)) aNil)) (gNm 3) (Jgr k)) (Jhv k)
noncomputable def Jef (k : Nat) : S1 := sSeq (sIf (tOrI (Jbd (tOfB tru (Jy (J1 k) [] (Ja (eDot (pg k) "size" 0 (eVar 0) aNil) (Ja (eCB (on1 lenI) (Ja (eVar 1) aNil)) aNil))))) (Jbd (tOfB tru (Jy (J1 k) [] (Ja (eDot (pg k) "crowd" 0 (eVar 0) aNil) (Ja (Jy (Jcy k) [] (Ja (eVar 1) aNil)) aNil)))))) (sRet (eC (.bl false))) sNil) (Jin k)
theorem Jnf (k : Nat) : Jcu (k + 1) = fnI 5 (Jef k) := by kernel_rfl
theorem Jn4 (k : Nat) (x0 x1 x2 : IV) (h : IH) : Jcu (k + 1) [x0, x1, x2] h = (Jef k [some x0, some x1, some x2, none, none] h).fin := by rw [Jnf]; rfl
noncomputable def Jfu (k : Nat) : E1 := (Jy (Jey k) [] (Ja (eVar 3) (Ja (eVar 0) (Ja (eVar 4) (Ja (eVar 1) (Ja (eBin opIx (eVar 2) (eVar 0)) (Ja (eBin opIx (eVar 2) (eBin Jbj (eBin Jam (eVar 0) (eC (.int 1))) (eC (.int 14)))) aNil)))))))
noncomputable def Jfl (k : Nat) : E1 := (Jkq "Work" (Jca k) [] (Ja (eBin opIx (eVar 0) (eC (.int 0))) (Ja (eBin opIx (eVar 0) (eC (.int 1))) (Ja (eBin opIx (eVar 0) (eC (.int 2))) (Ja (eBin opIx (eVar 0) (eC (.int 3))) (Ja (eBin opIx (eVar 0) (eC (.int 4))) (Ja (eCB (on1 Jl3) (Ja (eBin opIx (eVar 0) (eC (.int 5))) aNil)) aNil)))))))
noncomputable def Jmm (k : Nat) : S1 := (sRet (Jy (Jcu k) [] (Ja (eVar 9) (Ja (eVar 5) (Ja (eVar 2) aNil)))))
noncomputable def Jmr (k : Nat) : S1 := sSeq (sIf (tOfB asB (eBin cGt (eVar 1) (eC (.int 0)))) (Jiq (eDot (pg k) "append" 1 (eDot (pg k) "held" 0 (eDot (pg k) "work" 1 (eVar 9) (Ja (eBin Jbj (Jy (Jq k) [] (Ja (eVar 0) (Ja (eC (.int 3)) aNil))) (eVar 1)) aNil)) aNil) (Ja (eTup (Ja (eBin opIx (eVar 2) (eC (.int 0))) (Ja (eC (.int 0)) (Ja (eC (.int 1)) aNil)))) aNil))) sNil) (Jmm k)
noncomputable def Jrb (k : Nat) : S1 := sSeq (Jiq (eDot (pg k) "append" 1 (eVar 7) (Ja (Jkq "Work" (Jca k) [.non, .int 0, .non] (Ja (eBin opIx (eVar 2) (eC (.int 13))) (Ja (eC (.int 1)) (Ja (eC (.int 1)) aNil)))) aNil))) (Jmr k)
noncomputable def Jri (k : Nat) : S1 := sSeq (Jiq (eDot (pg k) "reverse" 0 (eVar 7) aNil)) (Jrb k)
noncomputable def Jq8 (k : Nat) : S1 := sSeq (sIf (tOrI (tOfB asB (eBin cIs (eVar 9) (eC .non))) (Jbd (tOfB tru (Jy (Jcu k) [] (Ja (eVar 9) (Ja (eVar 5) (Ja (eVar 2) aNil))))))) (sRet (eC (.bl false))) sNil) (Jri k)
noncomputable def Jmp (k : Nat) : S1 := sSeq (sIf (tOfB asB (eBin cGt (Jy (Jcy k) [] (Ja (eVar 5) aNil)) (eC (.int 80)))) (sRet (eBin cEq (eVar 8) (eC (.str "many")))) sNil) (Jq8 k)
noncomputable def Jls (k : Nat) : S1 := sSeq (sIf (tOfB asB (eBin cNeO (eVar 7) (eVar 6))) (sRet (eC (.bl false))) sNil) (Jmp k)
noncomputable def Jqs (k : Nat) : S1 := sSeq (sTry (sSet 9 (Jkq "Duty" (Jev k) [] (Ja (eVar 7) aNil))) [(Jc3, some 10, (sSeq (sSet 8 (eC (.str "refused"))) (sIf (Jn0 (tOfB tru (eIsi (Jy8 Jgc) (eVar 10))) (Jbd (tOfB tru (eIsi (Jy8 Jhx) (eVar 10))))) (sSet 8 (eC (.str "many"))) sNil)))]) (Jls k)
noncomputable def Jsu (k : Nat) : S1 := sSeq (sSet 9 (eC .non)) (Jqs k)
noncomputable def Jua (k : Nat) : S1 := sSeq (sSet 8 (eC (.str "made"))) (Jsu k)
noncomputable def Jt6 (k : Nat) : S1 := sSeq (sSet 7 (eCB (on1 Jl3) (Ja (eVar 6) aNil))) (Jua k)
noncomputable def Jts (k : Nat) : S1 := sSeq (sSet 6 (Jbi (iAny (eVar 5)) 1 [] (gNm 0) Jci (Jfl k))) (Jt6 k)
noncomputable def Jkm (k : Nat) : S1 := sSeq (sSet 5 (Jbi (iRg Jc8 (Ja (eVar 1) aNil)) 1 [4, 2, 0, 3] (gNm 0) Jci (Jfu k))) (Jts k)
noncomputable def Jqh (k : Nat) : S1 := sSeq (sIf (tOfB tru (eVar 4)) (sSet 1 (eBin Jam (eC (.int 10)) (eBin Jbj (eVar 1) (eC (.int 3))))) sNil) (Jkm k)
noncomputable def Juc (k : Nat) : S1 := sSeq (sSet 4 (eBin cEq (eBin Jbj (Jy (Jq k) [] (Ja (eVar 0) (Ja (eC (.int 3)) aNil))) (eC (.int 3))) (eC (.int 1)))) (Jqh k)
noncomputable def Js0 (k : Nat) : S1 := sSeq (sSet 3 (eBin Jam (eC (.int 1)) (eBin Jbj (Jy (Jq k) [] (Ja (eVar 0) (Ja (eC (.int 2)) aNil))) (eBin Jkx (eC (.int 10)) (eC (.int 40)))))) (Juc k)
noncomputable def Juu (k : Nat) : S1 := sSeq (sSet 2 (Jy (Jc1 k) [] (Ja (Jy (Jq k) [] (Ja (eVar 0) (Ja (eC (.int 1)) aNil))) (Ja (eC (.int 14)) aNil)))) (Js0 k)
noncomputable def Jql (k : Nat) : S1 := sSeq (sSet 1 (eBin Jbj (Jy (Jq k) [] (Ja (eVar 0) (Ja (eC (.int 0)) aNil))) (eC (.int 13)))) (Juu k)
theorem J15 (k : Nat) : Jp7 (k + 1) = fnI 11 (Jql k) := by kernel_rfl
theorem Jz1 (k : Nat) (x0 : IV) (h : IH) : Jp7 (k + 1) [x0] h = (Jql k [some x0, none, none, none, none, none, none, none, none, none, none] h).fin := by rw [J15]; rfl
theorem Jjj (k : Nat) : Jk4 (pg k) "held" 0 "Work" = some (Jet k, []) := by kernel_rfl
theorem Jok (k : Nat) : Jk4 (pg k) "size" 0 "Duty" = some (Jer k, []) := by kernel_rfl
theorem Jjn (k : Nat) : Jk4 (pg k) "work" 1 "Duty" = some (Jez k, []) := by kernel_rfl
theorem Jed (k : Nat) : Jk4 (pg k) "number_of" 1 "Duty" = some (Jau k, []) := by kernel_rfl
theorem Jmt (k : Nat) : Jk4 (pg k) "crowd" 0 "Duty" = some (Jdl k, []) := by kernel_rfl
end LW
section
open PySem L2 L3 L4
local macro_rules | `(tactic| simp! [$xs,*]) => `(tactic| simp (implicitDefEqProofs := false) only [Jco, Jdu, Jb4, Jdp, Jib, Jb0, Jbx, Jb3, Jdj, Jdy, Jb2, Jdc, Jd0, Jc2, Jd, Jd5, Jqg, Jg6, Jhc, Jd1, Jhy, Jdh, Jil, Jis, Jbp, Jdo, Jbq, Jbz, Jar, Jb6, Jax, Jdn, Jc9, Jbw, Jby, Jhr, Jdm, Jdx, Jav, Jaz, Ji4, Jde, Jdw, Jdf, Jdd, Jds, Jb5, Jdq, Jdr, Jbr, Jh1, Jiu, Jiy, Jii, Jho, Jhe, Jc5, Jdk, Jdg, Jbv, Jdi, Jcv, Jhh, Jb1, Jc4, Jbn, Jbo, Jdt, Jda, Jdv, Jc7, Ja0, List.set_cons_succ, List.set_cons_zero, List.append_nil, List.cons_append, List.nil_append, exists_eq_left, exists_eq_left', IV.bl.injEq, IV.int.injEq, IV.ref.injEq, IV.str.injEq, IO.lst.injEq, IV.tup.injEq, Option.some.injEq, Bool.not_true, Bool.not_false, reduceCtorEq, eq_self, true_implies, false_implies, implies_true, and_true, true_and, and_false, false_and, Option.bind_some, Bool.true_eq_false, Bool.false_eq_true, Jcn, Jba, Jck, Jgj, Jcq, Jcm, Jbk, Jaj, Jaw, Jan, Jbu, Jcg, Jcl, Jfe, Jfo, Jgl, Jgh, Jgi, Ja8, Jbb, Jbc, $xs,*])
namespace LW
open PySem L2 L3 L4
section
variable {k : Nat} {h : IH}
theorem Jf : 1000000 < sizeLine := by decide
theorem Jl0 (o o' : IO) : List.set (h ++ [o]) h.length o' = h ++ [o'] := by
 rw [List.set_append_right _ _ (Nat.le_refl _), Nat.sub_self]; rfl
theorem Jy0 (o o' : IO) (g : IH) : List.set (h ++ o :: g) h.length o' = h ++ o' :: g := by
 rw [List.set_append_right _ _ (Nat.le_refl _), Nat.sub_self]; rfl
end
end LW
namespace LW
open PySem L2 L3 L4
section
variable {k : Nat} {h : IH}
theorem Ji7 (ns : List Int) (n : Int) (hn : 0 <= n) : Jq (k + 1) [.rol (ns.map .int), .int n] h = .ok (.int (ns.getD n.toNat 0)) h := by
 refine Jeh ?_
 rw [Jk7]
 simp! [Jcx, Jfq, List.length_map, decide_eq_true_eq, decide_eq_false_iff_not]
 refine ⟨fun hl => ⟨.int (ns.getD n.toNat 0), Jtx hn ?_, rfl⟩, fun hl => ?_⟩
 ·rw [List.getElem?_map, List.getD_eq_getElem?_getD, List.getElem?_eq_getElem (show n.toNat < ns.length by omega)]
  rfl
 ·rw [List.getD_eq_getElem?_getD, List.getElem?_eq_none (by omega)]
  rfl
end
end LW
namespace LW
open PySem L2 L3 L4
section
variable {k : Nat} {h : IH}
theorem Jm3 (i : Int) : Jgf (k + 1) [.int i] h = .ok (.bl true) h := by rw [Jqi]; rfl
theorem Jje (i j : Int) : Ju (k + 2) [.int i, .int j] h = .ok (.bl (decide (j <= i))) h := by
 refine Jeh ?_
 rw [Jjq]
 simp! [Jcb, Jm3]
noncomputable def IsNm (x : Str) : Prop := 1 <= x.length /\ x.length <= 8 /\ ∀ c ∈ x.cps.toList, 97 <= c /\ c <= 122
theorem J0e : (Str.ofString "a").cps.toList = [97] := by decide +kernel
theorem z_cps : (Str.ofString "z").cps.toList = [122] := by decide +kernel
theorem Jxz {c : Nat} (hc : 97 <= c /\ c <= 122) : Je9 k [some (.str ⟨#[c]⟩)] h = .ok (.bl true) h := by
 refine Jeh ?_
 have h1 : ¬ ([c] < [97]) := fun q => by
  cases q with
  | rel q => omega
  | cons q => cases q
 have h2 : ¬ ([122] < [c]) := fun q => by
  cases q with
  | rel q => omega
  | cons q => cases q
 simp only [Je9, Jar, Jqg, Jg6, Jd5, J1g, J0e, z_cps, h1, h2, decide_false, exists_eq_left, exists_eq_left', IV.bl.injEq, IV.int.injEq, IV.ref.injEq, IV.str.injEq, IO.lst.injEq, IV.tup.injEq, Option.some.injEq, Bool.not_true, Bool.not_false, reduceCtorEq, eq_self, true_implies, false_implies, implies_true, and_true, true_and, and_false, false_and, Option.bind_some, Bool.true_eq_false, Bool.false_eq_true, Jcn, Jba, Jck, Jgj, Jcq, Jcm, Jbk, Jaj, Jaw, Jan, Jbu, Jcg, Jcl, Jfe, Jfo, Jgl, Jgh, Jgi, Ja8, Jbb, Jbc]
theorem Jlp {x : Str} (hx : IsNm x) : WR (Jff (k + 1) [.str x] h) fun v h' => v = .bl true /\ Ex h h' := by
 obtain ⟨h1, h2, h3⟩ := hx
 have hb := Jf
 have hz : x.length <= sizeLine := by omega
 have a1 : (1 : Int) <= x.length := by omega
 have a2 : (x.length : Int) <= 8 := by omega
 rw [Jrj]
 simp! [Jg3, Jj8, hz, a1, a2, decide_true]
 refine WR.mono (Jcc (xs := Jld x) (chk := fun _ => True) (f := fun _ => .bl true) (h := h) ?_ ?_ (fun _ _ => trivial) ?_) ?_
 ·exact ⟨rfl, rfl, rfl⟩
 ·have : (Jld x).length = x.length := by simp [Jld, Str.length]
  omega
 ·intro v hv h2 _
  obtain ⟨c, hc, rfl⟩ := List.mem_map.mp hv
  exact WR.of_eq (Jxz (h3 c hc)) ⟨rfl, .refl _⟩
 ·rintro v h' ⟨rfl, g, rfl⟩
  refine WR.of_eq (all_map (f := fun _ => true) Jdz) ⟨?_, .cons ..⟩
  simp
noncomputable abbrev Hd := Str × Int × Int
noncomputable def tupH (a : Hd) : IV := .tup [.str a.1, .int a.2.1, .int a.2.2]
noncomputable def HdOk (len : Int) (a : Hd) : Prop := IsNm a.1 /\ 0 <= a.2.1 /\ a.2.1 < a.2.2 /\ a.2.2 < len
noncomputable def Tog (a b : Hd) : Prop := a.2.2 <= b.2.1 ∨ b.2.2 <= a.2.1 ∨ (a.1 ≠ b.1 /\ ((b.2.1 <= a.2.1 /\ a.2.2 <= b.2.2) ∨ (a.2.1 <= b.2.1 /\ b.2.2 <= a.2.2)))
theorem Jsq {a : Hd} {len : Int} (ha : HdOk len a) : WR (Jht (k + 3) [tupH a, .int len] h) fun v h' => v = .bl true /\ Ex h h' := by
 obtain ⟨h1, h2, h3, h4⟩ := ha
 rw [Jr6]
 have h5 : a.2.1 + 1 <= a.2.2 := by omega
 simp! [Jg0, Jj3, Jj2, tupH, List.length_cons, List.length_nil, Jje]
 refine ⟨fun q => absurd q (by decide), fun _ => WR.mono (Jlp h1) ?_⟩
 rintro v h' ⟨rfl, x⟩
 simp! [decide_eq_true h2, decide_eq_true h4, decide_eq_true h5]
 exact x
theorem Jot (a b : Hd) : Je8 (k + 1) [tupH a, tupH b] h = .ok (.bl (decide (a.2.2 <= b.2.1) || decide (b.2.2 <= a.2.1))) h := by
 refine Jeh ?_
 rw [Jm4]
 simp! [Jel, tupH]
 cases decide (a.2.2 <= b.2.1) <;> simp
theorem Jsn (a b : Hd) : Jfv (k + 1) [tupH a, tupH b] h = .ok (.bl (decide (b.2.1 <= a.2.1) && decide (a.2.2 <= b.2.2))) h := by
 refine Jeh ?_
 rw [Jsp]
 simp! [Jhb, tupH]
 cases decide (b.2.1 <= a.2.1) <;> simp
theorem Jkz {a b : Hd} (t : Tog a b) : Jcs (k + 2) [tupH a, tupH b] h = .ok (.bl true) h := by
 refine Jeh ?_
 rw [Jk9]
 have ix : ∀ a : Hd, WR (opIx (tupH a) (.int 0) h) = fun P => P (.str a.1) h := fun a => by
  funext P
  simp only [tupH, Jcg, exists_eq_left, exists_eq_left', IV.bl.injEq, IV.int.injEq, IV.ref.injEq, IV.str.injEq, IO.lst.injEq, IV.tup.injEq, Option.some.injEq, Bool.not_true, Bool.not_false, reduceCtorEq, eq_self, true_implies, false_implies, implies_true, and_true, true_and, and_false, false_and, Option.bind_some, Bool.true_eq_false, Bool.false_eq_true, Jcn, Jba, Jck, Jgj, Jcq, Jcm, Jbk, Jaj, Jaw, Jan, Jbu, Jcg, Jcl, Jfe, Jfo, Jgl, Jgh, Jgi, Ja8, Jbb, Jbc]
 simp! [Jcz, Jfn, Jf4, Jot, Jsn, ix]
 unfold Tog at t
 simp only [Bool.or_eq_true, Bool.or_eq_false_iff, Bool.and_eq_true, Bool.and_eq_false_iff, decide_eq_true_eq, decide_eq_false_iff_not]
 grind
theorem Jp5 {hs : List Hd} {i : Nat} (hi : h[i]? = some (.lst (hs.map tupH))) (hl : hs.length <= 6) (ht : ∀ m n (hm : m < n) (hn : n < hs.length), Tog hs[n] hs[m]) :
  WR (Ja6 (k + 3) [.ref i] h) fun v h' => v = .bl true /\ Ex h h' := by
 have hb := Jf
 rw [Jh9]
 simp! [Jbg, Jct, Jxx, hi]
 refine Jek (fun n σ h' => (∃ a b, σ = [some (.ref i), a, b]) /\ Ex h h') (fun n σ h' ⟨_, x⟩ => x.get hi) ?_ ?_ ⟨⟨_, _, rfl⟩, .refl h⟩
 ·rintro n hn _ h' ⟨⟨a, b, rfl⟩, x⟩
  have hn' : n < hs.length := by rw [Jbm, List.length_map] at hn; exact hn
  rw [Jpw]
  simp only [List.getElem_map, Jtk, Jy9, Jyt, List.length_cons, List.length_nil, Jco, Jdu, Jb4, Jdp, Jib, Jb0, Jbx, Jb3, Jdj, Jdy, Jb2, Jdc, Jd0, Jc2, Jd, Jd5, Jqg, Jg6, Jhc, Jd1, Jhy, Jdh, Jil, Jis, Jbp, Jdo, Jbq, Jbz, Jar, Jb6, Jax, Jdn, Jc9, Jbw, Jby, Jhr, Jdm, Jdx, Jav, Jaz, Ji4, Jde, Jdw, Jdf, Jdd, Jds, Jb5, Jdq, Jdr, Jbr, Jh1, Jiu, Jiy, Jii, Jho, Jhe, Jc5, Jdk, Jdg, Jbv, Jdi, Jcv, Jhh, Jb1, Jc4, Jbn, Jbo, Jdt, Jda, Jdv, Jc7, Ja0, List.set_cons_succ, List.set_cons_zero, List.append_nil, List.cons_append, List.nil_append, exists_eq_left, exists_eq_left', IV.bl.injEq, IV.int.injEq, IV.ref.injEq, IV.str.injEq, IO.lst.injEq, IV.tup.injEq, Option.some.injEq, Bool.not_true, Bool.not_false, reduceCtorEq, eq_self, true_implies, false_implies, implies_true, and_true, true_and, and_false, false_and, Option.bind_some, Bool.true_eq_false, Bool.false_eq_true, Jcn, Jba, Jck, Jgj, Jcq, Jcm, Jbk, Jaj, Jaw, Jan, Jbu, Jcg, Jcl, Jfe, Jfo, Jgl, Jgh, Jgi, Ja8, Jbb, Jbc, Jcp]
  have hi' := x.get hi
  refine WR.mono (Jcc (xs := (hs.map tupH).take n) (chk := fun h2 => h2[h'.length]? = some (.lst ((hs.map tupH).take n))) (f := fun _ => .bl true) (h := h' ++ [.lst ((hs.map tupH).take n)]) ?_ ?_ ?_ ?_) ?_
  ·simp! [Jop, hi', Jir, Jq7, Ja2]
  ·simp only [List.length_take, List.length_map]; omega
  ·exact fun h2 q => q _ _ Ja2
  ·intro v hv h2 q
   obtain ⟨j, hj, rfl⟩ := List.mem_iff_getElem.mp hv
   have hj' : j < n := by simp at hj; omega
   simp only [List.getElem_take, List.getElem_map, Jcf, Jco, Jdu, Jb4, Jdp, Jib, Jb0, Jbx, Jb3, Jdj, Jdy, Jb2, Jdc, Jd0, Jc2, Jd, Jd5, Jqg, Jg6, Jhc, Jd1, Jhy, Jdh, Jil, Jis, Jbp, Jdo, Jbq, Jbz, Jar, Jb6, Jax, Jdn, Jc9, Jbw, Jby, Jhr, Jdm, Jdx, Jav, Jaz, Ji4, Jde, Jdw, Jdf, Jdd, Jds, Jb5, Jdq, Jdr, Jbr, Jh1, Jiu, Jiy, Jii, Jho, Jhe, Jc5, Jdk, Jdg, Jbv, Jdi, Jcv, Jhh, Jb1, Jc4, Jbn, Jbo, Jdt, Jda, Jdv, Jc7, Ja0, List.set_cons_succ, List.set_cons_zero, List.append_nil, List.cons_append, List.nil_append, exists_eq_left, exists_eq_left', IV.bl.injEq, IV.int.injEq, IV.ref.injEq, IV.str.injEq, IO.lst.injEq, IV.tup.injEq, Option.some.injEq, Bool.not_true, Bool.not_false, reduceCtorEq, eq_self, true_implies, false_implies, implies_true, and_true, true_and, and_false, false_and, Option.bind_some, Bool.true_eq_false, Bool.false_eq_true, Jcn, Jba, Jck, Jgj, Jcq, Jcm, Jbk, Jaj, Jaw, Jan, Jbu, Jcg, Jcl, Jfe, Jfo, Jgl, Jgh, Jgi, Ja8, Jbb, Jbc, List.map_cons, List.map_nil, List.getElem?_cons_succ, List.getElem?_cons_zero, Option.join_some]
   exact WR.of_eq (Jkz (ht j n hj' hn')) ⟨rfl, .refl _⟩
  ·rintro v h3 ⟨rfl, g, rfl⟩
   refine WR.of_eq (all_map (f := fun _ => true) Jdz) ?_
   have : (((hs.map tupH).take n).all fun _ => true) = true := by simp
   simp only [this, Jco, Jdu, Jb4, Jdp, Jib, Jb0, Jbx, Jb3, Jdj, Jdy, Jb2, Jdc, Jd0, Jc2, Jd, Jd5, Jqg, Jg6, Jhc, Jd1, Jhy, Jdh, Jil, Jis, Jbp, Jdo, Jbq, Jbz, Jar, Jb6, Jax, Jdn, Jc9, Jbw, Jby, Jhr, Jdm, Jdx, Jav, Jaz, Ji4, Jde, Jdw, Jdf, Jdd, Jds, Jb5, Jdq, Jdr, Jbr, Jh1, Jiu, Jiy, Jii, Jho, Jhe, Jc5, Jdk, Jdg, Jbv, Jdi, Jcv, Jhh, Jb1, Jc4, Jbn, Jbo, Jdt, Jda, Jdv, Jc7, Ja0, List.set_cons_succ, List.set_cons_zero, List.append_nil, List.cons_append, List.nil_append, exists_eq_left, exists_eq_left', IV.bl.injEq, IV.int.injEq, IV.ref.injEq, IV.str.injEq, IO.lst.injEq, IV.tup.injEq, Option.some.injEq, Bool.not_true, Bool.not_false, reduceCtorEq, eq_self, true_implies, false_implies, implies_true, and_true, true_and, and_false, false_and, Option.bind_some, Bool.true_eq_false, Bool.false_eq_true, Jcn, Jba, Jck, Jgj, Jcq, Jcm, Jbk, Jaj, Jaw, Jan, Jbu, Jcg, Jcl, Jfe, Jfo, Jgl, Jgh, Jgi, Ja8, Jbb, Jbc]
   exact ⟨⟨_, _, rfl⟩, x.trans ((Ex.one _ _).trans (.cons ..))⟩
 ·rintro _ h' ⟨⟨a, b, rfl⟩, x⟩
  exact x
theorem Jmq (len : Int) : Jbf (k + 1) [.non, .int len] h = .ok (.tup []) h := by
 refine Jeh ?_
 rw [Jjg]
 simp! [Jcr, Jtn, isI, List.length_nil, Nat.zero_le]
structure HsOk (len : Int) (hs : List Hd) : Prop where
 few : hs.length <= 6
 each : ∀ a ∈ hs, HdOk len a
 tog : ∀ m n (hm : m < n) (hn : n < hs.length), Tog hs[n] hs[m]
theorem Jnt {hs : List Hd} {i : Nat} {len : Int} (hi : h[i]? = some (.lst (hs.map tupH))) (ok : HsOk len hs) :
  WR (Jbf (k + 4) [.ref i, .int len] h) fun v h' => v = .tup (hs.map tupH) /\ Ex h h' := by
 have hb := Jf
 have hl := ok.few
 have h6 : ¬ (6 : Int) < (hs.length : Int) := by omega
 rw [Jjg]
 simp! [Jcr, Jij, Jhg, Jhm, Jtn, isI, Jti hi, Jja, hi, List.length_map, h6, decide_false]
 refine WR.mono (Jcc (xs := hs.map tupH) (chk := fun h2 => h2[i]? = some (.lst (hs.map tupH))) (f := fun _ => .bl true) (h := h) ?_ ?_ ?_ ?_) ?_
 ·simp! [Jir, hi]
 ·simp only [List.length_map]; omega
 ·exact fun h2 q => q _ _ hi
 ·intro v hv h2 q
  obtain ⟨a, ha, rfl⟩ := List.mem_map.mp hv
  simp only [Jfg, Jco, Jdu, Jb4, Jdp, Jib, Jb0, Jbx, Jb3, Jdj, Jdy, Jb2, Jdc, Jd0, Jc2, Jd, Jd5, Jqg, Jg6, Jhc, Jd1, Jhy, Jdh, Jil, Jis, Jbp, Jdo, Jbq, Jbz, Jar, Jb6, Jax, Jdn, Jc9, Jbw, Jby, Jhr, Jdm, Jdx, Jav, Jaz, Ji4, Jde, Jdw, Jdf, Jdd, Jds, Jb5, Jdq, Jdr, Jbr, Jh1, Jiu, Jiy, Jii, Jho, Jhe, Jc5, Jdk, Jdg, Jbv, Jdi, Jcv, Jhh, Jb1, Jc4, Jbn, Jbo, Jdt, Jda, Jdv, Jc7, Ja0, List.set_cons_succ, List.set_cons_zero, List.append_nil, List.cons_append, List.nil_append, exists_eq_left, exists_eq_left', IV.bl.injEq, IV.int.injEq, IV.ref.injEq, IV.str.injEq, IO.lst.injEq, IV.tup.injEq, Option.some.injEq, Bool.not_true, Bool.not_false, reduceCtorEq, eq_self, true_implies, false_implies, implies_true, and_true, true_and, and_false, false_and, Option.bind_some, Bool.true_eq_false, Bool.false_eq_true, Jcn, Jba, Jck, Jgj, Jcq, Jcm, Jbk, Jaj, Jaw, Jan, Jbu, Jcg, Jcl, Jfe, Jfo, Jgl, Jgh, Jgi, Ja8, Jbb, Jbc, List.map_cons, List.map_nil, List.getElem?_cons_succ, List.getElem?_cons_zero, Option.join_some]
  exact Jsq (ok.each a ha)
 ·rintro v h1 ⟨rfl, g, rfl⟩
  refine WR.of_eq (all_map (f := fun _ => true) Jdz) ?_
  have : ((hs.map tupH).all fun _ => true) = true := by simp
  simp only [this, Jco, Jdu, Jb4, Jdp, Jib, Jb0, Jbx, Jb3, Jdj, Jdy, Jb2, Jdc, Jd0, Jc2, Jd, Jd5, Jqg, Jg6, Jhc, Jd1, Jhy, Jdh, Jil, Jis, Jbp, Jdo, Jbq, Jbz, Jar, Jb6, Jax, Jdn, Jc9, Jbw, Jby, Jhr, Jdm, Jdx, Jav, Jaz, Ji4, Jde, Jdw, Jdf, Jdd, Jds, Jb5, Jdq, Jdr, Jbr, Jh1, Jiu, Jiy, Jii, Jho, Jhe, Jc5, Jdk, Jdg, Jbv, Jdi, Jcv, Jhh, Jb1, Jc4, Jbn, Jbo, Jdt, Jda, Jdv, Jc7, Ja0, List.set_cons_succ, List.set_cons_zero, List.append_nil, List.cons_append, List.nil_append, exists_eq_left, exists_eq_left', IV.bl.injEq, IV.int.injEq, IV.ref.injEq, IV.str.injEq, IO.lst.injEq, IV.tup.injEq, Option.some.injEq, Bool.not_true, Bool.not_false, reduceCtorEq, eq_self, true_implies, false_implies, implies_true, and_true, true_and, and_false, false_and, Option.bind_some, Bool.true_eq_false, Bool.false_eq_true, Jcn, Jba, Jck, Jgj, Jcq, Jcm, Jbk, Jaj, Jaw, Jan, Jbu, Jcg, Jcl, Jfe, Jfo, Jgl, Jgh, Jgi, Ja8, Jbb, Jbc, Jip, Jix]
  have x1 : Ex h (h ++ IO.lst (List.map (fun x => IV.bl true) (hs.map tupH)) :: g) := .cons ..
  refine WR.mono (Jp5 (x1.get hi) hl ok.tog) ?_
  rintro v h2 ⟨rfl, x2⟩
  simp! [true_and]
  have hi2 := x2.get (x1.get hi)
  refine WR.mono (Jcc (xs := hs.map tupH) (chk := fun h3 => h3[i]? = some (.lst (hs.map tupH))) (f := fun x => x) (h := h2) ?_ ?_ ?_ ?_) ?_
  ·simp! [Jir, hi2]
  ·simp only [List.length_map]; omega
  ·exact fun h2 q => q _ _ hi2
  ·intro v hv h3 q
   obtain ⟨a, ha, rfl⟩ := List.mem_map.mp hv
   simp only [Jfz, tupH, Jco, Jdu, Jb4, Jdp, Jib, Jb0, Jbx, Jb3, Jdj, Jdy, Jb2, Jdc, Jd0, Jc2, Jd, Jd5, Jqg, Jg6, Jhc, Jd1, Jhy, Jdh, Jil, Jis, Jbp, Jdo, Jbq, Jbz, Jar, Jb6, Jax, Jdn, Jc9, Jbw, Jby, Jhr, Jdm, Jdx, Jav, Jaz, Ji4, Jde, Jdw, Jdf, Jdd, Jds, Jb5, Jdq, Jdr, Jbr, Jh1, Jiu, Jiy, Jii, Jho, Jhe, Jc5, Jdk, Jdg, Jbv, Jdi, Jcv, Jhh, Jb1, Jc4, Jbn, Jbo, Jdt, Jda, Jdv, Jc7, Ja0, List.set_cons_succ, List.set_cons_zero, List.append_nil, List.cons_append, List.nil_append, exists_eq_left, exists_eq_left', IV.bl.injEq, IV.int.injEq, IV.ref.injEq, IV.str.injEq, IO.lst.injEq, IV.tup.injEq, Option.some.injEq, Bool.not_true, Bool.not_false, reduceCtorEq, eq_self, true_implies, false_implies, implies_true, and_true, true_and, and_false, false_and, Option.bind_some, Bool.true_eq_false, Bool.false_eq_true, Jcn, Jba, Jck, Jgj, Jcq, Jcm, Jbk, Jaj, Jaw, Jan, Jbu, Jcg, Jcl, Jfe, Jfo, Jgl, Jgh, Jgi, Ja8, Jbb, Jbc, List.length_cons, List.length_nil]
   exact ⟨by omega, .refl _⟩
  ·rintro v h3 ⟨rfl, g3, rfl⟩
   simp only [Jum, Jdz, exists_eq_left, exists_eq_left', IV.bl.injEq, IV.int.injEq, IV.ref.injEq, IV.str.injEq, IO.lst.injEq, IV.tup.injEq, Option.some.injEq, Bool.not_true, Bool.not_false, reduceCtorEq, eq_self, true_implies, false_implies, implies_true, and_true, true_and, and_false, false_and, Option.bind_some, Bool.true_eq_false, Bool.false_eq_true, Jcn, Jba, Jck, Jgj, Jcq, Jcm, Jbk, Jaj, Jaw, Jan, Jbu, Jcg, Jcl, Jfe, Jfo, Jgl, Jgh, Jgi, Ja8, Jbb, Jbc, List.map_id']
   exact x1.trans (x2.trans (.cons ..))
theorem Jqd (gap : Int) : Jcw (k + 1) [.non, .int gap] h = .ok (.int gap) h := by
 refine Jeh ?_
 rw [Jln]
 simp! [Jeg, Jtn, isI]
theorem Jsa {due gap : Int} (h1 : 1 <= due) (h2 : due <= gap) : Jcw (k + 3) [.int due, .int gap] h = .ok (.int due) h := by
 refine Jeh ?_
 rw [Jln]
 have : ¬ gap < due := by omega
 simp! [Jeg, Jko, Jkl, Jtn, isI, Jje, decide_eq_true h1, decide_eq_false this]
noncomputable def wfs (name : Str) (gap len due late : Int) (hs : List IV) : List (Str × IV) := [("name", .str name), ("gap", .int gap), ("length", .int len), ("due", .int due), ("late", .int late), ("hold_tuples", .tup hs)]
section
variable (a b c d e f : IV)
theorem put0 : putI "name" a ([] : List (Str × IV)) = ([("name", a)] : List (Str × IV)) := by kernel_rfl
theorem put1 : putI "gap" b ([("name", a)] : List (Str × IV)) = ([("name", a), ("gap", b)] : List (Str × IV)) := by kernel_rfl
theorem put2 : putI "length" c ([("name", a), ("gap", b)] : List (Str × IV)) = ([("name", a), ("gap", b), ("length", c)] : List (Str × IV)) := by kernel_rfl
theorem put3 : putI "due" d ([("name", a), ("gap", b), ("length", c)] : List (Str × IV)) = ([("name", a), ("gap", b), ("length", c), ("due", d)] : List (Str × IV)) := by kernel_rfl
theorem put4 : putI "late" e ([("name", a), ("gap", b), ("length", c), ("due", d)] : List (Str × IV)) = ([("name", a), ("gap", b), ("length", c), ("due", d), ("late", e)] : List (Str × IV)) := by kernel_rfl
theorem put5 : putI "hold_tuples" f ([("name", a), ("gap", b), ("length", c), ("due", d), ("late", e)] : List (Str × IV)) = ([("name", a), ("gap", b), ("length", c), ("due", d), ("late", e), ("hold_tuples", f)] : List (Str × IV)) := by kernel_rfl
variable {name : Str} {gap len due late : Int} {hs : List IV}
theorem fl0 : (wfs name gap len due late hs).lookup ("name" : Str) = some (.str name) := by kernel_rfl
theorem fl1 : (wfs name gap len due late hs).lookup ("gap" : Str) = some (.int gap) := by kernel_rfl
theorem fl2 : (wfs name gap len due late hs).lookup ("length" : Str) = some (.int len) := by kernel_rfl
theorem fl3 : (wfs name gap len due late hs).lookup ("due" : Str) = some (.int due) := by kernel_rfl
theorem fl4 : (wfs name gap len due late hs).lookup ("late" : Str) = some (.int late) := by kernel_rfl
theorem fl5 : (wfs name gap len due late hs).lookup ("hold_tuples" : Str) = some (.tup hs) := by kernel_rfl
theorem flh : (wfs name gap len due late hs).lookup ("held" : Str) = none := by kernel_rfl
end
theorem Jt8 {name : Str} {gap len due late : Int} {dv hv : IV} {hs : List IV} {w : Nat} (hw : h[w]? = some (.ins "Work" [])) (hn : IsNm name) (hg : 1 <= gap) (hl : 1 <= len) (ht : 0 <= late)
  (hd : ∀ h1, Jcw (k + 4) [dv, .int gap] h1 = .ok (.int due) h1) (hh : ∀ h1 : IH, (∀ (j : Nat) (o : IO), j ≠ w -> h[j]? = some o -> h1[j]? = some o) -> WR (Jbf (k + 4) [hv, .int len] h1) fun v h2 => v = .tup hs /\ Ex h1 h2) :
  WR (Jca (k + 5) [.ref w, .str name, .int gap, .int len, dv, .int late, hv] h) fun v h' => v = .non /\ ∃ g, h' = h.set w (.ins "Work" (wfs name gap len due late hs)) ++ g := by
 rw [Jnb]
 simp! [Jex]
 refine WR.mono (Jlp hn) ?_
 rintro v h1 ⟨rfl, g1, rfl⟩
 have lw := Jg7 hw
 have s1 : ∀ {o : IO}, (h ++ g1).set w o = h.set w o ++ g1 := by intro o; rw [List.set_append_left (h := lw)]
 have at1 : ∀ {o : IO}, (h.set w o ++ g1)[w]? = some o := by
  intro o
  rw [List.getElem?_append_left (by rw [List.length_set]; exact lw), List.getElem?_set_self lw]
 have s2 : ∀ {o o' : IO}, (h.set w o ++ g1).set w o' = h.set w o' ++ g1 := by intro o o'; rw [List.set_append_left (h := by rw [List.length_set]; exact lw), List.set_set]
 simp! [Jhf, Jh4, Jhn, Jia, Jh2, Jhq, Jid, Jig, Jje, decide_eq_true hg, decide_eq_true hl, decide_eq_true ht, Jpx, IO.ins.injEq, grow hw]
 refine ⟨w, _, _, rfl, grow hw, by decide, ?_⟩
 rw [s1, put0]
 refine ⟨w, _, _, rfl, at1, by show (1 : Nat) < 1000; decide, ?_⟩
 rw [s2, put1]
 refine ⟨w, _, _, rfl, at1, by show (2 : Nat) < 1000; decide, ?_⟩
 rw [s2, put2, hd]
 refine ⟨w, _, _, rfl, at1, by show (3 : Nat) < 1000; decide, ?_⟩
 rw [s2, put3]
 refine ⟨w, _, _, rfl, at1, by show (4 : Nat) < 1000; decide, ?_⟩
 rw [s2, put4]
 simp! [Jih, Jpx]
 refine WR.mono (hh _ fun j o hj e => ?_) ?_
 ·refine grow ?_
  rw [List.getElem?_set_ne (Ne.symm hj)]
  exact e
 ·rintro v h2 ⟨rfl, g2, rfl⟩
  refine ⟨w, _, _, rfl, grow at1, by show (5 : Nat) < 1000; decide, g1 ++ g2, ?_⟩
  rw [List.set_append_left (h := Jg7 at1), s2, put5, List.append_assoc]
  rfl
theorem Jud {name : Str} {gap len due late : Int} {dv hv : IV} {hs : List IV} (hn : IsNm name) (hg : 1 <= gap) (hl : 1 <= len) (ht : 0 <= late)
  (hd : ∀ h1, Jcw (k + 4) [dv, .int gap] h1 = .ok (.int due) h1) (hh : ∀ h1 : IH, (∀ (j : Nat) (o : IO), h[j]? = some o -> h1[j]? = some o) -> WR (Jbf (k + 4) [hv, .int len] h1) fun v h2 => v = .tup hs /\ Ex h1 h2) :
  WR (Jca (k + 5) [.ref h.length, .str name, .int gap, .int len, dv, .int late, hv] (h ++ [.ins "Work" []])) fun v h' => v = .non /\ ∃ g, h' = h ++ .ins "Work" (wfs name gap len due late hs) :: g := by
 refine WR.mono (Jt8 Ja2 hn hg hl ht hd fun h1 q => hh h1 fun j o e => q j o (by have := Jg7 e; omega) (grow e)) ?_
 rintro v h' ⟨rfl, g, rfl⟩
 exact ⟨rfl, g, by rw [Jl0]; simp⟩
end
end LW
namespace LW
open PySem L2 L3 L4
section
variable {k : Nat} {h : IH}
theorem Jof {name : Str} {gap len due late : Int} {hs : List IV} {w : Nat} (hw : h[w]? = some (.ins "Work" (wfs name gap len due late hs))) : Jet (k + 1) [.ref w] h = .ok (.ref h.length) (h ++ [.lst hs]) := by
 refine Jeh ?_
 rw [Jpi]
 simp! [Jep, J0 hw, fl5]
end
end LW
namespace LW
open PySem L2 L3 L4
section
variable {k : Nat} {h : IH}
noncomputable def nSz (c : Int) : Int := 1 + c % 8
noncomputable def nAt (c : Int) : Int := c / 8 % 840 % nSz c
noncomputable def nSg (c k j : Int) : Int := c / 6720 + j * (1 + c % 25) + k * (if j = nAt c then 1 else 0)
noncomputable def nL (c : Int) (k m : Nat) : List Nat := (List.range m).map fun j : Nat => 97 + (nSg c (k : Int) (j : Int) % 26).toNat
noncomputable def nm (c : Int) (k : Nat) : Str := ⟨(nL c k (nSz c).toNat).toArray⟩
theorem Jpv : (Str.ofString "abcdefghijklmnopqrstuvwxyz").cps.toList = (List.range 26).map (97 + ·) := by decide +kernel
theorem Jp9 : (Str.ofString "abcdefghijklmnopqrstuvwxyz").length = 26 := by decide +kernel
theorem Jtr {n : Int} (h0 : 0 <= n) (h1 : n < 26) {Q : IV -> IH -> Prop} : WR (opIx (.str "abcdefghijklmnopqrstuvwxyz") (.int n) h) Q = Q (.str ⟨#[97 + n.toNat]⟩) h := by
 have hb := Jf
 have e : atI (Str.ofString "abcdefghijklmnopqrstuvwxyz").cps.toList n = some (97 + n.toNat) := by
  rw [Jpv]
  refine Jtx h0 ?_
  rw [List.getElem?_map, List.getElem?_range (by omega)]
  rfl
 simp only [opIx]
 rw [if_pos (by rw [Jp9]; omega), e]
 rfl
theorem Jy1 (c : Int) (k m : Nat) : nL c k (m + 1) = nL c k m ++ [97 + (nSg c (k : Int) (m : Int) % 26).toNat] := by simp [nL, List.range_succ]
theorem Jt0 (c : Int) (k m : Nat) : (nL c k m).length = m := by simp [nL]
theorem Jvf (l : List Nat) (x : Nat) : (⟨l.toArray⟩ : Str) ++ (⟨#[x]⟩ : Str) = ⟨(l ++ [x]).toArray⟩ := by
 show Str.append _ _ = _
 unfold Str.append
 simp
theorem Jme (l : List Nat) : (⟨l.toArray⟩ : Str).length = l.length := by simp [Str.length]
theorem Jon : (Str.ofString "") = (⟨([] : List Nat).toArray⟩ : Str) := by decide +kernel
theorem Ji6 (c : Int) (k : Nat) : IsNm (nm c k) := by
 have hs : 0 < nSz c /\ nSz c <= 8 := by unfold nSz; omega
 refine ⟨?_, ?_, ?_⟩
 ·rw [nm, Jme, Jt0]; omega
 ·rw [nm, Jme, Jt0]; omega
 ·intro x hx
  have hx : x ∈ nL c k (nSz c).toNat := by simpa [nm] using hx
  obtain ⟨j, _, rfl⟩ := List.mem_map.mp hx
  have h1 := Int.emod_nonneg (nSg c (k : Int) (j : Int)) (b := 26) (by decide)
  have h2 := Int.emod_lt_of_pos (nSg c (k : Int) (j : Int)) (b := 26) (by decide)
  omega
theorem J0i {c : Int} {k l : Nat} (hk : k < 26) (hl : l < 26) (e : nm c k = nm c l) : k = l := by
 have hs : 0 < nSz c /\ nSz c <= 8 := by unfold nSz; omega
 have ha : 0 <= nAt c /\ nAt c < nSz c := ⟨Int.emod_nonneg _ (by omega), Int.emod_lt_of_pos _ hs.1⟩
 have e1 : nL c k (nSz c).toNat = nL c l (nSz c).toNat := by
  have : (nL c k (nSz c).toNat).toArray = (nL c l (nSz c).toNat).toArray := congrArg Str.cps e
  simpa using this
 have e2 := congrArg (fun L : List Nat => L[(nAt c).toNat]?) e1
 have hj : ((nAt c).toNat : Int) = nAt c := by omega
 simp only [nL, List.getElem?_map, List.getElem?_range (show (nAt c).toNat < (nSz c).toNat by omega), Option.map_some, Option.some.injEq, hj] at e2
 have e3 : nSg c (k : Int) (nAt c) % 26 = nSg c (l : Int) (nAt c) % 26 := by
  have h1 := Int.emod_nonneg (nSg c (k : Int) (nAt c)) (b := 26) (by decide)
  have h2 := Int.emod_nonneg (nSg c (l : Int) (nAt c)) (b := 26) (by decide)
  omega
 simp only [nSg, if_true, Int.mul_one] at e3
 omega
noncomputable abbrev nmS (c : Int) (m : Nat) (a b d e f : Option IV) : ISt := [some (.int c), some (.int m), some (.str "abcdefghijklmnopqrstuvwxyz"), some (.int (1 + c % 8)), some (.int (c / 8 % 840 % (1 + c % 8))), a, b, d, e, f]
theorem Jwl (c : Int) (m : Nat) (hm : m <= 20) : Jc1 (k + 1) [.int c, .int m] h = .ok (.ref h.length) (h ++ [.lst ((List.range m).map fun j => .str (nm c j))]) := by
 have hb := Jf
 refine Jeh ?_
 rw [Jm9]
 have hs : 0 < nSz c /\ nSz c <= 8 := by unfold nSz; omega
 have l8 : (8 : Int).natAbs.log2 < 9000 := by decide
 have l7 : (6720 : Int).natAbs.log2 < 9000 := by decide +kernel
 have ha : 0 <= nAt c /\ nAt c < nSz c := ⟨Int.emod_nonneg _ (by omega), Int.emod_lt_of_pos _ hs.1⟩
 simp! [Je7, Jh8, Jhp, Jiz, Ji2, show (0 : Int) < 8 by decide, show (0 : Int) < 840 by decide, l8, show (0 : Int) < 1 + c % 8 by omega, List.length_nil, Nat.zero_le]
 refine ⟨⟨by omega, by omega⟩, ?_⟩
 refine Jek (fun n σ h' => h' = h ++ [.lst ((List.range n).map fun j => .str (nm c j))] /\ ∃ a b d e, σ = nmS c m (some (.ref h.length)) a b d e)
  (fun _ _ _ _ => trivial) ?_ ?_ ⟨by simp, _, _, _, _, rfl⟩
 ·rintro n hn _ _ ⟨rfl, a, b, d, e, rfl⟩
  rw [Jkr]
  rw [Jb9] at hn
  simp! [Jgu]
  refine ⟨⟨by omega, by omega⟩, ?_⟩
  refine Jek (fun j σ h' => h' = h ++ [.lst ((List.range n).map fun j => .str (nm c j))] /\ ∃ d e, σ = nmS c m (some (.ref h.length)) (some (.int (0 + (n : Int)))) (some (.str ⟨(nL c n j).toArray⟩)) d e)
   (fun _ _ _ _ => trivial) ?_ ?_ ⟨rfl, _, _, by rw [Jon]; rfl⟩
  ·rintro j hj _ _ ⟨rfl, d, e, rfl⟩
   rw [Jkr]
   rw [Jb9] at hj
   have hj8 : (j : Int) < nSz c := by unfold nSz; omega
   have m1 : Jat (0 + (j : Int)) (1 + c % 25) := .inl (by omega)
   have m2 : ∀ x : Int, Jat (0 + (n : Int)) x := fun x => .inl (by omega)
   simp! [Jgy, show (0 : Int) < 6720 by decide, show (0 : Int) < 25 by decide, show (0 : Int) < 26 by decide, l7, m1, m2, intI]
   have hx : c / 6720 + (0 + (j : Int)) * (1 + c % 25) + (0 + (n : Int)) * (if decide (0 + (j : Int) = c / 8 % 840 % (1 + c % 8)) = true then 1 else 0) = nSg c (n : Int) (j : Int) := by
    by_cases q : (j : Int) = c / 8 % 840 % (1 + c % 8) <;> simp [nSg, nAt, nSz, q]
   rw [hx, Jtr (Int.emod_nonneg _ (by decide)) (Int.emod_lt_of_pos _ (by decide))]
   simp! [Jvf]
   refine ⟨?_, _, _, by rw [Jy1]⟩
   rw [Jme, Jme, Jt0]
   simp
   omega
  ·rintro _ _ ⟨rfl, d, e, rfl⟩
   rw [Jb9]
   rw [Jjf (i := h.length) (h1 := h ++ [.lst ((List.range n).map fun j => .str (nm c j))]) rfl Ja2 Jfk]
   simp! [Jfr]
   refine ⟨_, Ja2, ?_, ?_, _, _, _, _, rfl⟩
   ·simp; omega
   ·rw [List.range_succ, List.map_append, List.set_append_right _ _ (Nat.le_refl _), Nat.sub_self]
    simp [nm, nSz]
 ·rintro _ _ ⟨rfl, a, b, d, e, rfl⟩
  rw [Jb9]
  simp! [Jie]
  simp
end
end LW
namespace LW
open PySem L2 L3 L4
section
variable {k : Nat} {h : IH}
mutual
theorem Jqy : ∀ d : PyData, d.canLay0 = true -> PyData.eqv d d = true
 | .none, _ => by simp [PyData.eqv]
 | .bool _, _ => by simp [PyData.eqv]
 | .int _, _ => by simp [PyData.eqv]
 | .str _, _ => by simp [PyData.eqv]
 | .list xs, q => by
  rw [PyData.eqv]
  exact Jkd xs (by rw [PyData.canLay0] at q; exact q)
 | .tuple xs, q => by
  rw [PyData.eqv]
  exact Jkd xs (by rw [PyData.canLay0] at q; exact q)
 | .dict _, q => by rw [PyData.canLay0] at q; cases q
theorem Jkd : ∀ ds : List PyData, PyData.canLayAll0 ds = true -> PyData.eqvAll ds ds = true
 | [], _ => by rw [PyData.eqvAll]
 | d :: ds, q => by
  rw [PyData.canLayAll0, Bool.and_eq_true] at q
  rw [PyData.eqvAll, Jqy d q.1, Jkd ds q.2]
  rfl
end
theorem Jpq {i n : Nat} {xs : List IV} (e : h[i]? = some (.lst xs)) : toD h (n + 1) (.ref i) = (xs.mapM (toD h n)).map PyData.list := by
 show (match h[i]? with | some (.lst xs) => (xs.mapM (toD h n)).map PyData.list | _ => none) = _
 rw [e]
theorem Jqm {f : IV -> Option PyData} {g : IV -> PyData} : ∀ {xs : List IV}, (∀ x ∈ xs, f x = some (g x)) -> xs.mapM f = some (xs.map g)
 | [], _ => rfl
 | x :: xs, q => by
  rw [List.mapM_cons, q x (List.mem_cons_self ..), Jqm fun y hy => q y (List.mem_cons_of_mem _ hy)]
  rfl
theorem Jxh {g : IV -> PyData} : ∀ {xs : List IV}, (∀ x ∈ xs, (g x).canLay0 = true) -> PyData.canLayAll0 (xs.map g) = true
 | [], _ => by rw [List.map_nil, PyData.canLayAll0]
 | x :: xs, q => by
  rw [List.map_cons, PyData.canLayAll0, q x (List.mem_cons_self ..), Jxh fun y hy => q y (List.mem_cons_of_mem _ hy)]
  rfl
end
end LW
namespace LW
open PySem L2 L3 L4
structure WD where
 name : Str
 gap : Int
 len : Int
 due : Int
 late : Int
noncomputable def IsW (h : IH) (v : IV) (d : WD) : Prop := ∃ i hs, v = .ref i /\ h[i]? = some (.ins "Work" (wfs d.name d.gap d.len d.due d.late hs))
theorem IsW.kp {h h' : IH} {v : IV} {d : WD} (k : Kp h h') (w : IsW h v d) : IsW h' v d := by
 obtain ⟨i, hs, e, q⟩ := w
 exact ⟨i, hs, e, k _ _ q⟩
structure AllW (h : IH) (vs : List IV) (ds : List WD) : Prop where
 len : vs.length = ds.length
 at_ : ∀ (i : Nat) v d, vs[i]? = some v -> ds[i]? = some d -> IsW h v d
theorem AllW.kp {h h' : IH} {vs : List IV} {ds : List WD} (k : Kp h h') (w : AllW h vs ds) : AllW h' vs ds := ⟨w.len, fun i v d a b => (w.at_ i v d a b).kp k⟩
theorem AllW.of {h : IH} {vs : List IV} {ds : List WD} (w : AllW h vs ds) {v : IV} (hv : v ∈ vs) : ∃ d ∈ ds, IsW h v d := by
 obtain ⟨i, hi, rfl⟩ := List.mem_iff_getElem.mp hv
 have hi' : i < ds.length := by rw [<- w.len]; exact hi
 exact ⟨ds[i], List.getElem_mem hi', w.at_ i _ _ (List.getElem?_eq_getElem hi) (List.getElem?_eq_getElem hi')⟩
noncomputable def fOf (f : Str) (h : IH) (v : IV) : IV := (Jnu f v h).getD .non
theorem AllW.mapF {h : IH} {vs : List IV} {ds : List WD} (w : AllW h vs ds) {F : IV -> IV} {g : WD -> IV} (hf : ∀ (i : Nat) (d : WD) hs, h[i]? = some (.ins "Work" (wfs d.name d.gap d.len d.due d.late hs)) -> F (.ref i) = g d) : vs.map F = ds.map g := by
 refine List.ext_getElem? fun i => ?_
 rw [List.getElem?_map, List.getElem?_map]
 by_cases hi : i < vs.length
 ·have hi' : i < ds.length := by rw [<- w.len]; exact hi
  rw [List.getElem?_eq_getElem hi, List.getElem?_eq_getElem hi']
  obtain ⟨j, hs, e, q⟩ := w.at_ i _ _ (List.getElem?_eq_getElem hi) (List.getElem?_eq_getElem hi')
  simp only [Option.map_some, Option.some.injEq]
  rw [e, hf j _ hs q]
 ·have hi' : ¬ i < ds.length := by rw [<- w.len]; exact hi
  rw [List.getElem?_eq_none (by omega), List.getElem?_eq_none (by omega)]
  rfl
section
variable {k : Nat} {h : IH}
theorem Jrd : Jtf ["Work"] (.ins "Work") = some true := by kernel_rfl
theorem Jph {vs : List IV} {ds : List WD} {i : Nat} (hi : h[i]? = some (.lst vs)) (w : AllW h vs ds) (nd : (ds.map (·.name)).Nodup) (hl : ds.length <= 20) :
  WR (Jen (k + 1) [.ref i] h) fun v h' => v = .tup vs /\ Ex h h' := by
 have hb := Jf
 have wl := w.len
 rw [Jm7]
 simp! [Je3, Ji3, Jti hi]
 refine WR.mono (Jcc (h := h) (xs := vs) (chk := fun h' => h'[i]? = some (.lst vs)) (f := fun _ => .bl true) ?_ (by omega) (fun h2 q => q _ _ hi) ?_) ?_
 ·simp! [Jir, hi]
 ·intro v hv h2 q
  obtain ⟨d, _, j, hs, rfl, e⟩ := w.of hv
  have ty : tyI (.ref j) h2 = some (.ins "Work") := by simp [tyI, q _ _ e]
  simp! [Jfy, ty, Jrd]
  exact .refl _
 ·rintro _ _ ⟨rfl, g, rfl⟩
  have x1 : Ex h (h ++ L3.IO.lst (vs.map fun _ => .bl true) :: g) := .cons _ _ _
  rw [all_map (f := fun _ => true) Jdz]
  generalize h ++ L3.IO.lst (vs.map fun _ => .bl true) :: g = h1 at x1
  have at1 : (vs.all fun _ => true) = true := by simp
  simp! [at1, Ji0, Jt3]
  have w1 := w.kp x1.kp
  have nm := w1.mapF (F := fOf "name" h1) (g := fun d => .str d.name) fun j d hs e => by rw [fOf, J0 e, fl0]; rfl
  refine WR.mono (Jcc (h := h1) (xs := vs) (chk := fun h' => h'[i]? = some (.lst vs)) (f := fOf "name" h1) ?_ (by omega) (fun h2 q => q _ _ (x1.get hi)) ?_) ?_
  ·simp! [Jir, x1.get hi]
  ·intro v hv h2 q
   obtain ⟨d, _, j, hs, rfl, e⟩ := w1.of hv
   simp! [Jf8, J0 (q _ _ e), fl0, fOf, J0 e, Option.getD_some]
   exact .refl _
  ·rintro _ _ ⟨rfl, g2, rfl⟩
   rw [nm]
   have em : ds.map (fun d => IV.str d.name) = (ds.map (·.name)).map IV.str := by simp
   rw [em]
   have x2 : Ex h1 (h1 ++ L3.IO.lst ((ds.map (·.name)).map IV.str) :: g2) := .cons _ _ _
   refine ⟨_, rfl, _, Jdz, ds.map (·.name), Jqw _, by rw [List.length_map]; unfold scanBound; omega, ?_⟩
   rw [Jnm nd _ (Nat.le_refl _)]
   simp! [Jja, x2.get (x1.get hi), List.length_map, wl, decide_true, Ji5, Jum]
   exact x1.trans x2
noncomputable def rup (top bottom : Int) : Int := (top + bottom - 1) / bottom
noncomputable def topD (ds : List WD) : Int := if ds.map (·.due) = [] then 0 else Jgk (fun i => (ds.map (·.due)).getD i 0) (ds.map (·.due)).length
noncomputable def Jll (ds : List WD) : Int := (ds.map fun d => rup (topD ds + d.late) d.gap).sum
noncomputable def rOf (T : Int) (h : IH) (v : IV) : IV := match Jnu "late" v h, Jnu "gap" v h with
 | some (.int l), some (.int g) => .int (rup (T + l) g)
 | _, _ => .non
theorem Js3 {a b : Int} (hb : 0 < b) (hl : b.natAbs.log2 < 9000) : Jeq (k + 1) [.int a, .int b] h = .ok (.int (rup a b)) h := by
 refine Jeh ?_
 rw [Joe]
 simp! [Jeo, hb, hl, rup]
theorem Jrh {vs : List IV} {ds : List WD} (w : AllW h vs ds) (hl : ds.length <= 20) (hg : ∀ d ∈ ds, 0 < d.gap /\ d.gap.natAbs.log2 < 9000) :
  WR (Jd9 (k + 2) [.tup vs] h) fun v h' => v = .int (Jll ds) /\ Ex h h' := by
 have hb := Jf
 have wl := w.len
 rw [Jqf]
 simp! [Jf0, Jt5]
 have dm := w.mapF (F := fOf "due" h) (g := fun d => .int d.due) fun j d hs e => by rw [fOf, J0 e, fl3]; rfl
 refine WR.mono (Jcc (h := h) (xs := vs) (chk := fun _ => True) (f := fOf "due" h) ?_ (by omega) (fun _ _ => trivial) ?_) ?_
 ·simp! [true_and]
 ·intro v hv h2 q
  obtain ⟨d, _, j, hs, rfl, e⟩ := w.of hv
  simp! [Jgs, J0 (q _ _ e), fl3, fOf, J0 e, Option.getD_some]
  exact .refl _
 ·rintro _ _ ⟨rfl, g, rfl⟩
  rw [dm]
  have em : ds.map (fun d => IV.int d.due) = (ds.map (·.due)).map IV.int := by simp
  rw [em]
  have x1 : Ex h (h ++ L3.IO.lst ((ds.map (·.due)).map IV.int) :: g) := .cons _ _ _
  refine ⟨_, rfl, _, Jdz, _, Jhl _, ?_⟩
  have et : maxD (ds.map (·.due)) (.int 0) = .int (topD ds) := by
   unfold maxD topD
   split <;> rfl
  rw [et]
  generalize h ++ L3.IO.lst ((ds.map (·.due)).map IV.int) :: g = h1 at x1
  have w1 := w.kp x1.kp
  simp! [Jjm]
  have rm := w1.mapF (F := rOf (topD ds) h1) (g := fun d => .int (rup (topD ds + d.late) d.gap)) fun j d hs e => by rw [rOf, J0 e, J0 e, fl4, fl1]
  refine WR.mono (Jcc (h := h1) (xs := vs) (chk := fun _ => True) (f := rOf (topD ds) h1) ?_ (by omega) (fun _ _ => trivial) ?_) ?_
  ·simp! [true_and]
  ·intro v hv h2 q
   obtain ⟨d, hd, j, hs, rfl, e⟩ := w1.of hv
   have e2 := q _ _ e
   simp only [List.map_cons, List.map_nil, List.getElem?_cons_succ, List.getElem?_cons_zero, Option.join_some]
   simp! [Jgt, J0 e2, fl4, fl1, Js3 (hg d hd).1 (hg d hd).2]
   exact ⟨by rw [rOf, J0 e, J0 e, fl4, fl1], .refl _⟩
  ·rintro _ _ ⟨rfl, g2, rfl⟩
   rw [rm]
   have em2 : ds.map (fun d => IV.int (rup (topD ds + d.late) d.gap)) = (ds.map fun d => rup (topD ds + d.late) d.gap).map IV.int := by simp
   rw [em2]
   simp! [Jub, Jdz, Jhl]
   exact ⟨rfl, x1.trans (.cons _ _ _)⟩
noncomputable abbrev dfs (vs : List IV) : List (Str × IV) := [("works", .tup vs)]
theorem dp0 {a : IV} : putI "works" a ([] : List (Str × IV)) = ([("works", a)] : List (Str × IV)) := by kernel_rfl
theorem dl0 {a : IV} : (([("works", a)] : List (Str × IV))).lookup ("works" : Str) = some a := by kernel_rfl
theorem dlw {a : IV} : (([("works", a)] : List (Str × IV))).lookup ("work" : Str) = none := by kernel_rfl
theorem Jn8 {vs : List IV} {D : Nat} {n : Int} {x : IV} (hD : h[D]? = some (.ins "Duty" (dfs vs))) (hx : atI vs n = some x) : Jez (k + 1) [.ref D, .int n] h = .ok x h := by
 refine Jeh ?_
 rw [Joh]
 simp! [Je1, J0 hD, dl0, hx]
end
end LW
namespace LW
open PySem L2 L3 L4
theorem Jqx {a b K : Nat} (h : a <= b) (hb : b.log2 < K) : a.log2 < K := by
 by_cases ha : a = 0
 ·subst ha
  exact Nat.lt_of_le_of_lt (Nat.zero_le _) hb
 ·have hb0 : b ≠ 0 := by omega
  rw [Nat.log2_lt ha]
  exact Nat.lt_of_le_of_lt h ((Nat.log2_lt hb0).mp hb)
noncomputable abbrev RH := WD × List Hd
noncomputable def rd : RH := ⟨⟨⟨#[]⟩, 0, 0, 0, 0⟩, []⟩
noncomputable abbrev wo (r : RH) : IO := .ins "Work" (wfs r.1.name r.1.gap r.1.len r.1.due r.1.late (r.2.map tupH))
structure AllH (h : IH) (vs : List IV) (rs : List RH) : Prop where
 len : vs.length = rs.length
 at_ : ∀ (i : Nat) v r, vs[i]? = some v -> rs[i]? = some r -> ∃ j, v = .ref j /\ h[j]? = some (wo r)
theorem AllH.kp {h h' : IH} {vs : List IV} {rs : List RH} (k : Kp h h') (w : AllH h vs rs) : AllH h' vs rs := ⟨w.len, fun i v r a b => let ⟨j, e, g⟩ := w.at_ i v r a b; ⟨j, e, k _ _ g⟩⟩
theorem AllH.w {h : IH} {vs : List IV} {rs : List RH} (w : AllH h vs rs) : AllW h vs (rs.map (·.1)) := by
 refine ⟨by rw [List.length_map]; exact w.len, fun i v d a b => ?_⟩
 rw [List.getElem?_map] at b
 cases er : rs[i]? with
 | none => rw [er] at b; cases b
 | some r =>
  rw [er] at b
  cases b
  obtain ⟨j, e, g⟩ := w.at_ i v r a er
  exact ⟨j, _, e, g⟩
theorem AllH.get {h : IH} {vs : List IV} {rs : List RH} (w : AllH h vs rs) {n : Nat} {r : RH} (e : rs[n]? = some r) : ∃ j, vs[n]? = some (.ref j) /\ h[j]? = some (wo r) := by
 have hn : n < vs.length := by rw [w.len]; exact (List.getElem?_eq_some_iff.mp e).1
 obtain ⟨j, e1, g⟩ := w.at_ n _ r (List.getElem?_eq_getElem hn) e
 exact ⟨j, by rw [List.getElem?_eq_getElem hn, e1], g⟩
structure F8 (unit : Int) (r : RH) : Prop where
 nm : IsNm r.1.name
 g1 : unit <= r.1.gap
 g2 : r.1.gap < 9 * unit
 l1 : 1 <= r.1.len
 d1 : 1 <= r.1.due
 d2 : r.1.due <= r.1.gap
 t1 : 0 <= r.1.late
 t2 : r.1.late < 2 * r.1.gap
 ok : HsOk r.1.len r.2
structure Gd (unit : Int) (rs : List RH) : Prop where
 u1 : 1 <= unit
 u2 : unit <= 10 ^ 40
 few : rs.length <= 7
 f : ∀ r ∈ rs, F8 unit r
 nd : (rs.map fun r => r.1.name).Nodup
theorem Gd.gl {unit : Int} {rs : List RH} (G : Gd unit rs) : ∀ d ∈ rs.map (·.1), 0 < d.gap /\ d.gap.natAbs.log2 < 9000 := fun d hd => by
 obtain ⟨r, hr, rfl⟩ := List.mem_map.mp hd
 have f := G.f r hr
 have f1 := f.g1
 have f2 := f.g2
 have u1 := G.u1
 have u2 := G.u2
 refine ⟨by omega, Jqx (b := 9 * 10 ^ 40) ?_ (by decide +kernel)⟩
 have e : ((10 ^ 40 : Nat) : Int) = 10 ^ 40 := by decide +kernel
 clear G f
 generalize (10 ^ 40 : Int) = y at *
 generalize (10 ^ 40 : Nat) = z at *
 omega
noncomputable def IsDu (h : IH) (D : Nat) (rs : List RH) : Prop := ∃ vs, h[D]? = some (.ins "Duty" (dfs vs)) /\ AllH h vs rs
theorem IsDu.kp {h h' : IH} {D : Nat} {rs : List RH} (k : Kp h h') (w : IsDu h D rs) : IsDu h' D rs := let ⟨vs, a, b⟩ := w; ⟨vs, k _ _ a, b.kp k⟩
section
variable {k : Nat} {h : IH}
end
end LW
namespace LW
open PySem L2 L3 L4
section
variable {k : Nat} {h : IH}
theorem Jom (c : Int) (m : Nat) (hm : m <= 80) : WR (Jch (k + 1) [.int c, .int m] h) fun v h' => ∃ (i : Nat) (xs : List Int), v = .ref i /\ h.length <= i /\ h'[i]? = some (.lst (xs.map .int)) /\ xs.length = m /\ (∀ x ∈ xs, (0 : Int) <= x /\ x < 2147483647) /\ Ex h h' := by
 have hb := Jf
 have t30 : Int.toNat 30 = 30 := rfl
 have lg : (Int.natAbs 2147483647).log2 < 9000 := by decide +kernel
 have q0 : (0 : Int) < 2147483647 := by decide
 rw [Jma]
 simp! [Jd7, Jgn, List.length_nil, Nat.zero_le, t30, decide_eq_true_eq, decide_eq_false_iff_not]
 refine ⟨by decide, fun _ => ⟨by decide, ⟨by omega, by omega⟩, ?_⟩, fun _ => ?_⟩
 ·refine Jek (fun n σ h' => ∃ xs rest a b, h' = h ++ [.lst (xs.map IV.int)] /\ σ = [some (.int c), some (.int (m : Int)), some (.ref h.length), some (.int rest), a, b] /\ xs.length = n /\ ∀ x ∈ xs, (0 : Int) <= x /\ x < 2147483647)
   (fun _ _ _ _ => trivial) ?_ ?_ ⟨[], _, _, _, rfl, rfl, rfl, by simp⟩
  ·rintro n hn _ _ ⟨xs, rest, a, b, rfl, rfl, lx, hx⟩
   rw [Jkr]
   rw [Jb9] at hn
   simp! [Jfp]
   rw [Jjf (i := h.length) (h1 := h ++ [L3.IO.lst (xs.map IV.int)]) rfl Ja2 Jfk]
   simp! [Jfr, Ja2, q0, lg, Jl0, List.length_map]
   have e1 := Int.emod_nonneg rest (b := 2147483647) (by decide)
   have e2 := Int.emod_lt_of_pos rest q0
   refine ⟨by omega, xs ++ [rest % 2147483647], _, _, _, by simp, rfl, by simp [lx], ?_⟩
   intro x hxx
   rw [List.mem_append, List.mem_singleton] at hxx
   rcases hxx with hxx | rfl
   ·exact hx x hxx
   ·exact ⟨e1, e2⟩
  ·rintro _ _ ⟨xs, rest, a, b, rfl, rfl, lx, hx⟩
   rw [Jb9] at lx
   simp! [true_and]
   exact ⟨_, xs, rfl, Nat.le_refl _, Ja2, by omega, hx, .one _ _⟩
 ·simp! [Jgv, Jgp, q0]
  refine ⟨⟨by omega, by omega⟩, ?_⟩
  have s0 := Int.emod_nonneg c (b := 2147483647) (by decide)
  have s1 := Int.emod_lt_of_pos c q0
  refine Jek (fun n σ h' => ∃ xs num a b, h' = h ++ [.lst (xs.map IV.int)] /\ σ = [some (.int c), some (.int (m : Int)), some (.ref h.length), a, b, some (.int num)] /\ (0 <= num /\ num < 4000000000) /\ xs.length = n /\ ∀ x ∈ xs, (0 : Int) <= x /\ x < 2147483647)
   (fun _ _ _ _ => trivial) ?_ ?_ ⟨[], _, _, _, rfl, rfl, by omega, rfl, by simp⟩
  ·rintro n hn _ _ ⟨xs, num, a, b, rfl, rfl, hnum, lx, hx⟩
   rw [Jkr]
   rw [Jb9] at hn
   have m1 : Jat num num := .inl (by omega)
   have m2 : Jat 48271 num := .inl (by decide)
   simp! [Jfd, q0, m1, m2]
   have e1 := Int.emod_nonneg (num * num + 48271 * num + (0 + (n : Int))) (b := 2147483647) (by decide)
   have e2 := Int.emod_lt_of_pos (num * num + 48271 * num + (0 + (n : Int))) q0
   generalize (num * num + 48271 * num + (0 + (n : Int))) % 2147483647 = y at e1 e2
   rw [Jjf (i := h.length) (h1 := h ++ [L3.IO.lst (xs.map IV.int)]) rfl Ja2 Jfk]
   simp! [Jfr, Ja2, Jl0, List.length_map]
   refine ⟨by omega, xs ++ [y], y, _, _, by simp, rfl, by omega, by simp [lx], ?_⟩
   intro x hxx
   rw [List.mem_append, List.mem_singleton] at hxx
   rcases hxx with hxx | rfl
   ·exact hx x hxx
   ·exact ⟨e1, e2⟩
  ·rintro _ _ ⟨xs, num, a, b, rfl, rfl, hnum, lx, hx⟩
   rw [Jb9] at lx
   simp! [Jgm, Jop, Ja2]
   rw [show (some (2 : Int)) = some ((2 : Nat) : Int) from rfl, Jl6, <- List.map_drop]
   refine ⟨_, xs.drop 2, rfl, by simp, Ja2, by simp; omega, fun x hxx => hx x (List.mem_of_mem_drop hxx), (Ex.one _ _).trans (.one _ _)⟩
theorem Jvw (c : Int) (j : Nat) (hj : j < 12) : WR (Jes (k + 2) [.int c, .int j, .int 6] h) fun v h' => ∃ (i : Nat) (xs : List Int), v = .ref i /\ h.length <= i /\ h'[i]? = some (.lst (xs.map .int)) /\ xs.length = 6 /\ (∀ x ∈ xs, (0 : Int) <= x /\ x < 2147483647) /\ Ex h h' := by
 have t30 : Int.toNat 30 = 30 := rfl
 have m1 : Jat 6 ((j : Int) + 1) := .inl (by decide)
 have m2 : Jat 6 (j : Int) := .inl (by decide)
 have m3 : Jat 7919 (j : Int) := .inl (by decide)
 rw [Jn7]
 simp! [Jeu, Jiv, t30, m1, m2, m3, decide_eq_true_eq, decide_eq_false_iff_not]
 refine ⟨by decide, fun _ => ?_, fun _ => Jom (k := k) _ 6 (by decide)⟩
 have e : (6 : Int) * ((j : Int) + 1) = ((6 * (j + 1) : Nat) : Int) := by omega
 have e2 : (6 : Int) * (j : Int) = ((6 * j : Nat) : Int) := by omega
 rw [e, e2]
 refine WR.mono (Jom (k := k) c (6 * (j + 1)) (by omega)) ?_
 rintro _ h1 ⟨i, xs, rfl, li, gi, lx, hx, x1⟩
 simp! [Jop, gi]
 rw [Jl6, <- List.map_drop]
 have := x1.len
 exact ⟨_, xs.drop (6 * j), rfl, by omega, Ja2, by simp; omega, fun x hxx => hx x (List.mem_of_mem_drop hxx), x1.trans (.one _ _)⟩
end
end LW
namespace LW
open PySem L2 L3 L4
noncomputable abbrev pl (r : RH) (q : Nat) : List IV := [.str r.1.name, .int r.1.gap, .int r.1.len, .int r.1.due, .int r.1.late, .ref q]
structure RowP (h : IH) (ys : List IV) (rs : List RH) : Prop where
 len : ys.length = rs.length
 at_ : ∀ (i : Nat) y r, ys[i]? = some y -> rs[i]? = some r -> ∃ p q, y = .ref p /\ h[p]? = some (.lst (pl r q)) /\ h[q]? = some (.lst (r.2.map tupH))
theorem RowP.kp {h h' : IH} {ys : List IV} {rs : List RH} (k : Kp h h') (w : RowP h ys rs) : RowP h' ys rs := ⟨w.len, fun i y r a b => let ⟨p, q, e, g1, g2⟩ := w.at_ i y r a b; ⟨p, q, e, k _ _ g1, k _ _ g2⟩⟩
theorem RowP.get {h : IH} {ys : List IV} {rs : List RH} (w : RowP h ys rs) {n : Nat} {r : RH} (e : rs[n]? = some r) : ∃ p q, ys[n]? = some (.ref p) /\ h[p]? = some (.lst (pl r q)) /\ h[q]? = some (.lst (r.2.map tupH)) := by
 have hn : n < ys.length := by rw [w.len]; exact (List.getElem?_eq_some_iff.mp e).1
 obtain ⟨p, q, e1, g⟩ := w.at_ n _ r (List.getElem?_eq_getElem hn) e
 exact ⟨p, q, by rw [List.getElem?_eq_getElem hn, e1], g⟩
section
variable {k : Nat} {h : IH}
theorem Jwp {α : Type} {x y z u v w : α} {xs : List α} : atI (x :: y :: z :: u :: v :: w :: xs) 5 = some w := Jc6 (n := 5) rfl
theorem Jf6 (i : Int) : J1 (k + 1) [.int i, .int i] h = .ok (.bl true) h := by
 refine Jeh ?_
 rw [Jl1]
 simp! [Jd2, decide_true]
noncomputable def gH : IV -> PyData
 | .tup [.str x, .int a, .int b] => .tuple [.str x, .int a, .int b]
 | _ => .none
theorem d_hs {i : Nat} {hs : List Hd} (e : h[i]? = some (.lst (hs.map tupH))) : toD h 6 (.ref i) = some (.list ((hs.map tupH).map gH)) := by
 rw [Jpq e, Jqm (g := gH) fun x hx => ?_]
 ·rfl
 ·obtain ⟨a, _, rfl⟩ := List.mem_map.mp hx
  rfl
theorem eq_hs {i j : Nat} {hs : List Hd} (hi : h[i]? = some (.lst (hs.map tupH))) (hj : h[j]? = some (.lst (hs.map tupH))) (q : ∀ a ∈ hs, IsNm a.1) : cEq (.ref i) (.ref j) h = .ok (.bl true) h := by
 have lay : PyData.canLay0 (.list ((hs.map tupH).map gH)) = true := by
  rw [PyData.canLay0]
  refine Jxh fun x hx => ?_
  obtain ⟨a, ha, rfl⟩ := List.mem_map.mp hx
  have := q a ha
  simp [tupH, gH, PyData.canLay0, PyData.canLayAll0]
  unfold PyData.strOk
  rw [<- Array.all_toList, List.all_eq_true]
  intro c hc
  have := this.2.2 c hc
  simp only [decide_eq_true_eq]
  omega
 have e3 : Job (.ref i) (.ref j) h = some true := by
  unfold Job
  rw [d_hs hi, d_hs hj]
  dsimp only
  rw [if_pos ⟨lay, lay⟩, Jqy _ lay]
 unfold cEq
 have e4 : Jlq (.ref i) (.ref j) = none := rfl
 rw [e4]
 dsimp only
 rw [e3]
theorem Jx6 {w p q : Nat} {r : RH} (hw : h[w]? = some (wo r)) (hp : h[p]? = some (.lst (pl r q))) (hq : h[q]? = some (.lst (r.2.map tupH))) (hn : ∀ a ∈ r.2, IsNm a.1) :
  WR (Jgd (k + 2) [.ref w, .ref p] h) fun v h' => v = .bl true /\ Ex h h' := by
 have ty : tyI (.ref w) h = some (.ins "Work") := by simp [tyI, hw]
 rw [Jp1]
 simp! [Jga, ty, Jrd, J0 hw, fl0, Jbl, hp, decide_true]
 simp! [Jjh, J0 hw, fl1, fl2, Jbl, hp, Jf6]
 simp! [Jjk, J0 hw, fl3, fl4, Jbl, hp, Jf6]
 rw [Jg2 (i := w) (h1 := h) rfl hw flh (Jjj _)]
 simp! [Jof hw, Jbl, grow hp, Jwp, eq_hs Ja2 (grow hq) hn]
 exact .one _ _
theorem Jt9 {vs : List IV} {D : Nat} (hD : h[D]? = some (.ins "Duty" (dfs vs))) : Jer (k + 1) [.ref D] h = .ok (.int vs.length) h := by
 refine Jeh ?_
 rw [Jo3]
 simp! [Je5, J0 hD, dl0]
theorem Jn3 {D n : Nat} {rs : List RH} {r : RH} (hD : IsDu h D rs) (nd : (rs.map fun r => r.1.name).Nodup) (e : rs[n]? = some r) : Jau (k + 1) [.ref D, .str r.1.name] h = .ok (.int n) h := by
 obtain ⟨vs, gD, w⟩ := hD
 have wl := w.len
 have hn := (List.getElem?_eq_some_iff.mp e).1
 refine Jeh ?_
 rw [Jeb]
 simp! [Jay, J0 gD, dl0, Jq0]
 refine Jek (fun m σ h' => h' = h /\ m <= n /\ ∃ a b, σ = [some (.ref D), some (.str r.1.name), a, b]) (fun _ _ _ _ => trivial) ?_ ?_ ⟨rfl, Nat.zero_le _, _, _, rfl⟩
 ·rintro m hm _ _ ⟨rfl, hmn, a, b, rfl⟩
  have hm' : m < vs.length := by rw [Jbm] at hm; exact hm
  rw [Jpw]
  have hmr : m < rs.length := by omega
  obtain ⟨j, ej, gj⟩ := w.at_ m _ _ (List.getElem?_eq_getElem hm') (List.getElem?_eq_getElem hmr)
  rw [ej]
  simp only [Jtk, Jy9, Jyt, List.length_cons, List.length_nil, Jco, Jdu, Jb4, Jdp, Jib, Jb0, Jbx, Jb3, Jdj, Jdy, Jb2, Jdc, Jd0, Jc2, Jd, Jd5, Jqg, Jg6, Jhc, Jd1, Jhy, Jdh, Jil, Jis, Jbp, Jdo, Jbq, Jbz, Jar, Jb6, Jax, Jdn, Jc9, Jbw, Jby, Jhr, Jdm, Jdx, Jav, Jaz, Ji4, Jde, Jdw, Jdf, Jdd, Jds, Jb5, Jdq, Jdr, Jbr, Jh1, Jiu, Jiy, Jii, Jho, Jhe, Jc5, Jdk, Jdg, Jbv, Jdi, Jcv, Jhh, Jb1, Jc4, Jbn, Jbo, Jdt, Jda, Jdv, Jc7, Ja0, List.set_cons_succ, List.set_cons_zero, List.append_nil, List.cons_append, List.nil_append, exists_eq_left, exists_eq_left', IV.bl.injEq, IV.int.injEq, IV.ref.injEq, IV.str.injEq, IO.lst.injEq, IV.tup.injEq, Option.some.injEq, Bool.not_true, Bool.not_false, reduceCtorEq, eq_self, true_implies, false_implies, implies_true, and_true, true_and, and_false, false_and, Option.bind_some, Bool.true_eq_false, Bool.false_eq_true, Jcn, Jba, Jck, Jgj, Jcq, Jcm, Jbk, Jaj, Jaw, Jan, Jbu, Jcg, Jcl, Jfe, Jfo, Jgl, Jgh, Jgi, Ja8, Jbb, Jbc, Jbh, J0 gj, fl0, decide_eq_true_eq, decide_eq_false_iff_not]
  refine ⟨fun q => ?_, fun q => ⟨?_, _, _, rfl⟩⟩
  ·have : m = n := by
    refine (List.getElem_inj (xs := rs.map fun r => r.1.name) (h₀ := by simpa using hmr) (h₁ := by simpa using hn) nd).mp ?_
    rw [List.getElem_map, List.getElem_map, q]
    rw [List.getElem?_eq_getElem hn] at e
    cases e
    rfl
   rw [this]
  ·have : m ≠ n := fun z => by
    subst z
    rw [List.getElem?_eq_getElem hn] at e
    cases e
    exact q rfl
   omega
 ·rintro _ _ ⟨rfl, hmn, a, b, rfl⟩
  rw [Jbm] at hmn
  omega
end
end LW
namespace LW
open PySem L2 L3 L4
structure G4 (unit : Int) (rs : List RH) : Prop where
 u1 : 1 <= unit
 u2 : unit <= 10 ^ 40
 few : rs.length <= 12
 f : ∀ r ∈ rs, F8 unit r
 nd : (rs.map fun r => r.1.name).Nodup
theorem G4.gl {unit : Int} {rs : List RH} (G : G4 unit rs) : ∀ d ∈ rs.map (·.1), 0 < d.gap /\ d.gap.natAbs.log2 < 9000 := fun d hd => by
 obtain ⟨r, hr, rfl⟩ := List.mem_map.mp hd
 have f := G.f r hr
 have f1 := f.g1
 have f2 := f.g2
 have u1 := G.u1
 have u2 := G.u2
 refine ⟨by omega, Jqx (b := 9 * 10 ^ 40) ?_ (by decide +kernel)⟩
 have e : ((10 ^ 40 : Nat) : Int) = 10 ^ 40 := by decide +kernel
 clear G f
 generalize (10 ^ 40 : Int) = y at *
 generalize (10 ^ 40 : Nat) = z at *
 omega
section
variable {k : Nat} {h : IH}
theorem Ju6 {vs : List IV} {ds : List WD} {i : Nat} (hi : h[i]? = some (.lst vs)) (w : AllW h vs ds) (nd : (ds.map (·.name)).Nodup) (hl : ds.length <= 12) (hg : ∀ d ∈ ds, 0 < d.gap /\ d.gap.natAbs.log2 < 9000) :
  WE (Jev (k + 3) [.ref h.length, .ref i] (h ++ [.ins "Duty" []])) (fun v h' => v = .non /\ Jll ds <= 80 /\ ∃ g, h' = h ++ .ins "Duty" (dfs vs) :: g) (fun n h' => 80 < Jll ds /\ h'[n]? = some (.exc "TooMany" []) /\ Ex h h') := by
 have wl := w.len
 rw [Jpl]
 refine Jw4 ?_
 rw [Je6, Jp0]
 refine WSE.of ?_
 simp! [Jpx]
 refine WR.mono (Jph (grow hi) (w.kp (Ex.one h _).kp) nd (by omega)) ?_
 rintro _ _ ⟨rfl, g1, rfl⟩
 refine ⟨_, _, _, rfl, grow Ja2, by decide, ?_⟩
 rw [dp0, List.append_assoc, List.cons_append, List.nil_append, Jy0]
 rw [Jh0, Jp0, Jw7]
 refine WE.of ?_
 simp! [J0 (Jdz (h := h)), dl0, wl]
 refine ⟨fun q => ?_, fun _ => ?_⟩
 ·rw [decide_eq_true_eq] at q
  omega
 rw [Jtw, Jio, Jw7]
 refine WE.of ?_
 simp! [J0 (Jdz (h := h)), dl0]
 refine WR.mono (Jrh (w.kp (Ex.cons h _ _).kp) (by omega) hg) ?_
 rintro _ _ ⟨rfl, g2, rfl⟩
 simp! [true_and]
 refine ⟨fun q => ?_, fun q => ?_⟩
 ·rw [decide_eq_true_eq] at q
  rw [Jox, Jjv, we_c, Jmo]
  refine ⟨by have := Jf; simp; omega, ⟨_, _, Ja2⟩, q, Ja2, ?_⟩
  rw [List.append_assoc, List.append_assoc]
  exact ⟨_, rfl⟩
 ·rw [decide_eq_false_iff_not] at q
  rw [Jtw]
  exact ⟨by omega, g1 ++ g2, by simp⟩
theorem Jo6 {D : Nat} {rs : List RH} {v : IV} (hD : IsDu h D rs) (hv : (∃ x, v = .str x /\ ∀ r ∈ rs, r.1.name ≠ x) ∨ (tyI v h).bind Jaw = some false) :
  WE (Jau (k + 1) [.ref D, v] h) (fun _ _ => False) (fun n h' => h'[n]? = some (.exc "NoName" []) /\ Ex h h') := by
 obtain ⟨vs, gD, w⟩ := hD
 have wl := w.len
 have hb := Jf
 rw [Jeb]
 refine Jw4 ?_
 rw [Jay, Jp0]
 refine WSE.of ?_
 have fin : ∀ σ : ISt, WSE (Jbt k σ h) (fun _ _ => False) (fun _ _ => False) fun n _ h' => (∃ c fs, h'[n]? = some (.exc c fs)) /\ h'[n]? = some (.exc "NoName" []) /\ Ex h h' := fun σ => by
  rw [Jbt, Jox, Jjv, we_c, Jmo]
  exact ⟨by simp; omega, ⟨_, _, Ja2⟩, Ja2, .one _ _⟩
 rcases hv with ⟨x, rfl, hx⟩ | hv
 ·simp! [J0 gD, dl0, Jq0]
  refine Jek (fun m σ h' => h' = h /\ ∃ a b, σ = [some (.ref D), some (.str x), a, b]) (fun _ _ _ _ => trivial) ?_ ?_ ⟨rfl, _, _, rfl⟩
  ·rintro m hm _ _ ⟨rfl, a, b, rfl⟩
   have hm' : m < vs.length := by rw [Jbm] at hm; exact hm
   rw [Jpw]
   have hmr : m < rs.length := by omega
   obtain ⟨j, ej, gj⟩ := w.at_ m _ _ (List.getElem?_eq_getElem hm') (List.getElem?_eq_getElem hmr)
   rw [ej]
   have ne := hx _ (List.getElem_mem hmr)
   simp only [Jtk, Jy9, Jyt, List.length_cons, List.length_nil, Jco, Jdu, Jb4, Jdp, Jib, Jb0, Jbx, Jb3, Jdj, Jdy, Jb2, Jdc, Jd0, Jc2, Jd, Jd5, Jqg, Jg6, Jhc, Jd1, Jhy, Jdh, Jil, Jis, Jbp, Jdo, Jbq, Jbz, Jar, Jb6, Jax, Jdn, Jc9, Jbw, Jby, Jhr, Jdm, Jdx, Jav, Jaz, Ji4, Jde, Jdw, Jdf, Jdd, Jds, Jb5, Jdq, Jdr, Jbr, Jh1, Jiu, Jiy, Jii, Jho, Jhe, Jc5, Jdk, Jdg, Jbv, Jdi, Jcv, Jhh, Jb1, Jc4, Jbn, Jbo, Jdt, Jda, Jdv, Jc7, Ja0, List.set_cons_succ, List.set_cons_zero, List.append_nil, List.cons_append, List.nil_append, exists_eq_left, exists_eq_left', IV.bl.injEq, IV.int.injEq, IV.ref.injEq, IV.str.injEq, IO.lst.injEq, IV.tup.injEq, Option.some.injEq, Bool.not_true, Bool.not_false, reduceCtorEq, eq_self, true_implies, false_implies, implies_true, and_true, true_and, and_false, false_and, Option.bind_some, Bool.true_eq_false, Bool.false_eq_true, Jcn, Jba, Jck, Jgj, Jcq, Jcm, Jbk, Jaj, Jaw, Jan, Jbu, Jcg, Jcl, Jfe, Jfo, Jgl, Jgh, Jgi, Ja8, Jbb, Jbc, Jbh, J0 gj, fl0, decide_eq_false ne]
   exact ⟨_, _, rfl⟩
  ·rintro _ _ ⟨rfl, a, b, rfl⟩
   exact fin _
 ·simp! [hv]
  exact fin _
theorem xDN : Jc3 "NoName" = some true := by kernel_rfl
theorem xDT : Jc3 "TooMany" = some true := by kernel_rfl
theorem xNN : Jhx "NoName" = some true := by kernel_rfl
theorem xNT : Jhx "TooMany" = some false := by kernel_rfl
theorem xTN : Jgc "NoName" = some false := by kernel_rfl
theorem xTT : Jgc "TooMany" = some true := by kernel_rfl
theorem Jrr {D : Nat} {rs : List RH} {v : IV} (hD : IsDu h D rs) (hv : (∃ x, v = .str x /\ ∀ r ∈ rs, r.1.name ≠ x) ∨ (tyI v h).bind Jaw = some false) :
  WR (Jbs (k + 2) [.ref D, v] h) fun v h' => v = .bl true /\ Ex h h' := by
 obtain ⟨vs, gD, w⟩ := id hD
 rw [Jlb]
 simp only [Jc0, Jcv, Jco]
 refine Jxc _ _ ?_
 rw [Jwj, Jzl (i := D) (h1 := h) rfl gD (by kernel_rfl) (Jed _), Jjv]
 refine WE.of ?_
 simp (implicitDefEqProofs := false) only [Jco, Jdu, Jb4, Jdp, Jib, Jb0, Jbx, Jb3, Jdj, Jdy, Jb2, Jdc, Jd0, Jc2, Jd, Jd5, Jqg, Jg6, Jhc, Jd1, Jhy, Jdh, Jil, Jis, Jbp, Jdo, Jbq, Jbz, Jar, Jb6, Jax, Jdn, Jc9, Jbw, Jby, Jhr, Jdm, Jdx, Jav, Jaz, Ji4, Jde, Jdw, Jdf, Jdd, Jds, Jb5, Jdq, Jdr, Jbr, Jh1, Jiu, Jiy, Jii, Jho, Jhe, Jc5, Jdk, Jdg, Jbv, Jdi, Jcv, Jhh, Jb1, Jc4, Jbn, Jbo, Jdt, Jda, Jdv, Jc7, Ja0, Krz, Ksz, Kvz, Ktz, Kuz, Jmo]
 refine WE.mono (Jo6 hD hv) (fun _ _ z => z.elim) ?_
 rintro n h' ⟨e, x⟩
 refine ⟨"NoName", [], e, ?_⟩
 rw [Jz2 xDN]
 simp only [Jlx, Jco, Jdu, Jb4, Jdp, Jib, Jb0, Jbx, Jb3, Jdj, Jdy, Jb2, Jdc, Jd0, Jc2, Jd, Jd5, Jqg, Jg6, Jhc, Jd1, Jhy, Jdh, Jil, Jis, Jbp, Jdo, Jbq, Jbz, Jar, Jb6, Jax, Jdn, Jc9, Jbw, Jby, Jhr, Jdm, Jdx, Jav, Jaz, Ji4, Jde, Jdw, Jdf, Jdd, Jds, Jb5, Jdq, Jdr, Jbr, Jh1, Jiu, Jiy, Jii, Jho, Jhe, Jc5, Jdk, Jdg, Jbv, Jdi, Jcv, Jhh, Jb1, Jc4, Jbn, Jbo, Jdt, Jda, Jdv, Jc7, Ja0, List.set_cons_succ, List.set_cons_zero, List.append_nil, List.cons_append, List.nil_append, exists_eq_left, exists_eq_left', IV.bl.injEq, IV.int.injEq, IV.ref.injEq, IV.str.injEq, IO.lst.injEq, IV.tup.injEq, Option.some.injEq, Bool.not_true, Bool.not_false, reduceCtorEq, eq_self, true_implies, false_implies, implies_true, and_true, true_and, and_false, false_and, Option.bind_some, Bool.true_eq_false, Bool.false_eq_true, Jcn, Jba, Jck, Jgj, Jcq, Jcm, Jbk, Jaj, Jaw, Jan, Jbu, Jcg, Jcl, Jfe, Jfo, Jgl, Jgh, Jgi, Ja8, Jbb, Jbc, Jxb e, Jy8, xNN, xTN]
 exact x
theorem Jsf {D : Nat} {rs : List RH} {unit : Int} (hD : IsDu h D rs) (G : G4 unit rs) : WR (Jdl (k + 3) [.ref D] h) fun v h' => v = .int (Jll (rs.map (·.1))) /\ Ex h h' := by
 obtain ⟨vs, gD, w⟩ := hD
 have few := G.few
 rw [Jmx]
 simp! [Jd3, J0 gD, dl0]
 refine WR.mono (Jrh w.w (by rw [List.length_map]; omega) G.gl) ?_
 rintro _ _ ⟨rfl, x⟩
 exact ⟨rfl, x⟩
noncomputable def pOf (n : Nat) (h : IH) (v : IV) : IV := match v with
 | .ref p => (match h[p]? with
  | some (.lst xs) => xs.getD n .non
  | _ => .non)
 | _ => .non
theorem RowP.mapF {ys : List IV} {rs : List RH} (w : RowP h ys rs) {F : IV -> IV} {g : RH -> IV} (hf : ∀ (p q : Nat) (r : RH), h[p]? = some (.lst (pl r q)) -> F (.ref p) = g r) : ys.map F = rs.map g := by
 have wl := w.len
 refine List.ext_getElem (by simp [wl]) fun i h1 h2 => ?_
 rw [List.length_map] at h1 h2
 rw [List.getElem_map, List.getElem_map]
 obtain ⟨p, q, e, gp, _⟩ := w.at_ i _ _ (List.getElem?_eq_getElem h1) (List.getElem?_eq_getElem h2)
 rw [e]
 exact hf p q _ gp
theorem RowP.of {ys : List IV} {rs : List RH} (w : RowP h ys rs) {v : IV} (hv : v ∈ ys) : ∃ r ∈ rs, ∃ p q, v = .ref p /\ h[p]? = some (.lst (pl r q)) := by
 have wl := w.len
 obtain ⟨i, hi, rfl⟩ := List.mem_iff_getElem.mp hv
 have hi' : i < rs.length := by omega
 obtain ⟨p, q, e, gp, _⟩ := w.at_ i _ _ (List.getElem?_eq_getElem hi) (List.getElem?_eq_getElem hi')
 exact ⟨_, List.getElem_mem hi', p, q, e, gp⟩
noncomputable def qOf (T : Int) (h : IH) (v : IV) : IV := match pOf 4 h v, pOf 1 h v with
 | .int l, .int g => .int (rup (T + l) g)
 | _, _ => .non
theorem Jf5 {S : Nat} {ys : List IV} {rs : List RH} {unit : Int} (G : G4 unit rs) (hS : h[S]? = some (.lst ys)) (w : RowP h ys rs) :
  WR (Jcy (k + 1) [.ref S] h) fun v h' => v = .int (Jll (rs.map (·.1))) /\ Ex h h' := by
 have hb := Jf
 have wl := w.len
 have few := G.few
 rw [Jm6]
 simp! [Je2, Jt5]
 have dm := w.mapF (F := pOf 3 h) (g := fun r => .int r.1.due) fun p q r e => by rw [pOf, e]; rfl
 refine WR.mono (Jcc (h := h) (xs := ys) (chk := fun h' => h'[S]? = some (.lst ys)) (f := pOf 3 h) ?_ (by omega) (fun h2 q => q _ _ hS) ?_) ?_
 ·simp! [Jir, hS]
 ·intro v hv h2 q
  obtain ⟨r, _, p, q', rfl, e⟩ := w.of hv
  simp! [Jf9, Jbl, q _ _ e]
  refine ⟨?_, .refl _⟩
  rw [pOf, e]
  rfl
 ·rintro _ _ ⟨rfl, g, rfl⟩
  rw [dm]
  have em : rs.map (fun r => IV.int r.1.due) = ((rs.map (·.1)).map (·.due)).map IV.int := by simp
  rw [em]
  have x1 : Ex h (h ++ L3.IO.lst (((rs.map (·.1)).map (·.due)).map IV.int) :: g) := .cons _ _ _
  refine ⟨_, rfl, _, Jdz, _, Jhl _, ?_⟩
  have et : maxD ((rs.map (·.1)).map (·.due)) (.int 0) = .int (topD (rs.map (·.1))) := by
   unfold maxD topD
   split <;> rfl
  rw [et]
  generalize h ++ L3.IO.lst (((rs.map (·.1)).map (·.due)).map IV.int) :: g = h1 at x1
  have w1 := w.kp x1.kp
  have hS1 := x1.get hS
  simp! [Jhz]
  have rm := w1.mapF (F := qOf (topD (rs.map (·.1))) h1) (g := fun r => .int (rup (topD (rs.map (·.1)) + r.1.late) r.1.gap)) fun p q r e => by
   have e4 : pOf 4 h1 (.ref p) = .int r.1.late := by rw [pOf, e]; rfl
   have e1 : pOf 1 h1 (.ref p) = .int r.1.gap := by rw [pOf, e]; rfl
   rw [qOf, e4, e1]
  refine WR.mono (Jcc (h := h1) (xs := ys) (chk := fun h' => h'[S]? = some (.lst ys)) (f := qOf (topD (rs.map (·.1))) h1) ?_ (by omega) (fun h2 q => q _ _ hS1) ?_) ?_
  ·simp! [Jir, hS1]
  ·intro v hv h2 q
   obtain ⟨r, hr, p, q', rfl, e⟩ := w1.of hv
   have gl := G.gl r.1 (List.mem_map_of_mem hr)
   simp only [List.map_cons, List.map_nil, List.getElem?_cons_succ, List.getElem?_cons_zero, Option.join_some]
   simp! [Jf3, Jbl, q _ _ e, gl]
   have e4 : pOf 4 h1 (.ref p) = .int r.1.late := by rw [pOf, e]; rfl
   have e1 : pOf 1 h1 (.ref p) = .int r.1.gap := by rw [pOf, e]; rfl
   exact ⟨by rw [qOf, e4, e1]; rfl, .refl _⟩
  ·rintro _ _ ⟨rfl, g2, rfl⟩
   rw [rm]
   have em2 : rs.map (fun r => IV.int (rup (topD (rs.map (·.1)) + r.1.late) r.1.gap)) = ((rs.map (·.1)).map fun d => rup (topD (rs.map (·.1)) + d.late) d.gap).map IV.int := by simp
   rw [em2]
   simp! [Jub, Jdz, Jhl]
   exact ⟨rfl, x1.trans (.cons _ _ _)⟩
end
end LW
namespace LW
open PySem L2 L3 L4
noncomputable def SOk (x : Str) : Prop := ∀ c ∈ x.cps.toList, c < 0x110000
theorem SOk.lay {x : Str} (q : SOk x) : PyData.canLay0 (.str x) = true := by
 simp only [PyData.canLay0]
 unfold PyData.strOk
 rw [<- Array.all_toList, List.all_eq_true]
 intro c hc
 simp only [decide_eq_true_eq]
 exact q c hc
theorem IsNm.sok {x : Str} (q : IsNm x) : SOk x := fun c hc => by have := q.2.2 c hc; omega
theorem SOk.app {x y : Str} (p : SOk x) (q : SOk y) : SOk (x ++ y) := fun c hc => by
 have e : (x ++ y).cps = x.cps ++ y.cps := rfl
 rw [e, Array.toList_append, List.mem_append] at hc
 exact hc.elim (p c) (q c)
theorem SOk.slice {x : Str} (p : SOk x) (l u : Option Int) : SOk (Txt.slice x l u) := fun c hc => by
 unfold Txt.slice at hc
 split at hc
 ·exact p c hc
 ·have hc : c ∈ (Builtin.Str.strSliceIndices l u 1 x.length).filterMap (x.cps[·]?) := by simpa using hc
  obtain ⟨i, _, e⟩ := List.mem_filterMap.mp hc
  exact p c (by rw [Array.mem_toList_iff]; exact Array.mem_of_getElem? e)
theorem up_lt : ∀ c ∈ List.range' 97 26, ∀ y ∈ Unicode.upperOf c, y < 0x110000 := by decide +kernel
theorem IsNm.upper {x : Str} (p : IsNm x) : SOk (Txt.upper x) := fun c hc => by
 have hc : c ∈ (x.cps.mapIdx fun _ c => (Unicode.upperOf c).toArray).flatten := Array.mem_toList_iff.mp hc
 obtain ⟨a, ha, hc⟩ := Array.mem_flatten.mp hc
 obtain ⟨i, hi, rfl⟩ := Array.mem_mapIdx.mp ha
 have hx := p.2.2 x.cps[i] (by rw [Array.mem_toList_iff]; exact Array.getElem_mem hi)
 generalize x.cps[i] = y at hx hc
 exact up_lt y (by rw [List.mem_range'_1]; omega) c (by simpa using hc)
section
variable {k : Nat} {h : IH}
theorem Jve {L : Nat} {xs : List Str} {v : IV} {d : PyData} (gL : h[L]? = some (.lst (xs.map .str))) (hx : ∀ x ∈ xs, SOk x) (hd : toD h 6 v = some d) (ly : d.canLay0 = true) :
  Jj9 v (.ref L) h = .ok (.bl (!(xs.map PyData.str).any fun y => PyData.eqv y d)) h := by
 have e1 : toD h 6 (.ref L) = some (.list (xs.map PyData.str)) := by
  rw [Jpq gL, Jqm (g := fun v => match v with | .str x => .str x | _ => .none) fun x hx => ?_]
  ·simp
  ·obtain ⟨y, _, rfl⟩ := List.mem_map.mp hx
   rfl
 have l1 : PyData.canLayAll0 (xs.map PyData.str) = true := by
  clear e1 gL
  induction xs with
  | nil => rfl
  | cons x xs ih => rw [List.map_cons, PyData.canLayAll0, (hx x (List.mem_cons_self ..)).lay, ih fun y hy => hx y (List.mem_cons_of_mem _ hy)]; rfl
 unfold Jj9 inI
 rw [e1, hd]
 dsimp only
 rw [if_pos ⟨l1, ly⟩]
noncomputable def Itm (h : IH) (v : IV) : Prop := ∃ d, toD h 6 v = some d /\ d.canLay0 = true /\ ((∃ x, v = .str x /\ d = .str x) ∨ (tyI v h).bind Jaw = some false)
theorem Itm.str {x : Str} (q : SOk x) : Itm h (.str x) := ⟨.str x, rfl, q.lay, .inl ⟨x, rfl, rfl⟩⟩
theorem Itm.lst {i : Nat} {x : Str} (q : SOk x) (e : h[i]? = some (.lst [.str x])) : Itm h (.ref i) := by
 refine ⟨.list [.str x], ?_, ?_, .inr ?_⟩
 ·rw [Jpq e]
  rfl
 ·have := q.lay
  simp only [PyData.canLay0, PyData.canLayAll0] at this ⊢
  rw [this]
  rfl
 ·rw [Jti e]
  rfl
theorem Jy7 {D L : Nat} {rs : List RH} {v : IV} {c : Int} (hD : IsDu h D rs) (gL : h[L]? = some (.lst ((List.range rs.length).map fun j => .str (nm c j)))) (en : (rs.map fun r => r.1.name) = (List.range rs.length).map (nm c)) (q : Itm h v) :
  ∃ b, Jj9 v (.ref L) h = .ok (.bl b) h /\ (b = true -> WR (Jbs (k + 2) [.ref D, v] h) fun v h' => v = .bl true /\ Ex h h') := by
 obtain ⟨d, hd, ly, ask⟩ := q
 have e := Jve (xs := (List.range rs.length).map (nm c)) (by rw [gL, List.map_map]; rfl) (fun x hx => by obtain ⟨j, _, rfl⟩ := List.mem_map.mp hx; exact (Ji6 c j).sok) hd ly
 refine ⟨_, e, fun hb => Jrr hD (ask.imp_left fun ⟨x, e1, e2⟩ => ⟨x, e1, fun r hr z => ?_⟩)⟩
 rw [Bool.not_eq_true', List.any_eq_false] at hb
 have hm : x ∈ (List.range rs.length).map (nm c) := by rw [<- en, <- z]; exact List.mem_map_of_mem hr
 refine hb (.str x) (List.mem_map_of_mem hm) ?_
 rw [e2]
 simp [PyData.eqv]
theorem Jq5 {D S NM : Nat} {ys : List IV} {rs : List RH} {unit c : Int} (hD : IsDu h D rs) (G : G4 unit rs) (hS : h[S]? = some (.lst ys)) (w : RowP h ys rs) (gN : h[NM]? = some (.lst ((List.range 14).map fun j => .str (nm c j)))) (en : (rs.map fun r => r.1.name) = (List.range rs.length).map (nm c)) :
  WR (Jcu (k + 4) [.ref D, .ref S, .ref NM] h) fun v h' => v = .bl true /\ Ex h h' := by
 have hb := Jf
 obtain ⟨vs, gD, wD⟩ := id hD
 have few := G.few
 have wl := w.len
 have vl := wD.len
 rw [Jn4]
 simp! [Jef]
 rw [Jg2 (i := D) (h1 := h) rfl gD (by kernel_rfl) (Jok _)]
 simp! [Jt9 gD, Jja, hS, vl, wl, Jf6]
 rw [Jg2 (i := D) (h1 := h) rfl gD (by kernel_rfl) (Jmt _)]
 simp! [true_and]
 refine WR.mono (Jsf (k := k) hD G) ?_
 rintro _ ha ⟨rfl, xa⟩
 refine WR.mono (Jf5 (k := k + 2) G (xa.get hS) (w.kp xa.kp)) ?_
 rintro _ hc ⟨rfl, xc⟩
 have x0 := xa.trans xc
 simp! [Jf6, Jin, Jja, x0.get hS, wl]
 refine ⟨by omega, ?_⟩
 refine Jek (fun n σ h' => Ex h h' /\ ∃ a, σ = [some (.ref D), some (.ref S), some (.ref NM), a, none]) (fun _ _ _ _ => trivial) ?_ ?_ ⟨x0, _, rfl⟩
 ·rintro n hn _ h1 ⟨x1, a, rfl⟩
  rw [Jkr]
  rw [Jb9] at hn
  have hn' : n < rs.length := by omega
  have er := List.getElem?_eq_getElem hn'
  have f := G.f _ (List.getElem_mem hn')
  generalize rs[n] = r at er f
  obtain ⟨p, q, ey, gp, gq⟩ := w.get er
  obtain ⟨j, ev, gj⟩ := wD.get er
  have gD1 := x1.get gD
  rw [show (0 : Int) + (n : Int) = (n : Int) by omega]
  have a1 : atI vs (n : Int) = some (.ref j) := Jc6 ev
  have a2 : atI ys (n : Int) = some (.ref p) := Jc6 ey
  simp! [Jgr]
  rw [Jg2 (i := D) (h1 := h1) rfl gD1 dlw (Jjn _)]
  simp! [Jn8 gD1 a1, Jbl, x1.get hS, a2]
  refine WR.mono (Jx6 (k := k + 1) (x1.get gj) (x1.get gp) (x1.get gq) fun a ha => (f.ok.each a ha).1) ?_
  rintro _ h2 ⟨rfl, x2⟩
  have x12 := x1.trans x2
  have gD2 := x12.get gD
  simp! [true_and]
  rw [Jg2 (i := D) (h1 := h2) rfl gD2 (by kernel_rfl) (Jed _)]
  simp! [Jbl, x12.get hS, a2, x12.get gp, Jn3 (hD.kp x12.kp) G.nd er, Jf6]
  exact ⟨x12, _, rfl⟩
 ·rintro _ h1 ⟨x1, a, rfl⟩
  have gN1 := x1.get gN
  have a0 : atI ((List.range 14).map fun j => IV.str (nm c j)) 0 = some (.str (nm c 0)) := Jc6 (n := 0) rfl
  have n0 := Ji6 c 0
  have n8 := n0.2.1
  have la : (Str.ofString "a").length = 1 := by decide +kernel
  simp! [Jhv, Jja, x1.get hS, wl, Jop, gN1, Jbl, grow gN1, a0, la, Jzq]
  refine ⟨by omega, by omega, ?_⟩
  generalize hh2 : h1 ++ [IO.lst (cutI (List.map (fun j => IV.str (nm c j)) (List.range 14)) (some (rs.length : Int)) none)] = h2
  have x2 : Ex h1 h2 := by rw [<- hh2]; exact .one _ _
  have gN2 := x2.get gN1
  have g2 : h2[h1.length]? = some (.lst (((List.range 14).drop rs.length).map fun j => .str (nm c j))) := by rw [<- hh2, Ja2, Jl6, List.map_drop]
  rw [Jzw (x := nm c 0) (h1 := h2) (by refine Jeh ?_; simp (implicitDefEqProofs := false) only [Jco, Jdu, Jb4, Jdp, Jib, Jb0, Jbx, Jb3, Jdj, Jdy, Jb2, Jdc, Jd0, Jc2, Jd, Jd5, Jqg, Jg6, Jhc, Jd1, Jhy, Jdh, Jil, Jis, Jbp, Jdo, Jbq, Jbz, Jar, Jb6, Jax, Jdn, Jc9, Jbw, Jby, Jhr, Jdm, Jdx, Jav, Jaz, Ji4, Jde, Jdw, Jdf, Jdd, Jds, Jb5, Jdq, Jdr, Jbr, Jh1, Jiu, Jiy, Jii, Jho, Jhe, Jc5, Jdk, Jdg, Jbv, Jdi, Jcv, Jhh, Jb1, Jc4, Jbn, Jbo, Jdt, Jda, Jdv, Jc7, Ja0, Krz, Ksz, Kvz, Ktz, Kuz, Jbl, gN2, a0, Kbz, Kaz, Kcz, Kdz, Kez, Kfz, Khz, Kgz, Kiz, Kjz, Kkz, reduceCtorEq, eq_self, Koz, Kpz, Kqz, and_true, true_and, and_false, false_and, Knz, Klz, Kmz, Jcn, Jba, Jck, Jgj, Jcq, Jcm, Jbk, Jaj, Jaw, Jan, Jbu, Jcg, Jcl, Jfe, Jfo, Jgl, Jgh, Jgi, Ja8, Jbb, Jbc]) Jvh]
  simp! [Jwg, gN2, a0, Jyu, List.length_cons, List.length_nil]
  refine ⟨by omega, by omega, by omega, ?_⟩
  generalize hIt : ((List.range 14).drop rs.length).map (fun j => IV.str (nm c j)) = its at g2
  generalize hTl : [IV.str (Str.ofString ""), IV.str (nm c 0 ++ Str.ofString "a"), IV.str (Txt.slice (nm c 0) none (some (-1))), IV.str (Txt.upper (nm c 0)), IV.non, IV.int 0, IV.ref (List.length h2)] = tl
  have li : its.length + tl.length <= 21 := by rw [<- hIt, <- hTl]; simp <;> omega
  refine ⟨its, grow (grow g2), tl, Ja2, by omega, ?_⟩
  have x3 : Ex h2 (h2 ++ [IO.lst [IV.str (nm c 0)]] ++ [IO.lst tl] ++ [IO.lst (its ++ tl)]) := (Ex.one _ _).trans ((Ex.one _ _).trans (.one _ _))
  have gl : (h2 ++ [IO.lst [IV.str (nm c 0)]] ++ [IO.lst tl] ++ [IO.lst (its ++ tl)])[h2.length]? = some (.lst [IV.str (nm c 0)]) := grow (grow Ja2)
  have gI : (h2 ++ [IO.lst [IV.str (nm c 0)]] ++ [IO.lst tl] ++ [IO.lst (its ++ tl)])[List.length (h2 ++ [IO.lst [IV.str (nm c 0)]] ++ [IO.lst tl])]? = some (.lst (its ++ tl)) := Ja2
  generalize List.length (h2 ++ [IO.lst [IV.str (nm c 0)]] ++ [IO.lst tl]) = I at gI ⊢
  generalize h2 ++ [IO.lst [IV.str (nm c 0)]] ++ [IO.lst tl] ++ [IO.lst (its ++ tl)] = h3 at x3 gl gI ⊢
  have x13 := (x1.trans x2).trans x3
  have all : ∀ v ∈ its ++ tl, ∀ h', Ex h3 h' -> Itm h' v := fun v hv h' x => by
   rw [List.mem_append] at hv
   rcases hv with hv | hv
   ·rw [<- hIt] at hv
    obtain ⟨j, _, rfl⟩ := List.mem_map.mp hv
    exact .str (Ji6 c j).sok
   ·rw [<- hTl] at hv
    have sa : SOk (Str.ofString "a") := fun c hc => by rw [J0e] at hc; simp at hc; subst hc; decide
    simp only [List.mem_cons, List.not_mem_nil, or_false] at hv
    rcases hv with rfl | rfl | rfl | rfl | rfl | rfl | rfl
    ·exact .str fun c hc => by rw [Jon] at hc; simp at hc
    ·exact .str (n0.sok.app sa)
    ·exact .str (n0.sok.slice _ _)
    ·exact .str n0.upper
    ·exact ⟨.none, rfl, rfl, .inr rfl⟩
    ·exact ⟨.int 0, rfl, rfl, .inr rfl⟩
    ·exact .lst n0.sok (x.get gl)
  simp only [Jir, gI, exists_eq_left, exists_eq_left', IV.bl.injEq, IV.int.injEq, IV.ref.injEq, IV.str.injEq, IO.lst.injEq, IV.tup.injEq, Option.some.injEq, Bool.not_true, Bool.not_false, reduceCtorEq, eq_self, true_implies, false_implies, implies_true, and_true, true_and, and_false, false_and, Option.bind_some, Bool.true_eq_false, Bool.false_eq_true, Jcn, Jba, Jck, Jgj, Jcq, Jcm, Jbk, Jaj, Jaw, Jan, Jbu, Jcg, Jcl, Jfe, Jfo, Jgl, Jgh, Jgi, Ja8, Jbb, Jbc]
  refine Jek (fun n σ h' => Ex h3 h' /\ ∃ b, σ = [some (.ref D), some (.ref S), some (.ref NM), a, b]) (fun n σ h' ⟨x, _⟩ => x.get gI) ?_ ?_ ⟨.refl _, _, rfl⟩
  ·rintro n hn _ h4 ⟨x4, b, rfl⟩
   have mv := List.getElem_mem hn
   generalize (its ++ tl)[n] = v at mv
   have x5 := x13.trans x4
   simp! [Jgq, Jja, x5.get hS, wl, Jop, x5.get gN]
   rw [Jq7, <- List.map_take, List.take_range, Nat.min_eq_left (by omega)]
   generalize hh6 : h4 ++ [IO.lst ((List.range rs.length).map fun j => IV.str (nm c j))] = h6
   have x6 : Ex h4 h6 := by rw [<- hh6]; exact .one _ _
   have g6 : h6[h4.length]? = some (.lst ((List.range rs.length).map fun j => IV.str (nm c j))) := by rw [<- hh6]; exact Ja2
   obtain ⟨b, eb, ub⟩ := Jy7 (k := k + 1) (hD.kp (x5.trans x6).kp) g6 en (all v mv h6 (x4.trans x6))
   rw [eb]
   simp! [true_and]
   cases b with
   | false =>
    simp! [true_and]
    exact ⟨x4.trans x6, _, rfl⟩
   | true =>
    simp! [true_and]
    refine WR.mono (ub rfl) ?_
    rintro _ h7 ⟨rfl, x7⟩
    simp! [true_and]
    exact ⟨(x4.trans x6).trans x7, _, rfl⟩
  ·rintro _ h4 ⟨x4, b, rfl⟩
   simp! [Jic]
   exact x13.trans x4
end
end LW
namespace LW
open PySem L2 L3 L4
noncomputable def PQ (h : IH) (unit : Int) (name : Str) (v : IV) (h' : IH) : Prop := ∃ r p q, v = .ref p /\ h.length <= p /\ h.length <= q /\ Ex h h' /\ h'[p]? = some (.lst (pl r q)) /\ h'[q]? = some (.lst (r.2.map tupH)) /\ F8 unit r /\ r.1.name = name
section
variable {k : Nat} {h : IH}
theorem Jv0 {ns : List Int} {unit : Int} {dense : Bool} {name thing : Str} (hu : 1 <= unit) (hu2 : unit <= 10 ^ 40) (j : Nat) (hj : j < 12) (hn : IsNm name) (ht : IsNm thing) :
  WR (Jey (k + 3) [.rol (ns.map .int), .int j, .int unit, .bl dense, .str name, .str thing] h) (PQ h unit name) := by
 have hb := Jf
 rw [Jpp]
 have cc := fun h : IH => Ji7 (k := k + 1) (h := h) ns (4 + (j : Int)) (by omega)
 generalize ns.getD (4 + (j : Int)).toNat 0 = c at cc
 simp! [Je4, cc]
 refine WR.mono (Jvw (k := k) c j hj) ?_
 rintro _ h1 ⟨X, xs, rfl, lX, gX, lx, hx, x1⟩
 match xs, lx, gX, hx with
 | [y0, y1, y2, y3, y4, y5], _, gX, hx =>
 have b0 := hx y0 (by simp)
 have b1 := hx y1 (by simp)
 have b2 := hx y2 (by simp)
 have b3 := hx y3 (by simp)
 have b4 := hx y4 (by simp)
 have b5 := hx y5 (by simp)
 clear hx
 simp only [List.map_cons, List.map_nil] at gX
 have l1 := x1.len
 have l8 : (Int.natAbs 8).log2 < 9000 := by decide
 have l1000 : (Int.natAbs 1000).log2 < 9000 := by decide
 have p8 : (0 : Int) < 8 := by decide
 have p1000 : (0 : Int) < 1000 := by decide
 have p3 : (0 : Int) < 3 := by decide
 have p2 : (0 : Int) < 2 := by decide
 have pu : (0 : Int) < unit := by omega
 have m1 : Jat unit (1 + y0 % 8) := .inr (.inl (by omega))
 simp! [Jh7, Jbl, gX, m1, l8, p8, pu]
 -- the gap
 suffices key : ∀ (N : ISt -> IH -> Prop) (h2 : IH) (g : Int), Ex h h2 -> h2[X]? = some (.lst [.int y0, .int y1, .int y2, .int y3, .int y4, .int y5]) -> unit <= g -> g < 9 * unit -> WS (Jem (k + 2) [some (.rol (ns.map .int)), some (.int j), some (.int unit), some (.bl dense), some (.str name), some (.str thing), some (.ref X), some (.int g), none, none, none, none] h2) N (PQ h unit name) by
  have k1 := Int.emod_nonneg (y0 / 8) (b := unit) (by omega)
  have k2 := Int.emod_lt_of_pos (y0 / 8) pu
  have k3 : unit * 1 <= unit * (1 + y0 % 8) := Int.mul_le_mul_of_nonneg_left (by omega) (by omega)
  have k4 : unit * (1 + y0 % 8) <= unit * 8 := Int.mul_le_mul_of_nonneg_left (by omega) (by omega)
  rw [Jit]
  cases dense with
  | false =>
   simp! [true_and]
   refine key _ h1 _ x1 gX ?_ ?_ <;> omega
  | true =>
   have m2 : Jat y0 (1 + unit / 1000) := .inl (by omega)
   have k5 := Int.emod_nonneg (y0 * (1 + unit / 1000)) (b := unit) (by omega)
   have k6 := Int.emod_lt_of_pos (y0 * (1 + unit / 1000)) pu
   have xa : Ex h1 (h1 ++ [L3.IO.lst [IV.int 8, IV.int 1]]) := .one _ _
   have ix : ∃ e : Int, atI [IV.int 8, IV.int 1] (if decide ((j : Int) > 0) = true then 1 else 0) = some (.int e) /\ 1 <= e /\ e <= 8 := by
    by_cases z : (j : Int) > 0
    ·exact ⟨1, by rw [if_pos (by simpa using z)]; exact Jfo, by omega, by omega⟩
    ·exact ⟨8, by rw [if_neg (by simpa using z)]; exact Jfe, by omega, by omega⟩
   obtain ⟨e, ee, e1, e8⟩ := ix
   have k7 : unit * 1 <= unit * e := Int.mul_le_mul_of_nonneg_left (by omega) (by omega)
   have k8 : unit * e <= unit * 8 := Int.mul_le_mul_of_nonneg_left (by omega) (by omega)
   have m3 : Jat unit e := .inr (.inl (by omega))
   simp! [Jbl, Ja2, intI, List.length_cons, List.length_nil, grow gX, l1000, p1000, pu, m2]
   refine ⟨by omega, _, ee, ?_⟩
   simp! [m3, m2, grow gX, pu]
   refine key _ _ _ (x1.trans xa) (grow gX) ?_ ?_ <;> omega
 intro N h2 g x2 gX2 g1 g2
 have pg' : (0 : Int) < g := by omega
 have p2g : (0 : Int) < 2 * g := by omega
 have m2 : Jat y1 (1 + unit / 1000) := .inl (by omega)
 have m3 : Jat y2 (1 + unit / 1000) := .inl (by omega)
 have m4 : Jat 2 g := .inl (by decide)
 have d1 := Int.emod_nonneg (y1 * (1 + unit / 1000)) (b := g) (by omega)
 have d2 := Int.emod_lt_of_pos (y1 * (1 + unit / 1000)) pg'
 have t1 := Int.emod_nonneg (y2 * (1 + unit / 1000)) (b := 2 * g) (by omega)
 have t2 := Int.emod_lt_of_pos (y2 * (1 + unit / 1000)) p2g
 suffices key : ∀ (N : ISt -> IH -> Prop) (due late : Int), 1 <= due -> due <= g -> 0 <= late -> late < 2 * g -> WS (Jej (k + 2) [some (.rol (ns.map .int)), some (.int j), some (.int unit), some (.bl dense), some (.str name), some (.str thing), some (.ref X), some (.int g), some (.int due), some (.int late), none, none] h2) N (PQ h unit name) by
  have late : ∀ (N : ISt -> IH -> Prop) (due : Int), 1 <= due -> due <= g -> WS (Jei (k + 2) [some (.rol (ns.map .int)), some (.int j), some (.int unit), some (.bl dense), some (.str name), some (.str thing), some (.ref X), some (.int g), some (.int due), none, none, none] h2) N (PQ h unit name)   := fun N due u1 u2 => by
   simp! [Jei, Jhj, Jbl, gX2, p2, l1000, p1000, p2g, m3, m4]
   exact ⟨fun _ => key _ due _ u1 u2 t1 t2, fun _ => key _ due 0 u1 u2 (by decide) (by omega)⟩
  simp! [Jem, Jiw, Jbl, gX2, p3, l1000, p1000, pg', m2]
  have A := late N (1 + y1 * (1 + unit / 1000) % g) (by omega) (by omega)
  have B := late N g (by omega) (Int.le_refl _)
  exact ⟨fun _ => ⟨fun _ => A, fun _ => ⟨fun _ => A, fun _ => B⟩⟩, fun _ => B⟩
 intro N due late u1 u2 v1 v2
 have q1 : Jat y3 y4 := .inl (by omega)
 have q2 : Jat (y3 * y4) y5 := .inr (.inl (by omega))
 have q3 : Jat (y3 * y4 * y5) y3 := .inr (.inl (by omega))
 have q4 : Jat (y3 * y4 * y5 * y3) y4 := .inr (.inl (by omega))
 have t40 : (0 : Int) < 10 ^ 40 := by decide +kernel
 have tn : Int.toNat 40 = 40 := rfl
 simp! [Jej, Jbl, gX2, Jwp, q1, q2, q3, q4, tn, t40]
 refine ⟨by decide, ?_⟩
 have q5 := Int.emod_nonneg (y3 * y4 * y5 * y3 * y4) (b := 10 ^ 40) (by decide +kernel)
 obtain ⟨len, el, le1⟩ : ∃ len : Int, 1 + y3 * y4 * y5 * y3 * y4 % 10 ^ 40 = len /\ 1 <= len := ⟨_, rfl, by generalize (10 : Int) ^ 40 = y at *; omega⟩
 rw [el]
 clear el q5 t40
 have l2 := x2.len
 have base : ∀ hs : List Hd, HsOk len hs -> F8 unit (⟨⟨name, g, len, due, late⟩, hs⟩ : RH) := fun hs ok => ⟨hn, g1, g2, le1, u1, u2, v1, v2, ok⟩
 have non := base [] ⟨by simp, by simp, fun m n hm hn => absurd hn (by simp)⟩
 have z : PQ h unit name (.ref (h2 ++ [L3.IO.lst []]).length) (h2 ++ [L3.IO.lst []] ++ [L3.IO.lst [.str name, .int g, .int len, .int due, .int late, .ref h2.length]]) :=
  ⟨⟨⟨name, g, len, due, late⟩, []⟩, _, h2.length, rfl, by rw [List.length_append]; omega, l2, x2.trans ((Ex.one _ _).trans (.one _ _)), Ja2, grow Ja2, non, rfl⟩
 simp! [Jhd, Jhw, Jgw, Jbl, grow gX2, Jwp, p2, List.length_nil, List.length_cons, Nat.zero_le, decide_eq_true_eq, decide_eq_false_iff_not]
 refine ⟨fun _ => ⟨fun hl => ?_, fun _ => ⟨by omega, z⟩⟩, fun _ => ⟨by omega, z⟩⟩
 have e0 := Int.emod_nonneg y4 (b := len - 2) (by omega)
 have e1 := Int.emod_lt_of_pos y4 (b := len - 2) (by omega)
 generalize hz : 1 + y4 % (len - 2) = e
 have two := base [(thing, 0, e), (name, len - 2, len - 1)] ⟨by simp, fun a ha => by
  simp only [List.mem_cons, List.not_mem_nil, or_false] at ha
  rcases ha with rfl | rfl
  ·exact ⟨ht, by show (0 : Int) <= 0; decide, by show (0 : Int) < e; omega, by show e < len; omega⟩
  ·exact ⟨hn, by show 0 <= len - 2; omega, by show len - 2 < len - 1; omega, by show len - 1 < len; omega⟩, fun m n hm hn => by
   simp only [List.length_cons, List.length_nil] at hn
   obtain ⟨rfl, rfl⟩ : m = 0 /\ n = 1 := by omega
   exact .inr (.inl (by show e <= len - 2; omega))⟩
 exact ⟨by omega, by omega, by omega, by omega, by omega, ⟨⟨⟨name, g, len, due, late⟩, [(thing, 0, e), (name, len - 2, len - 1)]⟩, _, (h2 ++ [L3.IO.lst []]).length, rfl, by simp; omega, by simp; omega, x2.trans ((Ex.one _ _).trans ((Ex.one _ _).trans (.one _ _))), Ja2, grow Ja2, two, rfl⟩⟩
end
end LW
namespace LW
open PySem L2 L3 L4
section
variable {k : Nat} {h : IH}
theorem Jkt {α : Type} {P : Nat -> α -> Prop} : ∀ n : Nat, (∀ i, i < n -> ∃ a, P i a) -> ∃ l : List α, l.length = n /\ ∀ i a, l[i]? = some a -> P i a
 | 0, _ => ⟨[], rfl, fun i a e => by simp at e⟩
 | n + 1, q => by
  obtain ⟨l, hl, hp⟩ := Jkt n fun i hi => q i (by omega)
  obtain ⟨a, ha⟩ := q n (by omega)
  refine ⟨l ++ [a], by simp [hl], fun i b e => ?_⟩
  by_cases hi : i < n
  ·rw [List.getElem?_append_left (by omega)] at e
   exact hp i b e
  ·have := (List.getElem?_eq_some_iff.mp e).1
   rw [List.length_append, List.length_singleton] at this
   have hin : i = l.length := by omega
   rw [hin, List.getElem?_append_right (Nat.le_refl _), Nat.sub_self] at e
   cases e
   rw [hin, hl]
   exact ha
theorem J09 {h h0 : IH} {it : I1} {e : E1} {js : List Nat} {σ : ISt} {xs : List IV} {chk : IH -> Prop} (D : IV -> IV -> IH -> Prop) (hit : WR (it σ h0) fun J h1 => J.xs = xs /\ J.chk = chk /\ h1 = h) (hl : xs.length < sizeLine)
  (mono : ∀ x y h2 h3, KpB h.length h2 h3 -> D x y h2 -> D x y h3) (hc : ∀ h2 : IH, Kp h h2 -> chk h2)
  (he : ∀ x ∈ xs, ∀ h2 : IH, Kp h h2 -> h.length < h2.length -> WR (e (some x :: js.map fun j => (σ[j]?).join) h2) fun v h3 => Ex h2 h3 /\ D x v h3) :
  ∃ v h3, Jbi it 1 js (gNm 0) Jci e σ h0 = .ok v h3 /\ v = .ref h.length /\ ∃ ys, h3[h.length]? = some (.lst ys) /\ ys.length = xs.length /\ Kp h h3 /\ ∀ (i : Nat) x y, xs[i]? = some x -> ys[i]? = some y -> D x y h3 :=
 (Jvp D hit hl mono hc he).eq
noncomputable def DS (c unit : Int) (i0 : Nat) (x y : IV) (h' : IH) : Prop := ∀ j : Nat, x = IV.int (j : Int) -> ∃ (r : RH) (p q : Nat), y = IV.ref p /\ p ≠ i0 /\ q ≠ i0 /\ h'[p]? = some (.lst (pl r q)) /\ h'[q]? = some (.lst (r.2.map tupH)) /\ F8 unit r /\ r.1.name = nm c j
noncomputable def DV (h1 : IH) (x y : IV) (h' : IH) : Prop := ∀ p : Nat, x = IV.ref p -> ∃ w : Nat, y = IV.ref w /\ w ≠ h1.length /\ ∃ (r : RH) (q : Nat), h1[p]? = some (.lst (pl r q)) /\ h1[q]? = some (.lst (r.2.map tupH)) /\ h'[w]? = some (wo r)
theorem wo_eq {h1 : IH} {r r' : RH} {q q' : Nat} (e : pl r q = pl r' q') (g : h1[q]? = some (.lst (r.2.map tupH))) (g' : h1[q']? = some (.lst (r'.2.map tupH))) : wo r = wo r' := by
 simp only [pl, List.cons.injEq, IV.str.injEq, IV.int.injEq, IV.ref.injEq, and_true] at e
 obtain ⟨e1, e2, e3, e4, e5, rfl⟩ := e
 rw [g] at g'
 have g' : r.2.map tupH = r'.2.map tupH := by simpa using g'
 unfold wo
 rw [e1, e2, e3, e4, e5, g']
noncomputable abbrev nms (c : Int) : List IV := (List.range 14).map fun j => .str (nm c j)
theorem Jxs {ns : List Int} {unit c : Int} {dense : Bool} {m NM : Nat} {a b d e f g : Option IV} (hu1 : 1 <= unit) (hu2 : unit <= 10 ^ 40) (hm : m <= 12) (gN : h[NM]? = some (.lst (nms c))) :
  ∃ h', Jbi (iRg Jc8 (Ja (eVar 1) aNil)) 1 [4, 2, 0, 3] (gNm 0) Jci (Jfu (k + 3)) [some (.rol (ns.map .int)), some (.int (m : Int)), some (.ref NM), some (.int unit), some (.bl dense), a, b, d, e, f, g] h = .ok (.ref h.length) h' /\
   ∃ ys rs, h'[h.length]? = some (.lst ys) /\ RowP h' ys rs /\ G4 unit rs /\ rs.length = m /\ (rs.map fun r => r.1.name) = (List.range m).map (nm c) /\ Kp h h' := by
 have hb := Jf
 have X := @J09 h h (iRg Jc8 (Ja (eVar 1) aNil)) (Jfu (k + 3)) [4, 2, 0, 3] [some (.rol (ns.map .int)), some (.int (m : Int)), some (.ref NM), some (.int unit), some (.bl dense), a, b, d, e, f, g] (rngI 0 (m : Int)) (fun _ => True) (DS c unit h.length)
  (by
   simp! [true_and]
   exact ⟨by omega, by omega⟩) (by rw [Jb9]; omega) (by
   intro x y h2 h3 kb dd j e
   obtain ⟨r, p, q, e1, e2, e3, e4, e5, e6, e7⟩ := dd j e
   exact ⟨r, p, q, e1, e2, e3, kb _ _ e2 e4, kb _ _ e3 e5, e6, e7⟩) (fun _ _ => trivial) (by
   intro x hx h2 k2 l2
   obtain ⟨n, hn, rfl⟩ := List.mem_iff_getElem.mp hx
   rw [Jkr]
   rw [Jb9] at hn
   have hn12 : n < 12 := by omega
   have ea : atI (nms c) (n : Int) = some (.str (nm c n)) := Jc6 (by rw [List.getElem?_map, List.getElem?_range (by omega)]; rfl)
   have eb : atI (nms c) (((n : Int) + 1) % 14) = some (.str (nm c (n + 1))) := by
    rw [show ((n : Int) + 1) % 14 = ((n + 1 : Nat) : Int) by omega]
    exact Jc6 (by rw [List.getElem?_map, List.getElem?_range (by omega)]; rfl)
   simp only [List.map_cons, List.map_nil, List.getElem?_cons_succ, List.getElem?_cons_zero, Option.join_some]
   rw [show (0 + (n : Int)) = (n : Int) by omega]
   simp! [Jfu, Jbl, k2 _ _ gN, ea, eb, show (0 : Int) < 14 by decide]
   refine WR.mono (Jv0 hu1 hu2 n hn12 (Ji6 c n) (Ji6 c (n + 1))) ?_
   rintro _ h3 ⟨r, p, q, rfl, h1, h2', x3, g1, g2, f8, en⟩
   refine ⟨x3, fun j ej => ⟨r, p, q, rfl, by omega, by omega, g1, g2, f8, ?_⟩⟩
   have : (n : Int) = j := by simpa using ej
   rw [show j = n by omega]
   exact en)
 obtain ⟨v, h1, ev, rfl, ys, gS, ly, k1, dS⟩ := X
 rw [Jb9] at ly
 have lm : ys.length = m := by omega
 obtain ⟨rs, lr, hr⟩ := Jkt (P := fun i (r : RH) => ∃ p q, ys[i]? = some (.ref p) /\ h1[p]? = some (.lst (pl r q)) /\ h1[q]? = some (.lst (r.2.map tupH)) /\ F8 unit r /\ r.1.name = nm c i) m fun i hi => by
  have xi : (rngI 0 (m : Int))[i]? = some (.int (i : Int)) := by
   have hr : i < (rngI 0 (m : Int)).length := by rw [Jb9]; omega
   rw [List.getElem?_eq_getElem hr, Jkr]
   simp
  have yi : ys[i]? = some ys[i] := List.getElem?_eq_getElem (by omega)
  obtain ⟨r, p, q, e1, _, _, e4, e5, e6, e7⟩ := dS i _ _ xi yi i rfl
  exact ⟨r, p, q, by rw [yi, e1], e4, e5, e6, e7⟩
 have e : (rs.map fun r => r.1.name) = (List.range m).map (nm c) := by
  refine List.ext_getElem (by simp [lr]) fun i h1 h2 => ?_
  rw [List.getElem_map, List.getElem_map, List.getElem_range]
  rw [List.length_map] at h1
  obtain ⟨p, q, _, _, _, _, e5⟩ := hr i _ (List.getElem?_eq_getElem h1)
  exact e5
 refine ⟨h1, ev, ys, rs, gS, ⟨by omega, fun i y r a b => ?_⟩, ⟨hu1, hu2, by omega, fun r hr' => ?_, ?_⟩, lr, e, k1⟩
 ·obtain ⟨p, q, e1, e2, e3, _, _⟩ := hr i r b
  rw [e1] at a
  cases a
  exact ⟨p, q, rfl, e2, e3⟩
 ·obtain ⟨i, ei⟩ := List.mem_iff_getElem?.mp hr'
  obtain ⟨p, q, _, _, _, e4, _⟩ := hr i r ei
  exact e4
 ·rw [e, List.Nodup, List.pairwise_map]
  refine (List.nodup_range (n := m)).imp_of_mem fun {a b} ha hb hne e => hne ?_
  exact J0i (by have := List.mem_range.mp ha; omega) (by have := List.mem_range.mp hb; omega) e
theorem Ju9 {S : Nat} {ys : List IV} {rs : List RH} {unit : Int} {a0 a1 a2 a3 a4 a b d e f : Option IV} (G : G4 unit rs) (gS : h[S]? = some (.lst ys)) (w : RowP h ys rs) :
  ∃ h', Jbi (iAny (eVar 5)) 1 [] (gNm 0) Jci (Jfl (k + 5)) [a0, a1, a2, a3, a4, some (.ref S), a, b, d, e, f] h = .ok (.ref h.length) h' /\ ∃ vs, h'[h.length]? = some (.lst vs) /\ AllH h' vs rs /\ Kp h h' := by
 have hb := Jf
 have few := G.few
 have wl := w.len
 have X := @J09 h h (iAny (eVar 5)) (Jfl (k + 5)) [] [a0, a1, a2, a3, a4, some (.ref S), a, b, d, e, f] ys (fun h' => h'[S]? = some (.lst ys)) (DV h)
  (by simp! [Jir, gS]) (by omega) (by
   intro x y h2 h3 kb dd p e
   obtain ⟨w, e1, e2, r, q, e3, e4, e5⟩ := dd p e
   exact ⟨w, e1, e2, r, q, e3, e4, kb _ _ e2 e5⟩) (fun h2 q => q _ _ gS) (by
   intro x hx h2 k2 l2
   obtain ⟨n, hn, rfl⟩ := List.mem_iff_getElem.mp hx
   have hn' : n < rs.length := by omega
   obtain ⟨p, q, ey, gp, gq⟩ := w.at_ n _ _ (List.getElem?_eq_getElem hn) (List.getElem?_eq_getElem hn')
   have f8 := G.f _ (List.getElem_mem hn')
   have u1 := G.u1
   rw [ey]
   generalize rs[n] = r at gp gq f8
   have f1 := f8.g1
   have gp2 := k2 _ _ gp
   have gq2 := k2 _ _ gq
   simp! [Jfl, Jbl, gp2, Jwp, Jq1, gq2]
   generalize hs' : r.2.map tupH = hs
   refine WR.mono (Jud (k := k) (hs := hs) f8.nm (by omega) f8.l1 f8.t1 (fun h1 => Jsa f8.d1 f8.d2) fun h1 z => hs' ▸ Jnt (z _ _ (by rw [hs']; exact Ja2)) f8.ok) ?_
   rintro _ h3 ⟨rfl, g, rfl⟩
   refine ⟨rfl, (Ex.one _ _).trans (.cons _ _ _), fun p' ep => ?_⟩
   cases ep
   exact ⟨_, rfl, by rw [List.length_append]; omega, r, q, gp, gq, by rw [<- hs']; exact Jdz⟩)
 obtain ⟨v, h3, ev, rfl, vs, gv, lv, k3, dv⟩ := X
 refine ⟨h3, ev, vs, gv, ⟨by omega, fun i v r a b => ?_⟩, k3⟩
 obtain ⟨p, q, ey, gp, gq⟩ := w.get b
 obtain ⟨W, e1, _, r', q', e3, e4, e5⟩ := dv i _ _ ey a p rfl
 rw [gp] at e3
 have e3 : pl r q = pl r' q' := by simpa using e3
 exact ⟨W, e1, by rw [wo_eq e3 gq e4]; exact e5⟩
end
end LW
namespace LW
open PySem L2 L3 L4
section
variable {k : Nat} {h : IH}
theorem AllH.refs {vs : List IV} {rs : List RH} (w : AllH h vs rs) : ∃ ns, Jgg vs = some ns := by
 have q : ∀ v ∈ vs, ∃ j, v = .ref j := fun v hv => by
  obtain ⟨i, hi, rfl⟩ := List.mem_iff_getElem.mp hv
  have wl := w.len
  obtain ⟨j, e, _⟩ := w.at_ i _ _ (List.getElem?_eq_getElem hi) (List.getElem?_eq_getElem (show i < rs.length by omega))
  exact ⟨j, e⟩
 clear w
 induction vs with
 | nil => exact ⟨[], rfl⟩
 | cons v vs ih =>
  obtain ⟨ns, e⟩ := ih fun v hv => q v (List.mem_cons_of_mem _ hv)
  obtain ⟨j, rfl⟩ := q v (List.mem_cons_self ..)
  exact ⟨j :: ns, by rw [Jgg, e]; rfl⟩
theorem Jpc {H W : Nat} {vs : List IV} {rs : List RH} (w : AllH h vs rs) (gH : h[H]? = some (.lst vs)) (gW : h[W]? = some (.lst vs)) : cNeO (.ref H) (.ref W) h = .ok (.bl false) h := by
 obtain ⟨ns, e⟩ := w.refs
 refine Jvm ?_
 simp only [Jt7, gH, gW, e, decide_true]
theorem IsDu.kpb {h h' : IH} {D H : Nat} {rs : List RH} {xs : List IV} (hH : h[H]? = some (.lst xs)) (k : KpB H h h') (w : IsDu h D rs) : IsDu h' D rs := by
 obtain ⟨vs, gD, wA⟩ := w
 have ne : ∀ {j : Nat} {c : Str} {fs : List (Str × IV)}, h[j]? = some (.ins c fs) -> j ≠ H := fun e z => by
  rw [z, hH] at e
  cases e
 refine ⟨vs, k _ _ (ne gD) gD, wA.len, fun i v r a b => ?_⟩
 obtain ⟨j, e, g⟩ := wA.at_ i v r a b
 exact ⟨j, e, k _ _ (ne g) g⟩
theorem Jx7 {ns : List Int} {D S NM W H : Nat} {ys : List IV} {rs : List RH} {unit c : Int} {a3 a4 a8 a10 : Option IV} (hD : IsDu h D rs) (G : G4 unit rs) (hS : h[S]? = some (.lst ys)) (w : RowP h ys rs) (gN : h[NM]? = some (.lst (nms c))) (en : (rs.map fun r => r.1.name) = (List.range rs.length).map (nm c)) {N : ISt -> IH -> Prop} :
  WS (Jmr (k + 5) [some (.rol (ns.map .int)), some (.int (rs.length : Int)), some (.ref NM), a3, a4, some (.ref S), some (.ref W), some (.ref H), a8, some (.ref D), a10] h) N (fun v _ => v = .bl true) := by
 have hb := Jf
 obtain ⟨vs, gD, wD⟩ := id hD
 have vl := wD.len
 have c3 := fun (h : IH) => Ji7 (k := k + 4) (h := h) ns 3 (by decide)
 generalize ns.getD (Int.toNat 3) 0 = x3 at c3
 have a0 : atI (nms c) 0 = some (.str (nm c 0)) := Jc6 (n := 0) rfl
 have fin : ∀ h', Ex h h' -> WS (Jmm (k + 5) [some (.rol (ns.map .int)), some (.int (rs.length : Int)), some (.ref NM), a3, a4, some (.ref S), some (.ref W), some (.ref H), a8, some (.ref D), a10] h') N (fun v _ => v = .bl true) := fun h' x => by
  simp! [Jmm]
  refine WR.mono (Jq5 (k := k + 1) (hD.kp x.kp) G (x.get hS) (w.kp x.kp) (x.get gN) en) ?_
  rintro _ h2 ⟨rfl, _⟩
  rfl
 simp! [Jmr, decide_eq_true_eq, decide_eq_false_iff_not]
 refine ⟨fun hm => ?_, fun _ => fin h (.refl _)⟩
 have p0 : (0 : Int) < (rs.length : Int) := hm
 have q0 := Int.emod_nonneg x3 (b := (rs.length : Int)) (by omega)
 have q1 := Int.emod_lt_of_pos x3 p0
 obtain ⟨n, e3⟩ : ∃ n : Nat, x3 % (rs.length : Int) = n := ⟨(x3 % (rs.length : Int)).toNat, by omega⟩
 have hn : n < rs.length := by omega
 obtain ⟨j, ev, gj⟩ := wD.get (List.getElem?_eq_getElem hn)
 have a1 : atI vs (n : Int) = some (.ref j) := Jc6 ev
 generalize hσ : ([some (.rol (ns.map .int)), some (.int (rs.length : Int)), some (.ref NM), a3, a4, some (.ref S), some (.ref W), some (.ref H), a8, some (.ref D), a10] : ISt) = σ at fin ⊢
 have e1 : eDot (pg (k + 5)) "work" 1 (eVar 9) (Ja (eBin Jbj (Jy (Jq (k + 5)) [] (Ja (eVar 0) (Ja (eC (.int 3)) aNil))) (eVar 1)) aNil) σ h = .ok (.ref j) h := by
  subst hσ
  refine Jeh ?_
  rw [Jg2 (i := D) (h1 := h) rfl gD dlw (Jjn _)]
  simp! [c3, p0, e3, Jn8 gD a1]
 have e2 : eDot (pg (k + 5)) "held" 0 (eDot (pg (k + 5)) "work" 1 (eVar 9) (Ja (eBin Jbj (Jy (Jq (k + 5)) [] (Ja (eVar 0) (Ja (eC (.int 3)) aNil))) (eVar 1)) aNil)) aNil σ h = .ok (.ref h.length) (h ++ [.lst ((rs[n]).2.map tupH)]) := by
  refine Jeh ?_
  rw [Jg2 (i := j) (h1 := h) e1 gj flh (Jjj _)]
  simp! [Jof gj]
 rw [Jjf (i := h.length) e2 Ja2 Jfk]
 have lh := (G.f _ (List.getElem_mem hn)).ok.few
 subst hσ
 simp! [Jbl, grow gN, a0, Jfr, Ja2, Jl0, List.length_cons, List.length_nil, List.length_map]
 exact ⟨by omega, by omega, fin _ (.one _ _)⟩
theorem Jtm {ns : List Int} {unit c : Int} {dense : Bool} {m NM : Nat} (hu1 : 1 <= unit) (hu2 : unit <= 10 ^ 40) (hm : m <= 12) (gN : h[NM]? = some (.lst (nms c))) :
  ∃ r, Jkm (k + 8) [some (.rol (ns.map .int)), some (.int (m : Int)), some (.ref NM), some (.int unit), some (.bl dense), none, none, none, none, none, none] h = r /\ WS r (fun _ _ => False) (fun v _ => v = .bl true) := by
 have hb := Jf
 refine ⟨_, rfl, ?_⟩
 simp! [Jkm]
 have S := @Jxs (k + 5) h ns unit c dense m NM none none none none none none hu1 hu2 hm gN
 generalize Jbi (iRg Jc8 (Ja (eVar 1) aNil)) 1 [4, 2, 0, 3] (gNm 0) Jci (Jfu (k + 5 + 3)) [some (.rol (ns.map .int)), some (.int (m : Int)), some (.ref NM), some (.int unit), some (.bl dense), none, none, none, none, none, none] h = rc at S ⊢
 obtain ⟨h2, ev, ys, rs, gS, w, G, lr, en, k2⟩ := S
 rw [ev, Jd5]
 clear ev
 subst lr
 simp! [Jts]
 have gN2 := k2 _ _ gN
 generalize h.length = S at gS ⊢
 have Y := @Ju9 (k + 3) h2 S ys rs unit (some (.rol (ns.map .int))) (some (.int (rs.length : Int))) (some (.ref NM)) (some (.int unit)) (some (.bl dense)) none none none none none G gS w
 generalize Jbi (iAny (eVar 5)) 1 [] (gNm 0) Jci (Jfl (k + 3 + 5)) [some (.rol (ns.map .int)), some (.int (rs.length : Int)), some (.ref NM), some (.int unit), some (.bl dense), some (.ref S), none, none, none, none, none] h2 = rc at Y ⊢
 obtain ⟨h3, ev, vs, gv, wA, k3⟩ := Y
 rw [ev, Jd5]
 clear ev
 have gS3 := k3 _ _ gS
 have w3 := w.kp k3
 have gN3 := k3 _ _ gN2
 generalize h2.length = W at gv ⊢
 simp! [Jt6, Jua, Jsu, Jq1, gv]
 have x4 : Ex h3 (h3 ++ [L3.IO.lst vs]) := .one _ _
 have gH : (h3 ++ [L3.IO.lst vs])[h3.length]? = some (.lst vs) := Ja2
 generalize hh4 : h3 ++ [L3.IO.lst vs] = h4 at x4 gH ⊢
 have w4 := wA.kp x4.kp
 rw [Jqs, Jco]
 refine Jxc _ _ ?_
 rw [Jyx, Jyg, Jjv]
 refine WE.of ?_
 simp (implicitDefEqProofs := false) only [Jco, Jdu, Jb4, Jdp, Jib, Jb0, Jbx, Jb3, Jdj, Jdy, Jb2, Jdc, Jd0, Jc2, Jd, Jd5, Jqg, Jg6, Jhc, Jd1, Jhy, Jdh, Jil, Jis, Jbp, Jdo, Jbq, Jbz, Jar, Jb6, Jax, Jdn, Jc9, Jbw, Jby, Jhr, Jdm, Jdx, Jav, Jaz, Ji4, Jde, Jdw, Jdf, Jdd, Jds, Jb5, Jdq, Jdr, Jbr, Jh1, Jiu, Jiy, Jii, Jho, Jhe, Jc5, Jdk, Jdg, Jbv, Jdi, Jcv, Jhh, Jb1, Jc4, Jbn, Jbo, Jdt, Jda, Jdv, Jc7, Ja0, Krz, Ksz, Kvz, Ktz, Kuz, Jmo]
 have few := G.few
 refine WE.mono (Ju6 (k := k + 5) gH w4.w (by have := G.nd; rwa [List.map_map]) (by rw [List.length_map]; omega) G.gl) ?_ ?_
 ·rintro _ h5 ⟨rfl, hc, g, rfl⟩
  refine ⟨rfl, ?_⟩
  have x5 : Ex h4 (h4 ++ IO.ins "Duty" (dfs vs) :: g) := .cons _ _ _
  have d5 : IsDu (h4 ++ IO.ins "Duty" (dfs vs) :: g) h4.length rs := ⟨vs, Jdz, w4.kp x5.kp⟩
  generalize h4 ++ IO.ins "Duty" (dfs vs) :: g = h5 at x5 d5 ⊢
  generalize h4.length = D at d5 ⊢
  have x35 := x4.trans x5
  have l3 := x35.len
  simp! [Jls, Jpc (wA.kp x35.kp) (x5.get gH) (x35.get gv), Jmp]
  refine WR.mono (Jf5 (k := k + 7) G (x35.get gS3) (w3.kp x35.kp)) ?_
  rintro _ h6 ⟨rfl, x6⟩
  have x36 := x35.trans x6
  simp! [show ¬ (80 : Int) < Jll (rs.map (·.1)) by omega, decide_false, Jq8, Jtn, isI]
  refine WR.mono (Jq5 (k := k + 4) (d5.kp x6.kp) G (x36.get gS3) (w3.kp x36.kp) (x36.get gN3) en) ?_
  rintro _ h7 ⟨rfl, x7⟩
  have x37 := x36.trans x7
  have d7 := (d5.kp x6.kp).kp x7.kp
  have gH7 := x7.get (x6.get (x5.get gH))
  simp! [Jri]
  rw [Jjf (i := h3.length) (h1 := h7) rfl gH7 Jsm]
  simp! [Jim, gH7, Jrb]
  have kr : KpB h3.length h7 (h7.set h3.length (.lst vs.reverse)) := fun j o hj q => by rw [List.getElem?_set_ne (Ne.symm hj)]; exact q
  have gH8 : (h7.set h3.length (.lst vs.reverse))[h3.length]? = some (.lst vs.reverse) := List.getElem?_set_self (Jg7 gH7)
  have k8 : Kp h3 (h7.set h3.length (.lst vs.reverse)) := fun j o q => kr j o (by have := Jg7 q; omega) (x37.get q)
  have d8 := d7.kpb gH7 kr
  generalize h7.set h3.length (.lst vs.reverse) = h8 at gH8 k8 d8 ⊢
  have a13 : atI (nms c) 13 = some (.str (nm c 13)) := Jc6 (n := 13) rfl
  rw [Jjf (i := h3.length) (h1 := h8) rfl gH8 Jfk]
  simp! [Jbl, k8 _ _ gN3, a13]
  refine WR.mono (Jud (k := k + 3) (hs := []) (Ji6 c 13) (by decide) (by decide) (by decide) (fun h1 => Jqd _) fun h1 _ => WR.of_eq (Jmq _) ⟨rfl, .refl _⟩) ?_
  rintro _ _ ⟨rfl, g9, rfl⟩
  have x9 : Ex h8 (h8 ++ IO.ins "Work" (wfs (nm c 13) 1 1 1 0 []) :: g9) := .cons _ _ _
  have gH9 := x9.get gH8
  generalize h8 ++ IO.ins "Work" (wfs (nm c 13) 1 1 1 0 []) :: g9 = h9 at x9 gH9 ⊢
  have lv : vs.length = rs.length := wA.len
  simp! [Jfr, gH9, List.length_reverse]
  refine ⟨by omega, ?_⟩
  have ka : ∀ o', KpB h3.length h9 (h9.set h3.length o') := fun o' j o hj q => by rw [List.getElem?_set_ne (Ne.symm hj)]; exact q
  have kb : ∀ o', Kp h3 (h9.set h3.length o') := fun o' j o q => ka o' j o (by have := Jg7 q; omega) (x9.get (k8 _ _ q))
  exact Jx7 (k := k + 3) ((d8.kp x9.kp).kpb gH9 (ka _)) G (kb _ _ _ gS3) (w3.kp (kb _)) (kb _ _ _ gN3) en
 ·rintro n h5 ⟨hc, e, x5⟩
  refine ⟨"TooMany", [], e, ?_⟩
  rw [Jz2 xDT]
  have x35 := x4.trans x5
  simp only [Jlx, Jco, Jdu, Jb4, Jdp, Jib, Jb0, Jbx, Jb3, Jdj, Jdy, Jb2, Jdc, Jd0, Jc2, Jd, Jd5, Jqg, Jg6, Jhc, Jd1, Jhy, Jdh, Jil, Jis, Jbp, Jdo, Jbq, Jbz, Jar, Jb6, Jax, Jdn, Jc9, Jbw, Jby, Jhr, Jdm, Jdx, Jav, Jaz, Ji4, Jde, Jdw, Jdf, Jdd, Jds, Jb5, Jdq, Jdr, Jbr, Jh1, Jiu, Jiy, Jii, Jho, Jhe, Jc5, Jdk, Jdg, Jbv, Jdi, Jcv, Jhh, Jb1, Jc4, Jbn, Jbo, Jdt, Jda, Jdv, Jc7, Ja0, List.set_cons_succ, List.set_cons_zero, List.append_nil, List.cons_append, List.nil_append, exists_eq_left, exists_eq_left', IV.bl.injEq, IV.int.injEq, IV.ref.injEq, IV.str.injEq, IO.lst.injEq, IV.tup.injEq, Option.some.injEq, Bool.not_true, Bool.not_false, reduceCtorEq, eq_self, true_implies, false_implies, implies_true, and_true, true_and, and_false, false_and, Option.bind_some, Bool.true_eq_false, Bool.false_eq_true, Jcn, Jba, Jck, Jgj, Jcq, Jcm, Jbk, Jaj, Jaw, Jan, Jbu, Jcg, Jcl, Jfe, Jfo, Jgl, Jgh, Jgi, Ja8, Jbb, Jbc, Jxb e, Jy8, xTT, xNT, Jls, Jpc (wA.kp x35.kp) (x5.get gH) (x35.get gv), Jmp]
  refine WR.mono (Jf5 (k := k + 7) G (x35.get gS3) (w3.kp x35.kp)) ?_
  rintro _ h6 ⟨rfl, x6⟩
  simp! [hc, decide_true]
theorem Jwx (ns : List Int) (hl : ns.length <= 63) : ∃ h', Jp7 16 [.rol (ns.map IV.int)] [] = .ok (.bl true) h' := by
 suffices h : WR (Jp7 16 [.rol (ns.map IV.int)] []) fun v _ => v = .bl true by
  obtain ⟨v, h', e, rfl⟩ := h.eq
  exact ⟨h', e⟩
 have hb := Jf
 rw [Jz1]
 have c0 := fun (h : IH) => Ji7 (k := 14) (h := h) ns 0 (by decide)
 have c1 := fun (h : IH) => Ji7 (k := 14) (h := h) ns 1 (by decide)
 have c2 := fun (h : IH) => Ji7 (k := 14) (h := h) ns 2 (by decide)
 have c3 := fun (h : IH) => Ji7 (k := 14) (h := h) ns 3 (by decide)
 generalize ns.getD (Int.toNat 0) 0 = x0 at c0
 generalize ns.getD (Int.toNat 1) 0 = x1 at c1
 generalize ns.getD (Int.toNat 2) 0 = x2 at c2
 generalize ns.getD (Int.toNat 3) 0 = x3 at c3
 have t40 : (0 : Int) < 10 ^ 40 := by decide +kernel
 have tn : Int.toNat 40 = 40 := rfl
 have n14 := Jwl (k := 14) (h := []) x1 14 (by decide)
 have n14 : Jc1 15 [.int x1, .int 14] [] = _ := n14
 simp! [Jql, Juu, Js0, Juc, c0, c1, c2, c3, tn, t40, n14, List.length_nil, show (0 : Int) < 13 by decide, show (0 : Int) < 3 by decide]
 refine ⟨by decide, ?_⟩
 obtain ⟨m, em, hm⟩ : ∃ m : Nat, x0 % 13 = m /\ m <= 12 := ⟨(x0 % 13).toNat, by omega, by omega⟩
 rw [em]
 have u0 := Int.emod_nonneg x2 (b := 10 ^ 40) (by decide +kernel)
 have u1 := Int.emod_lt_of_pos x2 t40
 generalize hu : 1 + x2 % 10 ^ 40 = unit
 have hu1 : 1 <= unit := by omega
 have hu2 : unit <= 10 ^ 40 := by
  clear c0 c1 c2 c3 t40
  generalize (10 : Int) ^ 40 = y at *
  omega
 generalize hh1 : [L3.IO.lst ((List.range 14).map fun j => .str (nm x1 j))] = h1
 have gN : h1[0]? = some (.lst (nms x1)) := by rw [<- hh1]; rfl
 generalize decide (x3 % 3 = 1) = dense
 cases dense with
 | false =>
  simp! [Jqh]
  have R := @Jtm 7 h1 ns unit x1 false m 0 hu1 hu2 hm gN
  generalize Jkm (7 + 8) [some (.rol (ns.map .int)), some (.int (m : Int)), some (.ref 0), some (.int unit), some (.bl false), none, none, none, none, none, none] h1 = r at R ⊢
  obtain ⟨_, rfl, R⟩ := R
  exact R
 | true =>
  simp! [Jqh, show (0 : Int) < 3 by decide]
  rw [show 10 + (m : Int) % 3 = ((10 + m % 3 : Nat) : Int) by omega]
  have R := @Jtm 7 h1 ns unit x1 true (10 + m % 3) 0 hu1 hu2 (by omega) gN
  generalize Jkm (7 + 8) [some (.rol (ns.map .int)), some (.int ((10 + m % 3 : Nat) : Int)), some (.ref 0), some (.int unit), some (.bl true), none, none, none, none, none, none] h1 = r at R ⊢
  obtain ⟨_, rfl, R⟩ := R
  exact R
end
end LW
end
namespace LW
open PySem L2 L3 L4
section
variable {K : W.Frag} {h : Heap} {mg : Str -> Option Value} {a : Addr} {oc kV dc pm cd ct : Value} {od an : Option Addr} {sl : Array (Option Value)}
theorem Jqn : FnScope Jak.N Jak.ps (Jb Jak.st) := scOk.of (by decide +kernel)
theorem Jqj (X : K.In h) (G : h.Ns mainGlobals mg) (ha : W.nsIn K mainGlobals "is_whole" = some (some (.ref a))) (hl : K.lookup a = some ⟨oc, od, .func (W.fnOf "is_whole" "is_whole" (Jl Jak.st) (Jh Jak.st) (Jb Jak.st) .none kV dc pm an cd ct), sl⟩) (hc : W.codeIn K cd "is_whole" = true) (hk : W.keepIn K (.ref a) = true) : ∃ fa fd, mg "is_whole" = some (.ref fa) /\ DefOk K "is_whole" Jak fa fd :=
 ⟨a, _, W.mg_of X G ha, Jai (d := Jak) hl hc hk Jqn rfl (len1 (fun _ => rfl))⟩
theorem Jjs : FnScope Jm.N Jm.ps (Jb Jm.st) := scOk.of (by decide +kernel)
theorem Jjt (X : K.In h) (G : h.Ns mainGlobals mg) (ha : W.nsIn K mainGlobals "is_whole_from" = some (some (.ref a))) (hl : K.lookup a = some ⟨oc, od, .func (W.fnOf "is_whole_from" "is_whole_from" (Jl Jm.st) (Jh Jm.st) (Jb Jm.st) .none kV dc pm an cd ct), sl⟩) (hc : W.codeIn K cd "is_whole_from" = true) (hk : W.keepIn K (.ref a) = true) : ∃ fa fd, mg "is_whole_from" = some (.ref fa) /\ DefOk K "is_whole_from" Jm fa fd :=
 ⟨a, _, W.mg_of X G ha, Jai (d := Jm) hl hc hk Jjs rfl (len2 (fun _ _ => rfl))⟩
theorem Joy : FnScope Jac.N Jac.ps (Jb Jac.st) := scOk.of (by decide +kernel)
theorem Jnl (X : K.In h) (G : h.Ns mainGlobals mg) (ha : W.nsIn K mainGlobals "rounds_up" = some (some (.ref a))) (hl : K.lookup a = some ⟨oc, od, .func (W.fnOf "rounds_up" "rounds_up" (Jl Jac.st) (Jh Jac.st) (Jb Jac.st) .none kV dc pm an cd ct), sl⟩) (hc : W.codeIn K cd "rounds_up" = true) (hk : W.keepIn K (.ref a) = true) : ∃ fa fd, mg "rounds_up" = some (.ref fa) /\ DefOk K "rounds_up" Jac fa fd :=
 ⟨a, _, W.mg_of X G ha, Jai (d := Jac) hl hc hk Joy rfl (len2 (fun _ _ => rfl))⟩
theorem Jsk : FnScope Ja5.N Ja5.ps (Jb Ja5.st) := scOk.of (by decide +kernel)
theorem Jrn (X : K.In h) (G : h.Ns mainGlobals mg) (ha : W.nsIn K mainGlobals "is_name" = some (some (.ref a))) (hl : K.lookup a = some ⟨oc, od, .func (W.fnOf "is_name" "is_name" (Jl Ja5.st) (Jh Ja5.st) (Jb Ja5.st) .none kV dc pm an cd ct), sl⟩) (hc : W.codeIn K cd "is_name" = true) (hk : W.keepIn K (.ref a) = true) : ∃ fa fd, mg "is_name" = some (.ref fa) /\ DefOk K "is_name" Ja5 fa fd :=
 ⟨a, _, W.mg_of X G ha, Jai (d := Ja5) hl hc hk Jsk rfl (len1 (fun _ => rfl))⟩
theorem Jrq : FnScope Ja3.N Ja3.ps (Jb Ja3.st) := scOk.of (by decide +kernel)
theorem Jr4 (X : K.In h) (G : h.Ns mainGlobals mg) (ha : W.nsIn K mainGlobals "is_hold" = some (some (.ref a))) (hl : K.lookup a = some ⟨oc, od, .func (W.fnOf "is_hold" "is_hold" (Jl Ja3.st) (Jh Ja3.st) (Jb Ja3.st) .none kV dc pm an cd ct), sl⟩) (hc : W.codeIn K cd "is_hold" = true) (hk : W.keepIn K (.ref a) = true) : ∃ fa fd, mg "is_hold" = some (.ref fa) /\ DefOk K "is_hold" Ja3 fa fd :=
 ⟨a, _, W.mg_of X G ha, Jai (d := Ja3) hl hc hk Jrq rfl (len2 (fun _ _ => rfl))⟩
theorem Joc : FnScope Jah.N Jah.ps (Jb Jah.st) := scOk.of (by decide +kernel)
theorem Jni (X : K.In h) (G : h.Ns mainGlobals mg) (ha : W.nsIn K mainGlobals "lie_apart" = some (some (.ref a))) (hl : K.lookup a = some ⟨oc, od, .func (W.fnOf "lie_apart" "lie_apart" (Jl Jah.st) (Jh Jah.st) (Jb Jah.st) .none kV dc pm an cd ct), sl⟩) (hc : W.codeIn K cd "lie_apart" = true) (hk : W.keepIn K (.ref a) = true) : ∃ fa fd, mg "lie_apart" = some (.ref fa) /\ DefOk K "lie_apart" Jah fa fd :=
 ⟨a, _, W.mg_of X G ha, Jai (d := Jah) hl hc hk Joc rfl (len2 (fun _ _ => rfl))⟩
theorem Jr0 : FnScope Ja4.N Ja4.ps (Jb Ja4.st) := scOk.of (by decide +kernel)
theorem Jrs (X : K.In h) (G : h.Ns mainGlobals mg) (ha : W.nsIn K mainGlobals "lies_in" = some (some (.ref a))) (hl : K.lookup a = some ⟨oc, od, .func (W.fnOf "lies_in" "lies_in" (Jl Ja4.st) (Jh Ja4.st) (Jb Ja4.st) .none kV dc pm an cd ct), sl⟩) (hc : W.codeIn K cd "lies_in" = true) (hk : W.keepIn K (.ref a) = true) : ∃ fa fd, mg "lies_in" = some (.ref fa) /\ DefOk K "lies_in" Ja4 fa fd :=
 ⟨a, _, W.mg_of X G ha, Jai (d := Ja4) hl hc hk Jr0 rfl (len2 (fun _ _ => rfl))⟩
theorem Jkw : FnScope Jv.N Jv.ps (Jb Jv.st) := scOk.of (by decide +kernel)
theorem Jla (X : K.In h) (G : h.Ns mainGlobals mg) (ha : W.nsIn K mainGlobals "go_together" = some (some (.ref a))) (hl : K.lookup a = some ⟨oc, od, .func (W.fnOf "go_together" "go_together" (Jl Jv.st) (Jh Jv.st) (Jb Jv.st) .none kV dc pm an cd ct), sl⟩) (hc : W.codeIn K cd "go_together" = true) (hk : W.keepIn K (.ref a) = true) : ∃ fa fd, mg "go_together" = some (.ref fa) /\ DefOk K "go_together" Jv fa fd :=
 ⟨a, _, W.mg_of X G ha, Jai (d := Jv) hl hc hk Jkw rfl (len2 (fun _ _ => rfl))⟩
theorem Jhu : FnScope Ji.N Ji.ps (Jb Ji.st) := scOk.of (by decide +kernel)
theorem Jh6 (X : K.In h) (G : h.Ns mainGlobals mg) (ha : W.nsIn K mainGlobals "all_go_together" = some (some (.ref a))) (hl : K.lookup a = some ⟨oc, od, .func (W.fnOf "all_go_together" "all_go_together" (Jl Ji.st) (Jh Ji.st) (Jb Ji.st) .none kV dc pm an cd ct), sl⟩) (hc : W.codeIn K cd "all_go_together" = true) (hk : W.keepIn K (.ref a) = true) : ∃ fa fd, mg "all_go_together" = some (.ref fa) /\ DefOk K "all_go_together" Ji fa fd :=
 ⟨a, _, W.mg_of X G ha, Jai (d := Ji) hl hc hk Jhu rfl (len1 (fun _ => rfl))⟩
theorem Jo1 : FnScope J2.N J2.ps (Jb J2.st) := scOk.of (by decide +kernel)
theorem Jnd (X : K.In h) (G : h.Ns mainGlobals mg) (ha : W.nsIn K mainGlobals "own_holds" = some (some (.ref a))) (hl : K.lookup a = some ⟨oc, od, .func (W.fnOf "own_holds" "own_holds" (Jl J2.st) (Jh J2.st) (Jb J2.st) .none kV dc pm an cd ct), sl⟩) (hc : W.codeIn K cd "own_holds" = true) (hk : W.keepIn K (.ref a) = true) : ∃ fa fd, mg "own_holds" = some (.ref fa) /\ DefOk K "own_holds" J2 fa fd :=
 ⟨a, _, W.mg_of X G ha, Jai (d := J2) hl hc hk Jo1 rfl (len2 (fun _ _ => rfl))⟩
theorem Jrp : FnScope Ja1.N Ja1.ps (Jb Ja1.st) := scOk.of (by decide +kernel)
theorem Jsj (X : K.In h) (G : h.Ns mainGlobals mg) (ha : W.nsIn K mainGlobals "own_due" = some (some (.ref a))) (hl : K.lookup a = some ⟨oc, od, .func (W.fnOf "own_due" "own_due" (Jl Ja1.st) (Jh Ja1.st) (Jb Ja1.st) .none kV dc pm an cd ct), sl⟩) (hc : W.codeIn K cd "own_due" = true) (hk : W.keepIn K (.ref a) = true) : ∃ fa fd, mg "own_due" = some (.ref fa) /\ DefOk K "own_due" Ja1 fa fd :=
 ⟨a, _, W.mg_of X G ha, Jai (d := Ja1) hl hc hk Jrp rfl (len2 (fun _ _ => rfl))⟩
theorem Jnk : FnScope Js.N Js.ps (Jb Js.st) := scOk.of (by decide +kernel)
theorem Jo2 {C : Addr} {T : Addr} {ox : Value} {oy : Option Addr} {nx : Nat} {sx : Array (Option Value)} {tk1 : Tok} (ha : W.findIn K (.ref C) "__init__" = some (some (.ref a))) (hi : W.isFn K (.ref a) = true) (hl : K.lookup a = some ⟨oc, od, .func (W.fnOf "__init__" "Work.__init__" (Jl Js.st) (Jh Js.st) (Jb Js.st) (.ref T) kV dc pm an cd ct), sl⟩) (hc : W.codeIn K cd "Work.__init__" = true) (hk : W.keepIn K (.ref a) = true) (hd : K.lookup T = some ⟨ox, oy, .seq #[.none, .int 0 tk1, .none] nx, sx⟩) (hm : W.makesIn K C = true) (hq : W.keepIn K (.ref C) = true) : ∃ fa fd, Mk K C fa /\ DefOk K "__init__" Js fa fd :=
 ⟨a, _, ⟨hm, ha, hi, hq⟩, ⟨⟨_, ⟨oc, od, kV, dc, pm, an, cd, ct, sl, rfl, hl, hc⟩, hk⟩, Jnk, (by intro j hj; rcases upto3 j (show j <= 3 from hj) with rfl | rfl | rfl | rfl; exact ⟨[.none, .int 0 tk1, .none], fun s us Y hl => len4 (P := fun us => BindsTo s _ ⟨us, []⟩ (Js.ps.zip (us ++ [.none, .int 0 tk1, .none]))) (fun _ _ _ _ => .of_defaults rfl (Y T _ hd) rfl rfl rfl) us (show us.length = 4 by rw [List.length_append] at hl; exact Nat.add_right_cancel (m := 3) hl), rfl, [V.non, V.int 0, V.non], .cons rfl (.cons ⟨_, rfl⟩ (.cons rfl (.nil))), fun _ _ => ⟨_, _, rfl, rfl, ⟨_, _, rfl, rfl, ⟨_, _, rfl, rfl, rfl⟩⟩⟩⟩; exact ⟨[.int 0 tk1, .none], fun s us Y hl => len5 (P := fun us => BindsTo s _ ⟨us, []⟩ (Js.ps.zip (us ++ [.int 0 tk1, .none]))) (fun _ _ _ _ _ => .of_defaults rfl (Y T _ hd) rfl rfl rfl) us (show us.length = 5 by rw [List.length_append] at hl; exact Nat.add_right_cancel (m := 2) hl), rfl, [V.int 0, V.non], .cons ⟨_, rfl⟩ (.cons rfl (.nil)), fun _ _ => ⟨_, _, rfl, rfl, ⟨_, _, rfl, rfl, rfl⟩⟩⟩; exact ⟨[.none], fun s us Y hl => len6 (P := fun us => BindsTo s _ ⟨us, []⟩ (Js.ps.zip (us ++ [.none]))) (fun _ _ _ _ _ _ => .of_defaults rfl (Y T _ hd) rfl rfl rfl) us (show us.length = 6 by rw [List.length_append] at hl; exact Nat.add_right_cancel (m := 1) hl), rfl, [V.non], .cons rfl (.nil), fun _ _ => ⟨_, _, rfl, rfl, rfl⟩⟩; exact ⟨[], fun s us Y hl => len7 (P := fun us => BindsTo s _ ⟨us, []⟩ (Js.ps.zip (us ++ []))) (fun _ _ _ _ _ _ _ => .of_defaults rfl (Y T _ hd) rfl rfl rfl) us (show us.length = 7 by rw [List.length_append] at hl; exact Nat.add_right_cancel (m := 0) hl), rfl, [], .nil, fun _ _ => rfl⟩)⟩⟩
theorem Jnr : FnScope Jaa.N Jaa.ps (Jb Jaa.st) := scOk.of (by decide +kernel)
theorem Jo9 {C : Addr} (ha : W.findIn K (.ref C) "held" = some (some (.ref a))) (hi : W.isFn K (.ref a) = true) (hl : K.lookup a = some ⟨oc, od, .func (W.fnOf "held" "Work.held" (Jl Jaa.st) (Jh Jaa.st) (Jb Jaa.st) .none kV dc pm an cd ct), sl⟩) (hc : W.codeIn K cd "Work.held" = true) (hk : W.keepIn K (.ref a) = true) : ∃ fa fd, Meth K C "held" fa /\ DefOk K "held" Jaa fa fd :=
 ⟨a, _, ⟨ha, hi, hk⟩, Jai (d := Jaa) hl hc hk Jnr rfl (len1 (fun _ => rfl))⟩
theorem Jm1 : FnScope Jaf.N Jaf.ps (Jb Jaf.st) := scOk.of (by decide +kernel)
theorem Jpb (X : K.In h) (G : h.Ns mainGlobals mg) (ha : W.nsIn K mainGlobals "own_works" = some (some (.ref a))) (hl : K.lookup a = some ⟨oc, od, .func (W.fnOf "own_works" "own_works" (Jl Jaf.st) (Jh Jaf.st) (Jb Jaf.st) .none kV dc pm an cd ct), sl⟩) (hc : W.codeIn K cd "own_works" = true) (hk : W.keepIn K (.ref a) = true) : ∃ fa fd, mg "own_works" = some (.ref fa) /\ DefOk K "own_works" Jaf fa fd :=
 ⟨a, _, W.mg_of X G ha, Jai (d := Jaf) hl hc hk Jm1 rfl (len1 (fun _ => rfl))⟩
theorem Jqk : FnScope Jao.N Jao.ps (Jb Jao.st) := scOk.of (by decide +kernel)
theorem Jp4 (X : K.In h) (G : h.Ns mainGlobals mg) (ha : W.nsIn K mainGlobals "crowd_of" = some (some (.ref a))) (hl : K.lookup a = some ⟨oc, od, .func (W.fnOf "crowd_of" "crowd_of" (Jl Jao.st) (Jh Jao.st) (Jb Jao.st) .none kV dc pm an cd ct), sl⟩) (hc : W.codeIn K cd "crowd_of" = true) (hk : W.keepIn K (.ref a) = true) : ∃ fa fd, mg "crowd_of" = some (.ref fa) /\ DefOk K "crowd_of" Jao fa fd :=
 ⟨a, _, W.mg_of X G ha, Jai (d := Jao) hl hc hk Jqk rfl (len1 (fun _ => rfl))⟩
theorem Jng : FnScope Jab.N Jab.ps (Jb Jab.st) := scOk.of (by decide +kernel)
theorem Jna {C : Addr} (ha : W.findIn K (.ref C) "__init__" = some (some (.ref a))) (hi : W.isFn K (.ref a) = true) (hl : K.lookup a = some ⟨oc, od, .func (W.fnOf "__init__" "Duty.__init__" (Jl Jab.st) (Jh Jab.st) (Jb Jab.st) .none kV dc pm an cd ct), sl⟩) (hc : W.codeIn K cd "Duty.__init__" = true) (hk : W.keepIn K (.ref a) = true) (hm : W.makesIn K C = true) (hq : W.keepIn K (.ref C) = true) : ∃ fa fd, Mk K C fa /\ DefOk K "__init__" Jab fa fd :=
 ⟨a, _, ⟨hm, ha, hi, hq⟩, Jai (d := Jab) hl hc hk Jng rfl (len2 (fun _ _ => rfl))⟩
theorem Jnz : FnScope Jag.N Jag.ps (Jb Jag.st) := scOk.of (by decide +kernel)
theorem Jnj {C : Addr} (ha : W.findIn K (.ref C) "size" = some (some (.ref a))) (hi : W.isFn K (.ref a) = true) (hl : K.lookup a = some ⟨oc, od, .func (W.fnOf "size" "Duty.size" (Jl Jag.st) (Jh Jag.st) (Jb Jag.st) .none kV dc pm an cd ct), sl⟩) (hc : W.codeIn K cd "Duty.size" = true) (hk : W.keepIn K (.ref a) = true) : ∃ fa fd, Meth K C "size" fa /\ DefOk K "size" Jag fa fd :=
 ⟨a, _, ⟨ha, hi, hk⟩, Jai (d := Jag) hl hc hk Jnz rfl (len1 (fun _ => rfl))⟩
theorem Jnw : FnScope J7.N J7.ps (Jb J7.st) := scOk.of (by decide +kernel)
theorem Jpo {C : Addr} (ha : W.findIn K (.ref C) "work" = some (some (.ref a))) (hi : W.isFn K (.ref a) = true) (hl : K.lookup a = some ⟨oc, od, .func (W.fnOf "work" "Duty.work" (Jl J7.st) (Jh J7.st) (Jb J7.st) .none kV dc pm an cd ct), sl⟩) (hc : W.codeIn K cd "Duty.work" = true) (hk : W.keepIn K (.ref a) = true) : ∃ fa fd, Meth K C "work" fa /\ DefOk K "work" J7 fa fd :=
 ⟨a, _, ⟨ha, hi, hk⟩, Jai (d := J7) hl hc hk Jnw rfl (len2 (fun _ _ => rfl))⟩
theorem Ji9 : FnScope Jj.N Jj.ps (Jb Jj.st) := scOk.of (by decide +kernel)
theorem Jjb {C : Addr} (ha : W.findIn K (.ref C) "number_of" = some (some (.ref a))) (hi : W.isFn K (.ref a) = true) (hl : K.lookup a = some ⟨oc, od, .func (W.fnOf "number_of" "Duty.number_of" (Jl Jj.st) (Jh Jj.st) (Jb Jj.st) .none kV dc pm an cd ct), sl⟩) (hc : W.codeIn K cd "Duty.number_of" = true) (hk : W.keepIn K (.ref a) = true) : ∃ fa fd, Meth K C "number_of" fa /\ DefOk K "number_of" Jj fa fd :=
 ⟨a, _, ⟨ha, hi, hk⟩, Jai (d := Jj) hl hc hk Ji9 rfl (len2 (fun _ _ => rfl))⟩
theorem Jmd : FnScope Jw.N Jw.ps (Jb Jw.st) := scOk.of (by decide +kernel)
theorem Jmg {C : Addr} (ha : W.findIn K (.ref C) "crowd" = some (some (.ref a))) (hi : W.isFn K (.ref a) = true) (hl : K.lookup a = some ⟨oc, od, .func (W.fnOf "crowd" "Duty.crowd" (Jl Jw.st) (Jh Jw.st) (Jb Jw.st) .none kV dc pm an cd ct), sl⟩) (hc : W.codeIn K cd "Duty.crowd" = true) (hk : W.keepIn K (.ref a) = true) : ∃ fa fd, Meth K C "crowd" fa /\ DefOk K "crowd" Jw fa fd :=
 ⟨a, _, ⟨ha, hi, hk⟩, Jai (d := Jw) hl hc hk Jmd rfl (len1 (fun _ => rfl))⟩
theorem Jk2 : FnScope Jp.N Jp.ps (Jb Jp.st) := scOk.of (by decide +kernel)
theorem Jk1 (X : K.In h) (G : h.Ns mainGlobals mg) (ha : W.nsIn K mainGlobals "_law_cell_at" = some (some (.ref a))) (hl : K.lookup a = some ⟨oc, od, .func (W.fnOf "_law_cell_at" "_law_cell_at" (Jl Jp.st) (Jh Jp.st) (Jb Jp.st) .none kV dc pm an cd ct), sl⟩) (hc : W.codeIn K cd "_law_cell_at" = true) (hk : W.keepIn K (.ref a) = true) : ∃ fa fd, mg "_law_cell_at" = some (.ref fa) /\ DefOk K "_law_cell_at" Jp fa fd :=
 ⟨a, _, W.mg_of X G ha, Jai (d := Jp) hl hc hk Jk2 rfl (len2 (fun _ _ => rfl))⟩
theorem Jlt : FnScope Jx.N Jx.ps (Jb Jx.st) := scOk.of (by decide +kernel)
theorem Jmj (X : K.In h) (G : h.Ns mainGlobals mg) (ha : W.nsIn K mainGlobals "_law_number" = some (some (.ref a))) (hl : K.lookup a = some ⟨oc, od, .func (W.fnOf "_law_number" "_law_number" (Jl Jx.st) (Jh Jx.st) (Jb Jx.st) .none kV dc pm an cd ct), sl⟩) (hc : W.codeIn K cd "_law_number" = true) (hk : W.keepIn K (.ref a) = true) : ∃ fa fd, mg "_law_number" = some (.ref fa) /\ DefOk K "_law_number" Jx fa fd :=
 ⟨a, _, W.mg_of X G ha, Jai (d := Jx) hl hc hk Jlt rfl (len2 (fun _ _ => rfl))⟩
theorem Jmz : FnScope Jae.N Jae.ps (Jb Jae.st) := scOk.of (by decide +kernel)
theorem Jns (X : K.In h) (G : h.Ns mainGlobals mg) (ha : W.nsIn K mainGlobals "_law_names" = some (some (.ref a))) (hl : K.lookup a = some ⟨oc, od, .func (W.fnOf "_law_names" "_law_names" (Jl Jae.st) (Jh Jae.st) (Jb Jae.st) .none kV dc pm an cd ct), sl⟩) (hc : W.codeIn K cd "_law_names" = true) (hk : W.keepIn K (.ref a) = true) : ∃ fa fd, mg "_law_names" = some (.ref fa) /\ DefOk K "_law_names" Jae fa fd :=
 ⟨a, _, W.mg_of X G ha, Jai (d := Jae) hl hc hk Jmz rfl (len2 (fun _ _ => rfl))⟩
theorem Jmn : FnScope Jz.N Jz.ps (Jb Jz.st) := scOk.of (by decide +kernel)
theorem Jms (X : K.In h) (G : h.Ns mainGlobals mg) (ha : W.nsIn K mainGlobals "_law_stream" = some (some (.ref a))) (hl : K.lookup a = some ⟨oc, od, .func (W.fnOf "_law_stream" "_law_stream" (Jl Jz.st) (Jh Jz.st) (Jb Jz.st) .none kV dc pm an cd ct), sl⟩) (hc : W.codeIn K cd "_law_stream" = true) (hk : W.keepIn K (.ref a) = true) : ∃ fa fd, mg "_law_stream" = some (.ref fa) /\ DefOk K "_law_stream" Jz fa fd :=
 ⟨a, _, W.mg_of X G ha, Jai (d := Jz) hl hc hk Jmn rfl (len2 (fun _ _ => rfl))⟩
theorem Jo5 : FnScope Jad.N Jad.ps (Jb Jad.st) := scOk.of (by decide +kernel)
theorem Jn2 (X : K.In h) (G : h.Ns mainGlobals mg) (ha : W.nsIn K mainGlobals "_law_draws" = some (some (.ref a))) (hl : K.lookup a = some ⟨oc, od, .func (W.fnOf "_law_draws" "_law_draws" (Jl Jad.st) (Jh Jad.st) (Jb Jad.st) .none kV dc pm an cd ct), sl⟩) (hc : W.codeIn K cd "_law_draws" = true) (hk : W.keepIn K (.ref a) = true) : ∃ fa fd, mg "_law_draws" = some (.ref fa) /\ DefOk K "_law_draws" Jad fa fd :=
 ⟨a, _, W.mg_of X G ha, Jai (d := Jad) hl hc hk Jo5 rfl (len3 (fun _ _ _ => rfl))⟩
theorem Jpk : FnScope J6.N J6.ps (Jb J6.st) := scOk.of (by decide +kernel)
theorem Jnx (X : K.In h) (G : h.Ns mainGlobals mg) (ha : W.nsIn K mainGlobals "_law_parts" = some (some (.ref a))) (hl : K.lookup a = some ⟨oc, od, .func (W.fnOf "_law_parts" "_law_parts" (Jl J6.st) (Jh J6.st) (Jb J6.st) .none kV dc pm an cd ct), sl⟩) (hc : W.codeIn K cd "_law_parts" = true) (hk : W.keepIn K (.ref a) = true) : ∃ fa fd, mg "_law_parts" = some (.ref fa) /\ DefOk K "_law_parts" J6 fa fd :=
 ⟨a, _, W.mg_of X G ha, Jai (d := J6) hl hc hk Jpk rfl (len6 (fun _ _ _ _ _ _ => rfl))⟩
theorem Jne : FnScope J9.N J9.ps (Jb J9.st) := scOk.of (by decide +kernel)
theorem Jow (X : K.In h) (G : h.Ns mainGlobals mg) (ha : W.nsIn K mainGlobals "_law_crowd" = some (some (.ref a))) (hl : K.lookup a = some ⟨oc, od, .func (W.fnOf "_law_crowd" "_law_crowd" (Jl J9.st) (Jh J9.st) (Jb J9.st) .none kV dc pm an cd ct), sl⟩) (hc : W.codeIn K cd "_law_crowd" = true) (hk : W.keepIn K (.ref a) = true) : ∃ fa fd, mg "_law_crowd" = some (.ref fa) /\ DefOk K "_law_crowd" J9 fa fd :=
 ⟨a, _, W.mg_of X G ha, Jai (d := J9) hl hc hk Jne rfl (len1 (fun _ => rfl))⟩
theorem Jpz : FnScope Jal.N Jal.ps (Jb Jal.st) := scOk.of (by decide +kernel)
theorem Jp3 (X : K.In h) (G : h.Ns mainGlobals mg) (ha : W.nsIn K mainGlobals "_law_same" = some (some (.ref a))) (hl : K.lookup a = some ⟨oc, od, .func (W.fnOf "_law_same" "_law_same" (Jl Jal.st) (Jh Jal.st) (Jb Jal.st) .none kV dc pm an cd ct), sl⟩) (hc : W.codeIn K cd "_law_same" = true) (hk : W.keepIn K (.ref a) = true) : ∃ fa fd, mg "_law_same" = some (.ref fa) /\ DefOk K "_law_same" Jal fa fd :=
 ⟨a, _, W.mg_of X G ha, Jai (d := Jal) hl hc hk Jpz rfl (len2 (fun _ _ => rfl))⟩
theorem Jk6 : FnScope Jr.N Jr.ps (Jb Jr.st) := scOk.of (by decide +kernel)
theorem Jky (X : K.In h) (G : h.Ns mainGlobals mg) (ha : W.nsIn K mainGlobals "_law_unnamed" = some (some (.ref a))) (hl : K.lookup a = some ⟨oc, od, .func (W.fnOf "_law_unnamed" "_law_unnamed" (Jl Jr.st) (Jh Jr.st) (Jb Jr.st) .none kV dc pm an cd ct), sl⟩) (hc : W.codeIn K cd "_law_unnamed" = true) (hk : W.keepIn K (.ref a) = true) : ∃ fa fd, mg "_law_unnamed" = some (.ref fa) /\ DefOk K "_law_unnamed" Jr fa fd :=
 ⟨a, _, W.mg_of X G ha, Jai (d := Jr) hl hc hk Jk6 rfl (len2 (fun _ _ => rfl))⟩
theorem Jo7 : FnScope J4.N J4.ps (Jb J4.st) := scOk.of (by decide +kernel)
theorem Jn9 (X : K.In h) (G : h.Ns mainGlobals mg) (ha : W.nsIn K mainGlobals "_law_tells" = some (some (.ref a))) (hl : K.lookup a = some ⟨oc, od, .func (W.fnOf "_law_tells" "_law_tells" (Jl J4.st) (Jh J4.st) (Jb J4.st) .none kV dc pm an cd ct), sl⟩) (hc : W.codeIn K cd "_law_tells" = true) (hk : W.keepIn K (.ref a) = true) : ∃ fa fd, mg "_law_tells" = some (.ref fa) /\ DefOk K "_law_tells" J4 fa fd :=
 ⟨a, _, W.mg_of X G ha, Jai (d := J4) hl hc hk Jo7 rfl (len3 (fun _ _ _ => rfl))⟩
theorem J1x : FnScope Jkp.N Jkp.ps (Jb Jkp.st) := scOk.of (by decide +kernel)
theorem J1v (X : K.In h) (G : h.Ns mainGlobals mg) (ha : W.nsIn K mainGlobals "law" = some (some (.ref a))) (hl : K.lookup a = some ⟨oc, od, .func (W.fnOf "law" "law" (Jl Jkp.st) (Jh Jkp.st) (Jb Jkp.st) .none kV dc pm an cd ct), sl⟩) (hc : W.codeIn K cd "law" = true) (hk : W.keepIn K (.ref a) = true) : ∃ fa fd, mg "law" = some (.ref fa) /\ DefOk K "law" Jkp fa fd /\ ∀ (s : Shared) (v : Value), BindsTo s fd ⟨[v], []⟩ [("_law_script", v)] :=
 ⟨a, _, W.mg_of X G ha, Jai (d := Jkp) hl hc hk J1x rfl (len1 (fun _ => rfl)), fun s v => .of_eq rfl⟩
theorem Jra {C : Addr} (pg : W.plainGet K C Str.empty = true) (hd : W.hasDictIn K C = true) (po : W.plainOver K C = true) (sa : W.findIn K (.ref C) "__setattr__" = some (some (.builtin "object.__setattr__"))) (h1 : W.findIn K (.ref C) "__class__" = some (some (.builtin "object.__class__"))) (h2 : W.specialIn K (.builtin "object.__class__") "__get__" = some (some (.builtin "getset_descriptor.__get__"))) (h3 : W.takesIn K (.builtin "object.__class__") = some true) (h4 : W.mroIn K C (.type "object") = some true) (n0 : W.findIn K (.ref C) "append" = some none) (n1 : W.findIn K (.ref C) "due" = some none) (n2 : W.findIn K (.ref C) "gap" = some none) (n3 : W.findIn K (.ref C) "hold_tuples" = some none) (n4 : W.findIn K (.ref C) "late" = some none) (n5 : W.findIn K (.ref C) "length" = some none) (n6 : W.findIn K (.ref C) "name" = some none) (n7 : W.findIn K (.ref C) "reverse" = some none) (n8 : W.findIn K (.ref C) "upper" = some none) (n9 : W.findIn K (.ref C) "works" = some none) : ClsI K C /\ All (fun f => Jh5 K C f) T.flds :=
 ⟨⟨⟨pg, hd, po, sa⟩, h1, h2, h3, h4⟩, .cons n0 (.cons n1 (.cons n2 (.cons n3 (.cons n4 (.cons n5 (.cons n6 (.cons n7 (.cons n8 (.cons n9 (.nil))))))))))⟩
theorem Jq2 {C : Addr} (ga : W.findIn K (.ref C) "__getattribute__" = some (some (.builtin "BaseException.__getattribute__"))) (mb : W.mroIn K C (.type "BaseException") = some true) (gn : W.findIn K (.ref C) "__getattr__" = some none) (ca : W.findIn K (.ref C) "__class__" = some (some (.builtin "object.__class__"))) (mo : W.mroIn K C (.type "object") = some true) (hd : W.hasDictIn K C = true) : ExI K C := ⟨ga, mb, gn, ca, mo, hd⟩
theorem fin {prog : Program} {w : World} {fa : Addr} (X : K.In h) (G : h.Ns mainGlobals mg) (hfa : mg "law" = some (.ref fa)) {C_Work : Addr} {C_Duty : Addr} {C_BadWork : Addr} {C_BadDuty : Addr} {C_TooMany : Addr} {C_NoName : Addr} {C_DutyError : Addr} {tk_MOST_LETTERS : Tok} {tk_MOST_HOLDS : Tok} {tk_THING : Tok} {tk_START : Tok} {tk_END : Tok} {tk_MOST_WORKS : Tok} {tk_MOST_CROWD : Tok}
  (aX_BadWork : W.nsIn K mainGlobals "BadWork" = some (some (.ref C_BadWork)))
  (aX_BadDuty : W.nsIn K mainGlobals "BadDuty" = some (some (.ref C_BadDuty)))
  (aX_TooMany : W.nsIn K mainGlobals "TooMany" = some (some (.ref C_TooMany)))
  (aX_NoName : W.nsIn K mainGlobals "NoName" = some (some (.ref C_NoName)))
  (aX_DutyError : W.nsIn K mainGlobals "DutyError" = some (some (.ref C_DutyError)))
  (xc_BadWork : W.excIn K C_BadWork [.type "ValueError", .type "Exception", .type "BaseException", .type "object"] "ValueError.__new__" = true)
  (xc_BadDuty : W.excIn K C_BadDuty [.type "ValueError", .type "Exception", .type "BaseException", .type "object"] "ValueError.__new__" = true)
  (xc_TooMany : W.excIn K C_TooMany [.type "ValueError", .type "Exception", .type "BaseException", .type "object"] "ValueError.__new__" = true)
  (xc_NoName : W.excIn K C_NoName [.type "ValueError", .type "Exception", .type "BaseException", .type "object"] "ValueError.__new__" = true)
  (ei_BadWork : ExI K C_BadWork)
  (ei_BadDuty : ExI K C_BadDuty)
  (ei_TooMany : ExI K C_TooMany)
  (ei_NoName : ExI K C_NoName)
  (kx_DutyError_BadWork : W.kitOne K (.ref C_BadWork) (.ref C_DutyError) = some true)
  (kz_DutyError_BadWork : W.exmOne K (.ref C_BadWork) (.ref C_DutyError) = some true)
  (kx_DutyError_BadDuty : W.kitOne K (.ref C_BadDuty) (.ref C_DutyError) = some true)
  (kz_DutyError_BadDuty : W.exmOne K (.ref C_BadDuty) (.ref C_DutyError) = some true)
  (kx_DutyError_TooMany : W.kitOne K (.ref C_TooMany) (.ref C_DutyError) = some true)
  (kz_DutyError_TooMany : W.exmOne K (.ref C_TooMany) (.ref C_DutyError) = some true)
  (kx_DutyError_NoName : W.kitOne K (.ref C_NoName) (.ref C_DutyError) = some true)
  (kz_DutyError_NoName : W.exmOne K (.ref C_NoName) (.ref C_DutyError) = some true)
  (kx_NoName_BadWork : W.kitOne K (.ref C_BadWork) (.ref C_NoName) = some false)
  (kz_NoName_BadWork : W.exmOne K (.ref C_BadWork) (.ref C_NoName) = some false)
  (kx_NoName_BadDuty : W.kitOne K (.ref C_BadDuty) (.ref C_NoName) = some false)
  (kz_NoName_BadDuty : W.exmOne K (.ref C_BadDuty) (.ref C_NoName) = some false)
  (kx_NoName_TooMany : W.kitOne K (.ref C_TooMany) (.ref C_NoName) = some false)
  (kz_NoName_TooMany : W.exmOne K (.ref C_TooMany) (.ref C_NoName) = some false)
  (kx_NoName_NoName : W.kitOne K (.ref C_NoName) (.ref C_NoName) = some true)
  (kz_NoName_NoName : W.exmOne K (.ref C_NoName) (.ref C_NoName) = some true)
  (kx_TooMany_BadWork : W.kitOne K (.ref C_BadWork) (.ref C_TooMany) = some false)
  (kz_TooMany_BadWork : W.exmOne K (.ref C_BadWork) (.ref C_TooMany) = some false)
  (kx_TooMany_BadDuty : W.kitOne K (.ref C_BadDuty) (.ref C_TooMany) = some false)
  (kz_TooMany_BadDuty : W.exmOne K (.ref C_BadDuty) (.ref C_TooMany) = some false)
  (kx_TooMany_TooMany : W.kitOne K (.ref C_TooMany) (.ref C_TooMany) = some true)
  (kz_TooMany_TooMany : W.exmOne K (.ref C_TooMany) (.ref C_TooMany) = some true)
  (kx_TooMany_NoName : W.kitOne K (.ref C_NoName) (.ref C_TooMany) = some false)
  (kz_TooMany_NoName : W.exmOne K (.ref C_NoName) (.ref C_TooMany) = some false)
  (aC_Work : W.nsIn K mainGlobals "Work" = some (some (.ref C_Work)))
  (aC_Duty : W.nsIn K mainGlobals "Duty" = some (some (.ref C_Duty)))
  (f_is_whole : ∃ fa fd, mg "is_whole" = some (.ref fa) /\ DefOk K "is_whole" Jak fa fd)
  (f_is_whole_from : ∃ fa fd, mg "is_whole_from" = some (.ref fa) /\ DefOk K "is_whole_from" Jm fa fd)
  (f_rounds_up : ∃ fa fd, mg "rounds_up" = some (.ref fa) /\ DefOk K "rounds_up" Jac fa fd)
  (f_is_name : ∃ fa fd, mg "is_name" = some (.ref fa) /\ DefOk K "is_name" Ja5 fa fd)
  (f_is_hold : ∃ fa fd, mg "is_hold" = some (.ref fa) /\ DefOk K "is_hold" Ja3 fa fd)
  (f_lie_apart : ∃ fa fd, mg "lie_apart" = some (.ref fa) /\ DefOk K "lie_apart" Jah fa fd)
  (f_lies_in : ∃ fa fd, mg "lies_in" = some (.ref fa) /\ DefOk K "lies_in" Ja4 fa fd)
  (f_go_together : ∃ fa fd, mg "go_together" = some (.ref fa) /\ DefOk K "go_together" Jv fa fd)
  (f_all_go_together : ∃ fa fd, mg "all_go_together" = some (.ref fa) /\ DefOk K "all_go_together" Ji fa fd)
  (f_own_holds : ∃ fa fd, mg "own_holds" = some (.ref fa) /\ DefOk K "own_holds" J2 fa fd)
  (f_own_due : ∃ fa fd, mg "own_due" = some (.ref fa) /\ DefOk K "own_due" Ja1 fa fd)
  (f_own_works : ∃ fa fd, mg "own_works" = some (.ref fa) /\ DefOk K "own_works" Jaf fa fd)
  (f_crowd_of : ∃ fa fd, mg "crowd_of" = some (.ref fa) /\ DefOk K "crowd_of" Jao fa fd)
  (f_law_cell_at : ∃ fa fd, mg "_law_cell_at" = some (.ref fa) /\ DefOk K "_law_cell_at" Jp fa fd)
  (f_law_number : ∃ fa fd, mg "_law_number" = some (.ref fa) /\ DefOk K "_law_number" Jx fa fd)
  (f_law_names : ∃ fa fd, mg "_law_names" = some (.ref fa) /\ DefOk K "_law_names" Jae fa fd)
  (f_law_stream : ∃ fa fd, mg "_law_stream" = some (.ref fa) /\ DefOk K "_law_stream" Jz fa fd)
  (f_law_draws : ∃ fa fd, mg "_law_draws" = some (.ref fa) /\ DefOk K "_law_draws" Jad fa fd)
  (f_law_parts : ∃ fa fd, mg "_law_parts" = some (.ref fa) /\ DefOk K "_law_parts" J6 fa fd)
  (f_law_crowd : ∃ fa fd, mg "_law_crowd" = some (.ref fa) /\ DefOk K "_law_crowd" J9 fa fd)
  (f_law_same : ∃ fa fd, mg "_law_same" = some (.ref fa) /\ DefOk K "_law_same" Jal fa fd)
  (f_law_unnamed : ∃ fa fd, mg "_law_unnamed" = some (.ref fa) /\ DefOk K "_law_unnamed" Jr fa fd)
  (f_law_tells : ∃ fa fd, mg "_law_tells" = some (.ref fa) /\ DefOk K "_law_tells" J4 fa fd)
  (f_law : ∃ fa fd, mg "law" = some (.ref fa) /\ DefOk K "law" Jkp fa fd /\ ∀ (s : Shared) (v : Value), BindsTo s fd ⟨[v], []⟩ [("_law_script", v)])
  (i_Work : ∃ fa fd, Mk K C_Work fa /\ DefOk K "__init__" Js fa fd)
  (m_Work_held : ∃ fa fd, Meth K C_Work "held" fa /\ DefOk K "held" Jaa fa fd)
  (c_Work : ClsI K C_Work /\ All (fun f => Jh5 K C_Work f) T.flds)
  (i_Duty : ∃ fa fd, Mk K C_Duty fa /\ DefOk K "__init__" Jab fa fd)
  (m_Duty_size : ∃ fa fd, Meth K C_Duty "size" fa /\ DefOk K "size" Jag fa fd)
  (m_Duty_work : ∃ fa fd, Meth K C_Duty "work" fa /\ DefOk K "work" J7 fa fd)
  (m_Duty_number_of : ∃ fa fd, Meth K C_Duty "number_of" fa /\ DefOk K "number_of" Jj fa fd)
  (m_Duty_crowd : ∃ fa fd, Meth K C_Duty "crowd" fa /\ DefOk K "crowd" Jw fa fd)
  (c_Duty : ClsI K C_Duty /\ All (fun f => Jh5 K C_Duty f) T.flds)
  (g_MOST_LETTERS : W.nsIn K mainGlobals "MOST_LETTERS" = some (some (.int 8 tk_MOST_LETTERS)))
  (g_MOST_HOLDS : W.nsIn K mainGlobals "MOST_HOLDS" = some (some (.int 6 tk_MOST_HOLDS)))
  (g_THING : W.nsIn K mainGlobals "THING" = some (some (.int 0 tk_THING)))
  (g_START : W.nsIn K mainGlobals "START" = some (some (.int 1 tk_START)))
  (g_END : W.nsIn K mainGlobals "END" = some (some (.int 2 tk_END)))
  (g_MOST_WORKS : W.nsIn K mainGlobals "MOST_WORKS" = some (some (.int 12 tk_MOST_WORKS)))
  (g_MOST_CROWD : W.nsIn K mainGlobals "MOST_CROWD" = some (some (.int 80 tk_MOST_CROWD)))
  (k_Work_NoneType : W.kitOne K (.type "NoneType") (.ref C_Work) = some false)
  (k_Work_bool : W.kitOne K (.type "bool") (.ref C_Work) = some false)
  (k_Work_int : W.kitOne K (.type "int") (.ref C_Work) = some false)
  (k_Work_str : W.kitOne K (.type "str") (.ref C_Work) = some false)
  (k_Work_list : W.kitOne K (.type "list") (.ref C_Work) = some false)
  (k_Work_tuple : W.kitOne K (.type "tuple") (.ref C_Work) = some false)
  (k_Work_dict : W.kitOne K (.type "dict") (.ref C_Work) = some false)
  (k_Work_Work : W.kitOne K (.ref C_Work) (.ref C_Work) = some (memS "Work" ["Work"]))
  (k_Work_Duty : W.kitOne K (.ref C_Duty) (.ref C_Work) = some (memS "Duty" ["Work"]))
  (k_Duty_NoneType : W.kitOne K (.type "NoneType") (.ref C_Duty) = some false)
  (k_Duty_bool : W.kitOne K (.type "bool") (.ref C_Duty) = some false)
  (k_Duty_int : W.kitOne K (.type "int") (.ref C_Duty) = some false)
  (k_Duty_str : W.kitOne K (.type "str") (.ref C_Duty) = some false)
  (k_Duty_list : W.kitOne K (.type "list") (.ref C_Duty) = some false)
  (k_Duty_tuple : W.kitOne K (.type "tuple") (.ref C_Duty) = some false)
  (k_Duty_dict : W.kitOne K (.type "dict") (.ref C_Duty) = some false)
  (k_Duty_Work : W.kitOne K (.ref C_Work) (.ref C_Duty) = some (memS "Work" ["Duty"]))
  (k_Duty_Duty : W.kitOne K (.ref C_Duty) (.ref C_Duty) = some (memS "Duty" ["Duty"]))
  (z_all : W.nsIn K mainGlobals "all" = some none)
  (z_bool : W.nsIn K mainGlobals "bool" = some none)
  (z_enumerate : W.nsIn K mainGlobals "enumerate" = some none)
  (z_int : W.nsIn K mainGlobals "int" = some none)
  (z_isinstance : W.nsIn K mainGlobals "isinstance" = some none)
  (z_len : W.nsIn K mainGlobals "len" = some none)
  (z_list : W.nsIn K mainGlobals "list" = some none)
  (z_max : W.nsIn K mainGlobals "max" = some none)
  (z_range : W.nsIn K mainGlobals "range" = some none)
  (z_set : W.nsIn K mainGlobals "set" = some none)
  (z_str : W.nsIn K mainGlobals "str" = some none)
  (z_sum : W.nsIn K mainGlobals "sum" = some none)
  (z_tuple : W.nsIn K mainGlobals "tuple" = some none)
  : ∃ fd : FuncData, (∀ (s : Shared) (v : Value), BindsTo s fd ⟨[v], []⟩ [("_law_script", v)]) /\ ∀ base : Heap, K.In base -> base.Ns mainGlobals mg -> FnOk prog w K mg base (CXI prog w) 64 fa fd ["_law_script"] (Jrw K "_law_script" (Jp7 16)) := by
 obtain ⟨fa', fd, hm, ok, hb⟩ := f_law
 have e := hfa.symm.trans hm
 cases e
 have O : TabOk (ceOf [("Work", C_Work), ("Duty", C_Duty)]) T K mg := J0m _
  (.cons (f_is_whole) (.cons (f_is_whole_from) (.cons (f_rounds_up) (.cons (f_is_name) (.cons (f_is_hold) (.cons (f_lie_apart) (.cons (f_lies_in) (.cons (f_go_together) (.cons (f_all_go_together) (.cons (f_own_holds) (.cons (f_own_due) (.cons (f_own_works) (.cons (f_crowd_of) (.cons (f_law_cell_at) (.cons (f_law_number) (.cons (f_law_names) (.cons (f_law_stream) (.cons (f_law_draws) (.cons (f_law_parts) (.cons (f_law_crowd) (.cons (f_law_same) (.cons (f_law_unnamed) (.cons (f_law_tells) (.cons (⟨_, _, hm, ok⟩) (.nil)))))))))))))))))))))))))
  (.cons ((let ⟨fa, fd, p, q⟩ := i_Work; ⟨C_Work, fa, fd, W.mg_of X G aC_Work, by kernel_rfl, p, q⟩)) (.cons ((let ⟨fa, fd, p, q⟩ := i_Duty; ⟨C_Duty, fa, fd, W.mg_of X G aC_Duty, by kernel_rfl, p, q⟩)) (.nil)))
  (.cons (⟨C_Work, by kernel_rfl, .cons (m_Work_held) (.nil)⟩) (.cons (⟨C_Duty, by kernel_rfl, .cons (m_Duty_size) (.cons (m_Duty_work) (.cons (m_Duty_number_of) (.cons (m_Duty_crowd) (.nil))))⟩) (.nil)))
  (.cons (⟨_, .int 8, W.mg_of X G g_MOST_LETTERS, ⟨tk_MOST_LETTERS, rfl⟩, fun _ _ => rfl⟩) (.cons (⟨_, .int 6, W.mg_of X G g_MOST_HOLDS, ⟨tk_MOST_HOLDS, rfl⟩, fun _ _ => rfl⟩) (.cons (⟨_, .int 0, W.mg_of X G g_THING, ⟨tk_THING, rfl⟩, fun _ _ => rfl⟩) (.cons (⟨_, .int 1, W.mg_of X G g_START, ⟨tk_START, rfl⟩, fun _ _ => rfl⟩) (.cons (⟨_, .int 2, W.mg_of X G g_END, ⟨tk_END, rfl⟩, fun _ _ => rfl⟩) (.cons (⟨_, .int 12, W.mg_of X G g_MOST_WORKS, ⟨tk_MOST_WORKS, rfl⟩, fun _ _ => rfl⟩) (.cons (⟨_, .int 80, W.mg_of X G g_MOST_CROWD, ⟨tk_MOST_CROWD, rfl⟩, fun _ _ => rfl⟩) (.nil))))))))
  (.cons (c_Work) (.cons (c_Duty) (.nil)))
  (.cons (⟨C_Work, W.mg_of X G aC_Work, k_Work_NoneType, k_Work_bool, k_Work_int, k_Work_str, k_Work_list, k_Work_tuple, k_Work_dict, .cons (k_Work_Work) (.cons (k_Work_Duty) (.nil))⟩) (.cons (⟨C_Duty, W.mg_of X G aC_Duty, k_Duty_NoneType, k_Duty_bool, k_Duty_int, k_Duty_str, k_Duty_list, k_Duty_tuple, k_Duty_dict, .cons (k_Duty_Work) (.cons (k_Duty_Duty) (.nil))⟩) (.nil)))
  (.cons (W.mg_none_of X G z_all) (.cons (W.mg_none_of X G z_bool) (.cons (W.mg_none_of X G z_enumerate) (.cons (W.mg_none_of X G z_int) (.cons (W.mg_none_of X G z_isinstance) (.cons (W.mg_none_of X G z_len) (.cons (W.mg_none_of X G z_list) (.cons (W.mg_none_of X G z_max) (.cons (W.mg_none_of X G z_range) (.cons (W.mg_none_of X G z_set) (.cons (W.mg_none_of X G z_str) (.cons (W.mg_none_of X G z_sum) (.cons (W.mg_none_of X G z_tuple) (.nil))))))))))))))
  (.cons (⟨C_BadWork, W.mg_of X G aX_BadWork, aX_BadWork, xc_BadWork⟩) (.cons (⟨C_BadDuty, W.mg_of X G aX_BadDuty, aX_BadDuty, xc_BadDuty⟩) (.cons (⟨C_TooMany, W.mg_of X G aX_TooMany, aX_TooMany, xc_TooMany⟩) (.cons (⟨C_NoName, W.mg_of X G aX_NoName, aX_NoName, xc_NoName⟩) (.nil)))))
  (.cons (⟨(.ref C_DutyError), .inl (W.mg_of X G aX_DutyError), .cons (⟨C_BadWork, aX_BadWork, ei_BadWork, kx_DutyError_BadWork, kz_DutyError_BadWork⟩) (.cons (⟨C_BadDuty, aX_BadDuty, ei_BadDuty, kx_DutyError_BadDuty, kz_DutyError_BadDuty⟩) (.cons (⟨C_TooMany, aX_TooMany, ei_TooMany, kx_DutyError_TooMany, kz_DutyError_TooMany⟩) (.cons (⟨C_NoName, aX_NoName, ei_NoName, kx_DutyError_NoName, kz_DutyError_NoName⟩) (.nil))))⟩) (.cons (⟨(.ref C_NoName), .inl (W.mg_of X G aX_NoName), .cons (⟨C_BadWork, aX_BadWork, ei_BadWork, kx_NoName_BadWork, kz_NoName_BadWork⟩) (.cons (⟨C_BadDuty, aX_BadDuty, ei_BadDuty, kx_NoName_BadDuty, kz_NoName_BadDuty⟩) (.cons (⟨C_TooMany, aX_TooMany, ei_TooMany, kx_NoName_TooMany, kz_NoName_TooMany⟩) (.cons (⟨C_NoName, aX_NoName, ei_NoName, kx_NoName_NoName, kz_NoName_NoName⟩) (.nil))))⟩) (.cons (⟨(.ref C_TooMany), .inl (W.mg_of X G aX_TooMany), .cons (⟨C_BadWork, aX_BadWork, ei_BadWork, kx_TooMany_BadWork, kz_TooMany_BadWork⟩) (.cons (⟨C_BadDuty, aX_BadDuty, ei_BadDuty, kx_TooMany_BadDuty, kz_TooMany_BadDuty⟩) (.cons (⟨C_TooMany, aX_TooMany, ei_TooMany, kx_TooMany_TooMany, kz_TooMany_TooMany⟩) (.cons (⟨C_NoName, aX_NoName, ei_NoName, kx_TooMany_NoName, kz_TooMany_NoName⟩) (.nil))))⟩) (.nil))))
 exact ⟨fd, hb, fun base _ _ => Jzr O (fun h => absurd rfl h) 16 rfl ok⟩
end
end LW
open PySem L2
theorem LW.walk {l : W.OpenLaw} {q : Program} {loose : List Str} {XP : (Str -> Option Value) -> Heap -> Prop} {YP : World -> Heap -> Prop} {d : DefRec} {K : Params -> W.Frag} (hn : l.most = some 63) (hdf : d.params.defaults = [])
  (hY : ∀ (w : World) (h : Heap), YP w h -> (K w.params).In h)
  (F : ∀ (w : World) (mg : Str -> Option Value) (fa : Addr) (h : Heap), (K w.params).In h -> h.Ns mainGlobals mg -> mg d.name = some (.ref fa) ->
   ∃ fd : FuncData, (∀ (s : Shared) (u : Value), BindsTo s fd ⟨[u], []⟩ [("_law_script", u)]) /\ ∀ base : Heap, (K w.params).In base -> base.Ns mainGlobals mg -> FnOk l.prog w (K w.params) mg base (L3.CXI l.prog w) 64 fa fd ["_law_script"] (L3.Jrw (K w.params) "_law_script" (LW.Jp7 16))) :
  W.WalkO q loose XP YP l.row.toRowW d [] (fun f vs => PySem.call f vs) :=
 L2.Jzt (n := 63) (k := 64) (x := "_law_script") (CX := fun w => L3.CXI l.prog w) (sp := fun w => L3.Jrw (K w.params) "_law_script" (LW.Jp7 16)) hn (by decide) hdf ⟨rfl, by decide, by decide⟩ hY F (fun _ _ a ns hl hO hS => L3.Jur hO hS (LW.Jwx ns hl)) fun _ _ _ _ _ z => z.elim fun _ y => y.2.2.2.2
open PySem PySem.W PyProof.Rows
noncomputable def PySem.W.Fast.tw8343619062470534757 : Unit := ()
noncomputable def PySem.W.Fast.tw9399207068736322414 : Unit := ()
noncomputable def PySem.W.Fast.tw17176027026682139253 : Unit := ()
noncomputable def PySem.W.Fast.tw16580366148194467641 : Unit := ()
noncomputable def PySem.W.Fast.tw5780532018675646860 : Unit := ()
noncomputable def PySem.W.Fast.tw3080203580630765117 : Unit := ()
noncomputable def PySem.W.Fast.tw1899756931346358628 : Unit := ()
noncomputable def PySem.W.Fast.tw6303994932138344112 : Unit := ()
noncomputable def PySem.W.Fast.tw15645258949015274313 : Unit := ()
noncomputable def PySem.W.Fast.tw8093277396255994236 : Unit := ()
noncomputable def PySem.W.Fast.tw4897942251875022232 : Unit := ()
noncomputable def PySem.W.Fast.tw15146279620125669706 : Unit := ()
noncomputable def PySem.W.Fast.tw2704412124013665169 : Unit := ()
noncomputable def PySem.W.Fast.tw12316500813233553406 : Unit := ()
noncomputable def PySem.W.Fast.tw5503148306399772969 : Unit := ()
set_option maxRecDepth 100000 in
set_option maxHeartbeats 0 in
theorem PySem.Challenge.cw_dutyproof_k04_a_duty_holds : PySem.Challenge.rw_dutyproof_k04_a_duty.Holds := by
 w_on; o_law; k_head; (case hw => w_witness2)
 k_fill
 refine LW.walk (l := PySem.Challenge.rw_dutyproof_k04_a_duty) rfl rfl (fun w h Y => W.kIn_of Y) ?F
 case F =>
  intro w mg fa h KX G hmg
  refine' LW.fin KX G hmg ?QaX_BadWork ?QaX_BadDuty ?QaX_TooMany ?QaX_NoName ?QaX_DutyError ?Qxc_BadWork ?Qxc_BadDuty ?Qxc_TooMany ?Qxc_NoName ?Qei_BadWork ?Qei_BadDuty ?Qei_TooMany ?Qei_NoName ?Qkx_DutyError_BadWork ?Qkz_DutyError_BadWork ?Qkx_DutyError_BadDuty ?Qkz_DutyError_BadDuty ?Qkx_DutyError_TooMany ?Qkz_DutyError_TooMany ?Qkx_DutyError_NoName ?Qkz_DutyError_NoName ?Qkx_NoName_BadWork ?Qkz_NoName_BadWork ?Qkx_NoName_BadDuty ?Qkz_NoName_BadDuty ?Qkx_NoName_TooMany ?Qkz_NoName_TooMany ?Qkx_NoName_NoName ?Qkz_NoName_NoName ?Qkx_TooMany_BadWork ?Qkz_TooMany_BadWork ?Qkx_TooMany_BadDuty ?Qkz_TooMany_BadDuty ?Qkx_TooMany_TooMany ?Qkz_TooMany_TooMany ?Qkx_TooMany_NoName ?Qkz_TooMany_NoName ?QaC_Work ?QaC_Duty ?Qf_is_whole ?Qf_is_whole_from ?Qf_rounds_up ?Qf_is_name ?Qf_is_hold ?Qf_lie_apart ?Qf_lies_in ?Qf_go_together ?Qf_all_go_together ?Qf_own_holds ?Qf_own_due ?Qf_own_works ?Qf_crowd_of ?Qf_law_cell_at ?Qf_law_number ?Qf_law_names ?Qf_law_stream ?Qf_law_draws ?Qf_law_parts ?Qf_law_crowd ?Qf_law_same ?Qf_law_unnamed ?Qf_law_tells ?Qf_law ?Qi_Work ?Qm_Work_held ?Qc_Work ?Qi_Duty ?Qm_Duty_size ?Qm_Duty_work ?Qm_Duty_number_of ?Qm_Duty_crowd ?Qc_Duty ?Qg_MOST_LETTERS ?Qg_MOST_HOLDS ?Qg_THING ?Qg_START ?Qg_END ?Qg_MOST_WORKS ?Qg_MOST_CROWD ?Qk_Work_NoneType ?Qk_Work_bool ?Qk_Work_int ?Qk_Work_str ?Qk_Work_list ?Qk_Work_tuple ?Qk_Work_dict ?Qk_Work_Work ?Qk_Work_Duty ?Qk_Duty_NoneType ?Qk_Duty_bool ?Qk_Duty_int ?Qk_Duty_str ?Qk_Duty_list ?Qk_Duty_tuple ?Qk_Duty_dict ?Qk_Duty_Work ?Qk_Duty_Duty ?Qz_all ?Qz_bool ?Qz_enumerate ?Qz_int ?Qz_isinstance ?Qz_len ?Qz_list ?Qz_max ?Qz_range ?Qz_set ?Qz_str ?Qz_sum ?Qz_tuple
  (case QaX_BadWork => k_is)
  (case QaX_BadDuty => k_is)
  (case QaX_TooMany => k_is)
  (case QaX_NoName => k_is)
  (case QaX_DutyError => k_is)
  (case Qxc_BadWork => k_exc)
  (case Qxc_BadDuty => k_exc)
  (case Qxc_TooMany => k_exc)
  (case Qxc_NoName => k_exc)
  (case Qei_BadWork => (refine' LW.Jq2 ?vei_BadWork_ga ?vei_BadWork_mb ?vei_BadWork_gn ?vei_BadWork_ca ?vei_BadWork_mo ?vei_BadWork_hd; (case vei_BadWork_ga => k_is); (case vei_BadWork_mb => k_is); (case vei_BadWork_gn => k_is); (case vei_BadWork_ca => k_is); (case vei_BadWork_mo => k_is); (case vei_BadWork_hd => k_is)))
  (case Qei_BadDuty => (refine' LW.Jq2 ?vei_BadDuty_ga ?vei_BadDuty_mb ?vei_BadDuty_gn ?vei_BadDuty_ca ?vei_BadDuty_mo ?vei_BadDuty_hd; (case vei_BadDuty_ga => k_is); (case vei_BadDuty_mb => k_is); (case vei_BadDuty_gn => k_is); (case vei_BadDuty_ca => k_is); (case vei_BadDuty_mo => k_is); (case vei_BadDuty_hd => k_is)))
  (case Qei_TooMany => (refine' LW.Jq2 ?vei_TooMany_ga ?vei_TooMany_mb ?vei_TooMany_gn ?vei_TooMany_ca ?vei_TooMany_mo ?vei_TooMany_hd; (case vei_TooMany_ga => k_is); (case vei_TooMany_mb => k_is); (case vei_TooMany_gn => k_is); (case vei_TooMany_ca => k_is); (case vei_TooMany_mo => k_is); (case vei_TooMany_hd => k_is)))
  (case Qei_NoName => (refine' LW.Jq2 ?vei_NoName_ga ?vei_NoName_mb ?vei_NoName_gn ?vei_NoName_ca ?vei_NoName_mo ?vei_NoName_hd; (case vei_NoName_ga => k_is); (case vei_NoName_mb => k_is); (case vei_NoName_gn => k_is); (case vei_NoName_ca => k_is); (case vei_NoName_mo => k_is); (case vei_NoName_hd => k_is)))
  (case Qkx_DutyError_BadWork => kernel_rfl)
  (case Qkz_DutyError_BadWork => kernel_rfl)
  (case Qkx_DutyError_BadDuty => kernel_rfl)
  (case Qkz_DutyError_BadDuty => kernel_rfl)
  (case Qkx_DutyError_TooMany => kernel_rfl)
  (case Qkz_DutyError_TooMany => kernel_rfl)
  (case Qkx_DutyError_NoName => kernel_rfl)
  (case Qkz_DutyError_NoName => kernel_rfl)
  (case Qkx_NoName_BadWork => kernel_rfl)
  (case Qkz_NoName_BadWork => kernel_rfl)
  (case Qkx_NoName_BadDuty => kernel_rfl)
  (case Qkz_NoName_BadDuty => kernel_rfl)
  (case Qkx_NoName_TooMany => kernel_rfl)
  (case Qkz_NoName_TooMany => kernel_rfl)
  (case Qkx_NoName_NoName => kernel_rfl)
  (case Qkz_NoName_NoName => kernel_rfl)
  (case Qkx_TooMany_BadWork => kernel_rfl)
  (case Qkz_TooMany_BadWork => kernel_rfl)
  (case Qkx_TooMany_BadDuty => kernel_rfl)
  (case Qkz_TooMany_BadDuty => kernel_rfl)
  (case Qkx_TooMany_TooMany => kernel_rfl)
  (case Qkz_TooMany_TooMany => kernel_rfl)
  (case Qkx_TooMany_NoName => kernel_rfl)
  (case Qkz_TooMany_NoName => kernel_rfl)
  (case QaC_Work => k_is)
  (case QaC_Duty => k_is)
  (case Qf_is_whole => (refine' LW.Jqj KX G ?u1_ha ?u1_hl ?u1_hc ?u1_hk; (case u1_ha => k_is); (case u1_hl => k_is); (case u1_hc => k_is); (case u1_hk => k_is)))
  (case Qf_is_whole_from => (refine' LW.Jjt KX G ?u2_ha ?u2_hl ?u2_hc ?u2_hk; (case u2_ha => k_is); (case u2_hl => k_is); (case u2_hc => k_is); (case u2_hk => k_is)))
  (case Qf_rounds_up => (refine' LW.Jnl KX G ?u3_ha ?u3_hl ?u3_hc ?u3_hk; (case u3_ha => k_is); (case u3_hl => k_is); (case u3_hc => k_is); (case u3_hk => k_is)))
  (case Qf_is_name => (refine' LW.Jrn KX G ?u4_ha ?u4_hl ?u4_hc ?u4_hk; (case u4_ha => k_is); (case u4_hl => k_is); (case u4_hc => k_is); (case u4_hk => k_is)))
  (case Qf_is_hold => (refine' LW.Jr4 KX G ?u5_ha ?u5_hl ?u5_hc ?u5_hk; (case u5_ha => k_is); (case u5_hl => k_is); (case u5_hc => k_is); (case u5_hk => k_is)))
  (case Qf_lie_apart => (refine' LW.Jni KX G ?u6_ha ?u6_hl ?u6_hc ?u6_hk; (case u6_ha => k_is); (case u6_hl => k_is); (case u6_hc => k_is); (case u6_hk => k_is)))
  (case Qf_lies_in => (refine' LW.Jrs KX G ?u7_ha ?u7_hl ?u7_hc ?u7_hk; (case u7_ha => k_is); (case u7_hl => k_is); (case u7_hc => k_is); (case u7_hk => k_is)))
  (case Qf_go_together => (refine' LW.Jla KX G ?u8_ha ?u8_hl ?u8_hc ?u8_hk; (case u8_ha => k_is); (case u8_hl => k_is); (case u8_hc => k_is); (case u8_hk => k_is)))
  (case Qf_all_go_together => (refine' LW.Jh6 KX G ?u9_ha ?u9_hl ?u9_hc ?u9_hk; (case u9_ha => k_is); (case u9_hl => k_is); (case u9_hc => k_is); (case u9_hk => k_is)))
  (case Qf_own_holds => (refine' LW.Jnd KX G ?u10_ha ?u10_hl ?u10_hc ?u10_hk; (case u10_ha => k_is); (case u10_hl => k_is); (case u10_hc => k_is); (case u10_hk => k_is)))
  (case Qf_own_due => (refine' LW.Jsj KX G ?u11_ha ?u11_hl ?u11_hc ?u11_hk; (case u11_ha => k_is); (case u11_hl => k_is); (case u11_hc => k_is); (case u11_hk => k_is)))
  (case Qf_own_works => (refine' LW.Jpb KX G ?u12_ha ?u12_hl ?u12_hc ?u12_hk; (case u12_ha => k_is); (case u12_hl => k_is); (case u12_hc => k_is); (case u12_hk => k_is)))
  (case Qf_crowd_of => (refine' LW.Jp4 KX G ?u13_ha ?u13_hl ?u13_hc ?u13_hk; (case u13_ha => k_is); (case u13_hl => k_is); (case u13_hc => k_is); (case u13_hk => k_is)))
  (case Qf_law_cell_at => (refine' LW.Jk1 KX G ?u14_ha ?u14_hl ?u14_hc ?u14_hk; (case u14_ha => k_is); (case u14_hl => k_is); (case u14_hc => k_is); (case u14_hk => k_is)))
  (case Qf_law_number => (refine' LW.Jmj KX G ?u15_ha ?u15_hl ?u15_hc ?u15_hk; (case u15_ha => k_is); (case u15_hl => k_is); (case u15_hc => k_is); (case u15_hk => k_is)))
  (case Qf_law_names => (refine' LW.Jns KX G ?u16_ha ?u16_hl ?u16_hc ?u16_hk; (case u16_ha => k_is); (case u16_hl => k_is); (case u16_hc => k_is); (case u16_hk => k_is)))
  (case Qf_law_stream => (refine' LW.Jms KX G ?u17_ha ?u17_hl ?u17_hc ?u17_hk; (case u17_ha => k_is); (case u17_hl => k_is); (case u17_hc => k_is); (case u17_hk => k_is)))
  (case Qf_law_draws => (refine' LW.Jn2 KX G ?u18_ha ?u18_hl ?u18_hc ?u18_hk; (case u18_ha => k_is); (case u18_hl => k_is); (case u18_hc => k_is); (case u18_hk => k_is)))
  (case Qf_law_parts => (refine' LW.Jnx KX G ?u19_ha ?u19_hl ?u19_hc ?u19_hk; (case u19_ha => k_is); (case u19_hl => k_is); (case u19_hc => k_is); (case u19_hk => k_is)))
  (case Qf_law_crowd => (refine' LW.Jow KX G ?u20_ha ?u20_hl ?u20_hc ?u20_hk; (case u20_ha => k_is); (case u20_hl => k_is); (case u20_hc => k_is); (case u20_hk => k_is)))
  (case Qf_law_same => (refine' LW.Jp3 KX G ?u21_ha ?u21_hl ?u21_hc ?u21_hk; (case u21_ha => k_is); (case u21_hl => k_is); (case u21_hc => k_is); (case u21_hk => k_is)))
  (case Qf_law_unnamed => (refine' LW.Jky KX G ?u22_ha ?u22_hl ?u22_hc ?u22_hk; (case u22_ha => k_is); (case u22_hl => k_is); (case u22_hc => k_is); (case u22_hk => k_is)))
  (case Qf_law_tells => (refine' LW.Jn9 KX G ?u23_ha ?u23_hl ?u23_hc ?u23_hk; (case u23_ha => k_is); (case u23_hl => k_is); (case u23_hc => k_is); (case u23_hk => k_is)))
  (case Qf_law => (refine' LW.J1v KX G ?u24_ha ?u24_hl ?u24_hc ?u24_hk; (case u24_ha => k_is); (case u24_hl => k_is); (case u24_hc => k_is); (case u24_hk => k_is)))
  (case Qi_Work => (refine' LW.Jo2 ?u25_ha ?u25_hi ?u25_hl ?u25_hc ?u25_hk ?u25_hd ?u25_hm ?u25_hq; (case u25_ha => k_is); (case u25_hi => k_is); (case u25_hl => k_is); (case u25_hc => k_is); (case u25_hk => k_is); (case u25_hd => k_is); (case u25_hm => k_is); (case u25_hq => k_is)))
  (case Qm_Work_held => (refine' LW.Jo9 ?u26_ha ?u26_hi ?u26_hl ?u26_hc ?u26_hk; (case u26_ha => k_is); (case u26_hi => k_is); (case u26_hl => k_is); (case u26_hc => k_is); (case u26_hk => k_is)))
  (case Qc_Work => (refine' LW.Jra ?vc_Work_pg ?vc_Work_hd ?vc_Work_po ?vc_Work_sa ?vc_Work_h1 ?vc_Work_h2 ?vc_Work_h3 ?vc_Work_h4 ?vc_Work_n0 ?vc_Work_n1 ?vc_Work_n2 ?vc_Work_n3 ?vc_Work_n4 ?vc_Work_n5 ?vc_Work_n6 ?vc_Work_n7 ?vc_Work_n8 ?vc_Work_n9; (case vc_Work_pg => k_is); (case vc_Work_hd => k_is); (case vc_Work_po => k_is); (case vc_Work_sa => k_is); (case vc_Work_h1 => k_is); (case vc_Work_h2 => k_is); (case vc_Work_h3 => k_is); (case vc_Work_h4 => k_is); (case vc_Work_n0 => k_is); (case vc_Work_n1 => k_is); (case vc_Work_n2 => k_is); (case vc_Work_n3 => k_is); (case vc_Work_n4 => k_is); (case vc_Work_n5 => k_is); (case vc_Work_n6 => k_is); (case vc_Work_n7 => k_is); (case vc_Work_n8 => k_is); (case vc_Work_n9 => k_is)))
  (case Qi_Duty => (refine' LW.Jna ?u27_ha ?u27_hi ?u27_hl ?u27_hc ?u27_hk ?u27_hm ?u27_hq; (case u27_ha => k_is); (case u27_hi => k_is); (case u27_hl => k_is); (case u27_hc => k_is); (case u27_hk => k_is); (case u27_hm => k_is); (case u27_hq => k_is)))
  (case Qm_Duty_size => (refine' LW.Jnj ?u28_ha ?u28_hi ?u28_hl ?u28_hc ?u28_hk; (case u28_ha => k_is); (case u28_hi => k_is); (case u28_hl => k_is); (case u28_hc => k_is); (case u28_hk => k_is)))
  (case Qm_Duty_work => (refine' LW.Jpo ?u29_ha ?u29_hi ?u29_hl ?u29_hc ?u29_hk; (case u29_ha => k_is); (case u29_hi => k_is); (case u29_hl => k_is); (case u29_hc => k_is); (case u29_hk => k_is)))
  (case Qm_Duty_number_of => (refine' LW.Jjb ?u30_ha ?u30_hi ?u30_hl ?u30_hc ?u30_hk; (case u30_ha => k_is); (case u30_hi => k_is); (case u30_hl => k_is); (case u30_hc => k_is); (case u30_hk => k_is)))
  (case Qm_Duty_crowd => (refine' LW.Jmg ?u31_ha ?u31_hi ?u31_hl ?u31_hc ?u31_hk; (case u31_ha => k_is); (case u31_hi => k_is); (case u31_hl => k_is); (case u31_hc => k_is); (case u31_hk => k_is)))
  (case Qc_Duty => (refine' LW.Jra ?vc_Duty_pg ?vc_Duty_hd ?vc_Duty_po ?vc_Duty_sa ?vc_Duty_h1 ?vc_Duty_h2 ?vc_Duty_h3 ?vc_Duty_h4 ?vc_Duty_n0 ?vc_Duty_n1 ?vc_Duty_n2 ?vc_Duty_n3 ?vc_Duty_n4 ?vc_Duty_n5 ?vc_Duty_n6 ?vc_Duty_n7 ?vc_Duty_n8 ?vc_Duty_n9; (case vc_Duty_pg => k_is); (case vc_Duty_hd => k_is); (case vc_Duty_po => k_is); (case vc_Duty_sa => k_is); (case vc_Duty_h1 => k_is); (case vc_Duty_h2 => k_is); (case vc_Duty_h3 => k_is); (case vc_Duty_h4 => k_is); (case vc_Duty_n0 => k_is); (case vc_Duty_n1 => k_is); (case vc_Duty_n2 => k_is); (case vc_Duty_n3 => k_is); (case vc_Duty_n4 => k_is); (case vc_Duty_n5 => k_is); (case vc_Duty_n6 => k_is); (case vc_Duty_n7 => k_is); (case vc_Duty_n8 => k_is); (case vc_Duty_n9 => k_is)))
  (case Qg_MOST_LETTERS => k_is)
  (case Qg_MOST_HOLDS => k_is)
  (case Qg_THING => k_is)
  (case Qg_START => k_is)
  (case Qg_END => k_is)
  (case Qg_MOST_WORKS => k_is)
  (case Qg_MOST_CROWD => k_is)
  (case Qk_Work_NoneType => kernel_rfl)
  (case Qk_Work_bool => kernel_rfl)
  (case Qk_Work_int => kernel_rfl)
  (case Qk_Work_str => kernel_rfl)
  (case Qk_Work_list => kernel_rfl)
  (case Qk_Work_tuple => kernel_rfl)
  (case Qk_Work_dict => kernel_rfl)
  (case Qk_Work_Work => kernel_rfl)
  (case Qk_Work_Duty => kernel_rfl)
  (case Qk_Duty_NoneType => kernel_rfl)
  (case Qk_Duty_bool => kernel_rfl)
  (case Qk_Duty_int => kernel_rfl)
  (case Qk_Duty_str => kernel_rfl)
  (case Qk_Duty_list => kernel_rfl)
  (case Qk_Duty_tuple => kernel_rfl)
  (case Qk_Duty_dict => kernel_rfl)
  (case Qk_Duty_Work => kernel_rfl)
  (case Qk_Duty_Duty => kernel_rfl)
  (case Qz_all => k_is)
  (case Qz_bool => k_is)
  (case Qz_enumerate => k_is)
  (case Qz_int => k_is)
  (case Qz_isinstance => k_is)
  (case Qz_len => k_is)
  (case Qz_list => k_is)
  (case Qz_max => k_is)
  (case Qz_range => k_is)
  (case Qz_set => k_is)
  (case Qz_str => k_is)
  (case Qz_sum => k_is)
  (case Qz_tuple => k_is)
