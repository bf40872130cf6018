import PyProof.Rows.All
import Wide.All
import OpenK.AllK
import Wide.FinOn
import Lean
import PyProof.EqAt
import PyProof.EqKinds
import PyProof.TupleCall
import PySem.Challenge.RW_dutyproof_k56_longer_duties_asked
set_option Elab.async false
set_option linter.all false
set_option maxRecDepth 100000
theorem Zf {p : Prop} (h : False) : p := h.elim
namespace L2
open PySem PySem.Spec PyProof.Rows
noncomputable abbrev Key := Sum Int Str
noncomputable def Jty : Key -> Value -> Bool
 | .inl k, v => Value.isInt k v
 | .inr x, v => Value.isStrOf x v
noncomputable def keyH (w : World) : Key -> Int
 | .inl k => hashInt k
 | .inr x => hashStr w x
theorem Jau : ∀ {k : Key} {v : Value}, Jty k v = true -> (∃ i t, k = Sum.inl i /\ v = Value.int i t) ∨ (∃ x t, k = Sum.inr x /\ v = Value.str x t)
 | .inl i, v, h => by
  obtain ⟨t, e⟩ := Value.isInt_shape (k := i) (v := v) h
  exact .inl ⟨i, t, rfl, e⟩
 | .inr x, v, h => by
  obtain ⟨t, e⟩ := Value.isStrOf_shape (x := x) (v := v) h
  exact .inr ⟨x, t, rfl, e⟩
theorem Jxb (i : Int) (t : Tok) : Jty (.inl i) (.int i t) = true := by simp [Jty, Value.isInt]
theorem Jxc (x : Str) (t : Tok) : Jty (.inr x) (.str x t) = true := by simp [Jty, Value.isStrOf]
theorem J22 (a b : Int) : decide ((Sum.inl a : Key) = Sum.inl b) = (a == b) := by
 by_cases e : a = b
 ·subst e; simp
 ·have h : ¬ (Sum.inl a : Key) = Sum.inl b := fun q => e (Sum.inl.inj q)
  rw [decide_eq_false h]
  exact (beq_eq_false_iff_ne.mpr e).symm
theorem J29 (a b : Str) : decide ((Sum.inr a : Key) = Sum.inr b) = decide (a = b) := by
 by_cases e : a = b
 ·subst e; simp
 ·have h : ¬ (Sum.inr a : Key) = Sum.inr b := fun q => e (Sum.inr.inj q)
  rw [decide_eq_false h, decide_eq_false e]
theorem J4t (a : Int) (b : Str) : decide ((Sum.inl a : Key) = Sum.inr b) = false := decide_eq_false (fun q => nomatch q)
theorem J5o (a : Str) (b : Int) : decide ((Sum.inr a : Key) = Sum.inl b) = false := decide_eq_false (fun q => nomatch q)
noncomputable def Jbu (prog : Program) (w : World) : PySem.KeyKind prog w Key where
 is := Jty
 hash := keyH w
 inj := fun v a b ha hb => by
  rcases Jau ha with ⟨i, t, rfl, rfl⟩ | ⟨x, t, rfl, rfl⟩
  ·rcases Jau hb with ⟨j, u, rfl, e⟩ | ⟨y, u, rfl, e⟩
   ·injection e with e1 _; rw [e1]
   ·exact nomatch e
  ·rcases Jau hb with ⟨j, u, rfl, e⟩ | ⟨y, u, rfl, e⟩
   ·exact nomatch e
   ·injection e with e1 _; rw [e1]
 byValue := fun k v h => by
  rcases Jau h with ⟨i, t, rfl, rfl⟩ | ⟨x, t, rfl, rfl⟩ <;> rfl
 pyHash := fun hv h => by
  rcases Jau hv with ⟨i, t, rfl, rfl⟩ | ⟨x, t, rfl, rfl⟩
  ·exact wpAny_pyHash_int h
  ·exact wpAny_pyHash_str h
 eqBool := fun hu hv h => by
  rcases Jau hu with ⟨i, t, rfl, rfl⟩ | ⟨x, t, rfl, rfl⟩
  ·rcases Jau hv with ⟨j, u, rfl, rfl⟩ | ⟨y, u, rfl, rfl⟩
   ·rw [J22] at h; exact wpAny_eqBool_int h
   ·rw [J4t] at h; exact SeqAt.EqAt.int_str i t y u _ _ _ _ h
  ·rcases Jau hv with ⟨j, u, rfl, rfl⟩ | ⟨y, u, rfl, rfl⟩
   ·rw [J5o] at h; exact SeqAt.EqAt.str_int x t j u _ _ _ _ h
   ·rw [J29] at h; exact wpAny_eqBool_str h
 «strs» := fun k x t v h => by
  rcases Jau h with ⟨i, u, rfl, e⟩ | ⟨y, u, rfl, e⟩
  ·exact nomatch e
  ·injection e with e1 _
   subst e1
   cases v <;> rfl
theorem Jrn (prog : Program) (w : World) (i : Int) (t : Tok) : (Jbu prog w).is (.inl i) (.int i t) = true := Jxb i t
theorem Jq4 (prog : Program) (w : World) (x : Str) (t : Tok) : (Jbu prog w).is (.inr x) (.str x t) = true := Jxc x t
end L2
namespace L2
open PySem PySem.Spec PyProof.Rows
inductive V where
 | non | bl (b : Bool) | int (i : Int) | str (x : Str) | byt (b : Array UInt8) | flt (b : UInt64) | ref (a : Addr) | ty (n : String)
 deriving DecidableEq
noncomputable def RelV : V -> Value -> Prop
 | .non, u => u = Value.none
 | .bl b, u => u = Value.bool b
 | .int i, u => ∃ t, u = Value.int i t
 | .str x, u => ∃ t, u = Value.str x t
 | .byt b, u => ∃ t, u = Value.bytes b t
 | .flt b, u => ∃ t, u = Value.float b t
 | .ref a, u => u = Value.ref a
 | .ty n, u => u = Value.type n
noncomputable abbrev Vals : List V -> List Value -> Prop := Paired RelV
theorem Vals.length {xs : List V} {us : List Value} (r : Vals xs us) : xs.length = us.length := Paired.length r
theorem Vals.get : ∀ {xs : List V} {us : List Value} {i : Nat} {x : V}, Vals xs us -> xs[i]? = some x -> ∃ u, us[i]? = some u /\ RelV x u
 | _, _, _, _, .nil, e => by simp at e
 | _, _, 0, _, .cons r _, e => by simp at e; subst e; exact ⟨_, rfl, r⟩
 | _, _, i + 1, x, .cons _ t, e => by
  obtain ⟨u, h1, h2⟩ := Vals.get (i := i) (x := x) t (by simpa using e)
  exact ⟨u, by simpa using h1, h2⟩
theorem Vals.set {x : V} {u : Value} (r : RelV x u) : ∀ {xs : List V} {us : List Value} (i : Nat), Vals xs us -> Vals (xs.set i x) (us.set i u)
 | _, _, _, .nil => .nil
 | _, _, 0, .cons _ t => .cons r t
 | _, _, i + 1, .cons q t => .cons q (Vals.set r i t)
theorem Vals.append : ∀ {xs ys : List V} {us ws : List Value}, Vals xs us -> Vals ys ws -> Vals (xs ++ ys) (us ++ ws)
 | _, _, _, _, .nil, s => s
 | _, _, _, _, .cons r t, s => .cons r (Vals.append t s)
theorem Vals.take : ∀ {xs : List V} {us : List Value} (n : Nat), Vals xs us -> Vals (xs.take n) (us.take n)
 | _, _, 0, _ => .nil
 | _, _, _ + 1, .nil => .nil
 | _, _, n + 1, .cons r t => .cons r (Vals.take n t)
theorem Vals.drop : ∀ {xs : List V} {us : List Value} (n : Nat), Vals xs us -> Vals (xs.drop n) (us.drop n)
 | _, _, 0, r => r
 | _, _, _ + 1, .nil => .nil
 | _, _, n + 1, .cons _ t => Vals.drop n t
noncomputable def RelO : Option V -> Option Value -> Prop
 | some v, some u => RelV v u
 | none, none => True
 | _, _ => False
noncomputable def KV {κ : Type} : List (κ × V) -> List (κ × Value) -> Prop := Paired fun (p : κ × V) (q : κ × Value) => p.1 = q.1 /\ RelV p.2 q.2
noncomputable def kV : Key -> V
 | .inl i => .int i
 | .inr x => .str x
inductive HO where
 /-- a list -/
 | lst (xs : List V)
 /-- a tuple (never changes) -/
 | tup (xs : List V)
 /-- a dict whose keys are ints and texts; one whose keys are tuples of ints and texts (the empty one is both) -/
 | dK (kvs : List (Key × V)) | dT (kvs : List (List Key × V))
 /-- a set of ints: its members, its size -/
 | set (S : Int -> Bool) (n : Nat)
 /-- an instance of the class at C, its dict at dx, its attributes -/
 | ins (C dx : Addr) (fs : List (Str × V))
 /-- the dict of the instance at x -/
 | own (x : Addr)
 /-- the dict of an exception -/
 | xd (fs : List (Str × V))
 /-- a bound method, f of x -/
 | met (f x : Addr)
 /-- a range object lo, lo + 1, .. below hi -/
 | rng (lo hi : Int)
 /-- a thing that is known to the object (the script; a dict while a loop walks it): read, never written while it is so -/
 | frz (o : Obj) (u : HO)
 /-- a code object's table -/
 | tbl (ps : Array Value)
 /-- any other thing, by what is true of its one object (a def of one's own: SetO a S n := HO.ext fun h => ..) -/
 | ext (φ : Heap -> Prop)
noncomputable abbrev Hp := Addr -> Option HO
noncomputable def upd (H : Hp) (a : Addr) (o : HO) : Hp := fun b => if b = a then some o else H b
theorem Jk {H : Hp} {a : Addr} {o : HO} : upd H a o a = some o := by unfold upd; rw [if_pos rfl]
theorem Jp {H : Hp} {a b : Addr} {o : HO} (h : b ≠ a) : upd H a o b = H b := by unfold upd; rw [if_neg h]
theorem Jaq {H : Hp} {a b : Addr} {o : HO} (h : H a = some o) (h' : H b = none) : a ≠ b := by
 intro e; subst e; rw [h] at h'; cases h'
section
variable (P : Program) (w : World)
noncomputable def Jdl (H : Hp) (h : Heap) (a : Addr) : HO -> Prop
 | .lst xs => xs.length <= sizeLine /\ ∃ (its : List Value) (n : Nat), Vals xs its /\ h.get? a = some { cls := .type "list", data := .seq its.toArray n }
 | .tup xs => xs.length <= sizeLine /\ ∃ its : List Value, Vals xs its /\ IsTup h a its.toArray
 | .dK kvs => kvs.length <= sizeLine /\ (a == sysModules) = false /\ ∃ vs, KV kvs vs /\ h.DictOf (Jbu P w) a vs
 | .dT kvs => kvs.length <= sizeLine /\ (a == sysModules) = false /\ ∃ xs : List (List Key × Addr × Value),
   Paired (fun (p : List Key × V) (q : List Key × Addr × Value) => p.1 = q.1 /\ H q.2.1 = some (.tup (p.1.map kV)) /\ RelV p.2 q.2.2) kvs xs /\
   ∃ o es ep, h.get? a = some o /\ o.ExactDict /\ o.data = .dict es ep /\ es.toList = xs.map (entryOfKey (tupleKind (Jbu P w))) /\ (xs.map (·.1)).Nodup
 | .set S n => h.SetOf (intKind P w) a S n
 | .ins C dx fs => H dx = some (.own a) /\ fs.length <= 1000 /\ dx ≠ a /\ h.get? a = some (W.instObj C dx) /\
   ∃ mA, h.Ns1 dx mA /\ (∀ f, RelO (fs.lookup f) (mA f)) /\ PySem.Within mA (fs.map (·.1))
 | .own _ => ∃ o, h.get? a = some o
 | .xd fs => ∃ mA, h.Ns1 a mA /\ ∀ f, RelO (fs.lookup f) (mA f)
 | .rng lo hi => ∃ t u v, h.get? a = some { cls := .type "range", data := .fields #[.int lo t, .int hi u, .int 1 v] }
 | .frz o u => h.get? a = some o /\ Jdl H h a u
 | .tbl ps => h.get? a = some { cls := .none, data := .fields ps }
 | .met f x => h.get? a = some (W.methodObj (.ref f) (.ref x))
 | .ext φ => φ h /\ (∃ o, h.get? a = some o) /\ ∀ h1 h2 : Heap, φ h1 -> (∀ o, h1.get? a = some o -> h2.get? a = some o) -> φ h2
noncomputable def HOk (H : Hp) (h : Heap) : Prop := ∀ a o, H a = some o -> Jdl P w H h a o
end
section
variable {P : Program} {w : World} {H H' : Hp} {h h' : Heap} {a : Addr} {o : HO}
theorem Jdl.lt (x : Jdl P w H h a o) : a < h.objs.size := by
 cases o with
 | lst xs => obtain ⟨_, _, _, _, e⟩ := x; exact Heap.lt_size e
 | tup xs => obtain ⟨_, _, _, p⟩ := x; exact p.lt
 | dK kvs => obtain ⟨_, _, _, _, o, _, _, e, _⟩ := x; exact Heap.lt_size e
 | dT kvs => obtain ⟨_, _, _, _, o, _, _, e, _⟩ := x; exact Heap.lt_size e
 | set S n => obtain ⟨o, _, _, _, e, _⟩ := x; exact Heap.lt_size e
 | ins C dx fs => obtain ⟨_, _, _, e, _⟩ := x; exact Heap.lt_size e
 | own y => obtain ⟨_, e⟩ := x; exact Heap.lt_size e
 | xd fs => obtain ⟨_, ⟨_, _, _, e, _⟩, _⟩ := x; exact Heap.lt_size e
 | rng lo hi => obtain ⟨_, _, _, e⟩ := x; exact Heap.lt_size e
 | frz ob u => obtain ⟨e, _⟩ := x; exact Heap.lt_size e
 | tbl ps => exact Heap.lt_size (show h.get? a = some _ from x)
 | met f y => exact Heap.lt_size (show h.get? a = some _ from x)
 | ext φ => obtain ⟨_, ⟨_, e⟩, _⟩ := x; exact Heap.lt_size e
theorem Paired.mapP {α β : Type} {F G : α -> β -> Prop} : ∀ {l₁ : List α} {l₂ : List β}, Paired F l₁ l₂ -> (∀ a b, F a b -> G a b) -> Paired G l₁ l₂
 | _, _, .nil, _ => .nil
 | _, _, .cons r t, f => .cons (f _ _ r) (Paired.mapP t f)
theorem Jdl.stay (x : Jdl P w H h a o) (k : ∀ b u, (b = a ∨ H b = some (.own a)) -> h.get? b = some u -> h'.get? b = some u)
  (ho : ∀ b, H b = some (.own a) -> H' b = some (.own a)) (ht : ∀ b xs, H b = some (.tup xs) -> H' b = some (.tup xs)) : Jdl P w H' h' a o := by
 induction o with
 | lst xs => obtain ⟨z, its, n, r, e⟩ := x; exact ⟨z, its, n, r, k _ _ (.inl rfl) e⟩
 | tup xs => obtain ⟨z, its, r, ob, e, c⟩ := x; exact ⟨z, its, r, ob, k _ _ (.inl rfl) e, c⟩
 | dK kvs => obtain ⟨z, y, vs, r, ob, es, ep, e, c⟩ := x; exact ⟨z, y, vs, r, ob, es, ep, k _ _ (.inl rfl) e, c⟩
 | dT kvs =>
  obtain ⟨z, y, xs, r, ob, es, ep, e, c⟩ := x
  exact ⟨z, y, xs, Paired.mapP r fun p q z => ⟨z.1, ht _ _ z.2.1, z.2.2⟩, ob, es, ep, k _ _ (.inl rfl) e, c⟩
 | set S n => obtain ⟨ob, es, ep, t, e, c⟩ := x; exact ⟨ob, es, ep, t, k _ _ (.inl rfl) e, c⟩
 | ins C dx fs =>
  obtain ⟨d, z, ne, e, mA, ⟨od, es, ep, e2, c⟩, r⟩ := x
  exact ⟨ho _ d, z, ne, k _ _ (.inl rfl) e, mA, ⟨od, es, ep, k _ _ (.inr d) e2, c⟩, r⟩
 | own y => obtain ⟨ob, e⟩ := x; exact ⟨ob, k _ _ (.inl rfl) e⟩
 | xd fs => obtain ⟨mA, ⟨od, es, ep, e, c⟩, r⟩ := x; exact ⟨mA, ⟨od, es, ep, k _ _ (.inl rfl) e, c⟩, r⟩
 | rng lo hi => obtain ⟨t, u, v, e⟩ := x; exact ⟨t, u, v, k _ _ (.inl rfl) e⟩
 | frz ob u ih => obtain ⟨e, q⟩ := x; exact ⟨k _ _ (.inl rfl) e, ih q⟩
 | tbl ps =>
  have e : h.get? a = some { cls := .none, data := .fields ps } := x
  show h'.get? a = some { cls := .none, data := .fields ps }
  exact k a _ (.inl rfl) e
 | met f y =>
  have e : h.get? a = some (W.methodObj (.ref f) (.ref y)) := x
  show h'.get? a = some (W.methodObj (.ref f) (.ref y))
  exact k a _ (.inl rfl) e
 | ext φ => obtain ⟨p, ⟨o, e⟩, st⟩ := x; exact ⟨st _ _ p fun o q => k _ _ (.inl rfl) q, ⟨o, k _ _ (.inl rfl) e⟩, st⟩
theorem HOk.lt (x : HOk P w H h) (e : H a = some o) : a < h.objs.size := (x a o e).lt
theorem HOk.fresh (x : HOk P w H h) (e : h.objs.size <= a) : H a = none := by
 cases q : H a with
 | none => rfl
 | some u => exact absurd (Nat.lt_of_lt_of_le (x.lt q) e) (Nat.lt_irrefl _)
theorem HOk.kept (x : HOk P w H h) (k : ∀ b u, h.get? b = some u -> h'.get? b = some u) : HOk P w H h' := fun a o e =>
 (x a o e).stay (fun b u _ q => k b u q) (fun _ q => q) fun _ _ q => q
theorem HOk.laid (x : HOk P w H h) (k : ∀ b u, h.get? b = some u -> h'.get? b = some u) (hp : h.objs.size <= a) (new : Jdl P w (upd H a o) h' a o) : HOk P w (upd H a o) h' := fun b u e => by
 have hn := x.fresh hp
 by_cases hb : b = a
 ·subst hb; rw [Jk] at e; cases e; exact new
 ·rw [Jp hb] at e
  exact (x b u e).stay (fun c v _ q => k c v q) (fun c q => by rw [Jp (Jaq q hn)]; exact q) fun c xs q => by rw [Jp (Jaq q hn)]; exact q
end
noncomputable def Rd (H : Hp) (a : Addr) (u : HO) : Prop := H a = some u ∨ ∃ o, H a = some (.frz o u)
theorem Rd.of {H : Hp} {a : Addr} {u : HO} (h : H a = some u) : Rd H a u := .inl h
theorem Rd.ok {P : Program} {w : World} {H : Hp} {h : Heap} {a : Addr} {u : HO} (r : Rd H a u) (x : HOk P w H h) : Jdl P w H h a u := by
 rcases r with r | ⟨o, r⟩
 ·exact x a u r
 ·obtain ⟨_, q⟩ := x a _ r
  exact q
noncomputable def Mut : Option HO -> Prop
 | some (.lst _) => True
 | some (.dK _) => True
 | some (.dT _) => True
 | some (.set _ _) => True
 | some (.ins _ _ _) => True
 | some (.ext _) => True
 | _ => False
section
variable {P : Program} {w : World} {H : Hp} {h h' : Heap} {x e : Addr} {o' : HO}
theorem HOk.write (ok : HOk P w H h) (mu : Mut (H x)) (he : e = x ∨ H e = some (.own x)) (k : ∀ b u, b ≠ e -> h.get? b = some u -> h'.get? b = some u) (heo : ∃ u, h'.get? e = some u)
  (new : Jdl P w (upd H x o') h' x o') : HOk P w (upd H x o') h' := fun b u q => by
 have nown : ∀ c y, H c = some (.own y) -> c ≠ x := fun c y r z => by subst z; rw [r] at mu; exact mu
 have ntup : ∀ c xs, H c = some (.tup xs) -> c ≠ x := fun c xs r z => by subst z; rw [r] at mu; exact mu
 by_cases hb : b = x
 ·subst hb; rw [Jk] at q; cases q; exact new
 ·rw [Jp hb] at q
  by_cases hbe : b = e
  ·have q' : H b = some (.own x) := by
    rcases he with z | z
    ·exact absurd (hbe.trans z) hb
    ·rw [hbe]; exact z
   rw [q] at q'; cases q'
   obtain ⟨v, hv⟩ := heo
   exact ⟨v, by rw [hbe]; exact hv⟩
  ·refine (ok b u q).stay (fun c v hc r => k c v ?_ r) (fun c r => by rw [Jp (nown c b r)]; exact r) fun c xs r => by rw [Jp (ntup c xs r)]; exact r
   rcases hc with rfl | hc
   ·exact hbe
   ·rintro rfl
    rcases he with z | z
    ·exact nown c b hc z
    ·rw [hc] at z; cases z; exact hb rfl
end
structure Un (fs ex : List Addr) (H H' : Hp) (h h' : Heap) : Prop where
 keep : ∀ b o, h.get? b = some o -> H b = none -> b ∉ fs -> b ∉ ex -> h'.get? b = some o
 slot : ∀ b o, h.get? b = some o -> H b = none -> b ∈ fs -> b ∉ ex -> ∃ sl, h'.get? b = some { o with slots := sl }
 free : ∀ b o, h.get? b = some o -> H b = none -> b ∉ ex -> H' b = none
 there : ∀ b o, h.get? b = some o -> b ∉ ex -> ∃ o', h'.get? b = some o'
 tups : ∀ b xs, H b = some (.tup xs) -> H' b = some (.tup xs)
 frzs : ∀ b o u, H b = some (.frz o u) -> H' b = some (.frz o u)
 tbls : ∀ b ps, H b = some (.tbl ps) -> ∃ more, H' b = some (.tbl (ps ++ more))
section
variable {fs fs' ex ex' : List Addr} {H H1 H2 : Hp} {h h1 h2 h' : Heap} {a x e : Addr} {o : HO}
theorem Un.any (u : Un fs ex H H1 h h1) {b : Addr} {ob : Obj} (q : h.get? b = some ob) (n : H b = none) (hx : b ∉ ex) : ∃ sl, h1.get? b = some { ob with slots := sl } := by
 by_cases hb : b ∈ fs
 ·exact u.slot b ob q n hb hx
 ·exact ⟨ob.slots, u.keep b ob q n hb hx⟩
theorem Un.trans (a : Un fs ex H H1 h h1) (b : Un fs ex H1 H2 h1 h2) : Un fs ex H H2 h h2 where
 keep := fun c ob q n hc hx => b.keep c ob (a.keep c ob q n hc hx) (a.free c ob q n hx) hc hx
 slot := fun c ob q n hc hx => by
  obtain ⟨sl, e1⟩ := a.slot c ob q n hc hx
  obtain ⟨sl', e2⟩ := b.slot c _ e1 (a.free c ob q n hx) hc hx
  exact ⟨sl', e2⟩
 free := fun c ob q n hx => by
  obtain ⟨o', e1⟩ := a.there c ob q hx
  exact b.free c o' e1 (a.free c ob q n hx) hx
 there := fun c ob q hx => by
  obtain ⟨o', e1⟩ := a.there c ob q hx
  exact b.there c o' e1 hx
 tups := fun c xs q => b.tups c xs (a.tups c xs q)
 frzs := fun c ob xs q => b.frzs c ob xs (a.frzs c ob xs q)
 tbls := fun c ps q => by
  obtain ⟨m1, e1⟩ := a.tbls c ps q
  obtain ⟨m2, e2⟩ := b.tbls c _ e1
  exact ⟨m1 ++ m2, by rw [e2, Array.append_assoc]⟩
theorem Un.kept (k : ∀ b u, h.get? b = some u -> h'.get? b = some u) : Un fs ex H H h h' :=
 ⟨fun b ob q _ _ _ => k b ob q, fun b ob q _ _ _ => ⟨ob.slots, k b ob q⟩, fun _ _ _ n _ => n, fun b ob q _ => ⟨ob, k b ob q⟩, fun _ _ q => q, fun _ _ _ q => q, fun _ ps q => ⟨#[], by rw [q]; simp⟩⟩
theorem Un.refl : Un fs ex H H h h := Un.kept fun _ _ q => q
theorem Un.laid (k : ∀ b u, h.get? b = some u -> h'.get? b = some u) (hp : h.objs.size <= a) (hn : H a = none) : Un fs ex H (upd H a o) h h' where
 keep := fun b u q _ _ _ => k b u q
 slot := fun b u q _ _ _ => ⟨u.slots, k b u q⟩
 free := fun b u q n _ => by rw [Jp (Nat.ne_of_lt (Nat.lt_of_lt_of_le (Heap.lt_size q) hp))]; exact n
 there := fun b u q _ => ⟨u, k b u q⟩
 tups := fun b xs q => by rw [Jp (Jaq q hn)]; exact q
 frzs := fun b u xs q => by rw [Jp (Jaq q hn)]; exact q
 tbls := fun b ps q => ⟨#[], by rw [Jp (Jaq q hn), q]; simp⟩
theorem Un.write (mu : Mut (H x)) (he : e = x ∨ H e = some (.own x)) (k : ∀ b u, b ≠ e -> h.get? b = some u -> h'.get? b = some u) (heo : ∃ u, h'.get? e = some u) : Un fs ex H (upd H x o) h h' := by
 have hx : ∀ b, H b = none -> b ≠ x := fun b n z => by subst z; rw [n] at mu; exact mu
 have hb : ∀ b, H b = none -> b ≠ e := fun b n z => by
  subst z
  rcases he with r | r
  ·exact hx b n r
  ·rw [n] at r; cases r
 have hm : ∀ b u, H b = some u -> ¬ Mut (some u) -> b ≠ x := fun b u q nm z => by subst z; rw [q] at mu; exact nm mu
 refine ⟨fun b u q n _ _ => k b u (hb b n) q, fun b u q n _ _ => ⟨u.slots, k b u (hb b n) q⟩, fun b u q n _ => by rw [Jp (hx b n)]; exact n, fun b u q _ => ?_,
  fun b xs q => by rw [Jp (hm b _ q fun z => z)]; exact q, fun b u xs q => by rw [Jp (hm b _ q fun z => z)]; exact q, fun b ps q => ⟨#[], by rw [Jp (hm b _ q fun z => z), q]; simp⟩⟩
 by_cases hbe : b = e
 ·subst hbe; exact heo
 ·exact ⟨u, k b u hbe q⟩
theorem Un.mono (u : Un fs ex H H1 h h1) (hs : ∀ b ∈ fs, b ∈ fs') (hx : ∀ b ∈ ex, b ∈ ex') : Un fs' ex' H H1 h h1 :=
 ⟨fun b ob q n hb he => u.keep b ob q n (fun z => hb (hs b z)) fun z => he (hx b z), fun _ _ q n _ he => u.any q n fun z => he (hx _ z), fun b ob q n he => u.free b ob q n fun z => he (hx b z), fun b ob q he => u.there b ob q fun z => he (hx b z), u.tups, u.frzs, u.tbls⟩
end
noncomputable def trk (h : Heap) (H : Hp) : List Addr := (List.range h.objs.size).filter fun a => (H a).isSome
noncomputable def hidT (h : Heap) (H : Hp) : Heap := W.hideAll h (trk h H)
theorem Jwx (h : Heap) (H : Hp) : (hidT h H).objs.size = h.objs.size := W.hideAll_size _ _
theorem Jza {h : Heap} {H : Hp} {b : Addr} {o : Obj} (e : h.get? b = some o) (n : H b = none) : (hidT h H).get? b = some o :=
 W.hideAll_get _ e fun hm => by
  have q : (H b).isSome = true := (List.mem_filter.mp hm).2
  rw [n] at q; simp at q
theorem J0z {h : Heap} {H : Hp} {b : Addr} {o : Obj} (e : (hidT h H).get? b = some o) : h.get? b = some o /\ H b = none := by
 have e' : h.get? b = some o := W.of_hideAll (trk h H) e
 refine ⟨e', ?_⟩
 cases q : H b with
 | none => rfl
 | some x =>
  have hm : b ∈ trk h H := List.mem_filter.mpr ⟨List.mem_range.mpr (Heap.lt_size e'), by simp [q]⟩
  have z : (hidT h H).get? b = none := W.hideAll_none (trk h H) hm
  rw [z] at e; cases e
noncomputable def J2s (g h : Heap) (L : Addr) : List (Addr × Obj) := (List.range h.objs.size).filterMap fun a => if a = L ∨ (g.get? a).isSome = true then none else (h.get? a).map fun o => (a, o)
noncomputable def rest (g h : Heap) (L d : Addr) : List (Addr × Obj) := (J2s g h L).filter fun p => decide (p.1 ≠ d)
end L2
namespace L2
open PySem PySem.Spec PyProof.Rows
structure Mod (K : W.Frag) (mg : Str -> Option Value) (base : Heap) : Prop where
 kin : K.In base
 glob : base.Ns mainGlobals mg
 blt : ∃ mb, base.Ns builtinsNs mb /\ ∀ x : Str, x ≠ "__name__" -> mb x = bootBuiltins x
 nolimit : base.NoLimit
structure Cx where
 prog : Program
 w : World
 K : W.Frag
 mg : Str -> Option Value
 base : Heap
 A : Around
 N : List Str
 s₀ : Shared
 H₀ : Hp
 env : Env
 outer : List Env
 stack : List Env
 ex : List Addr
 fn : Str -> Bool
 calm : Bool
 pn : List (Addr × Obj)
 xe : Value -> Shared -> Prop
noncomputable def frs (l : List Env) : List Addr := l.filterMap (·.frame)
noncomputable abbrev Cx.fs (X : Cx) : List Addr := frs X.outer
noncomputable def Vis (sc : Scope) (x : Str) : Prop := sc.names.lookup x = some .local ∨ sc.names.lookup x = some .cell ∨ sc.names.lookup x = some .free
noncomputable def Loc (sc : Scope) (x : Str) : Prop := sc.names.lookup x = some .local ∨ sc.names.lookup x = some .cell
noncomputable def Look (env : Env) (h : Heap) (m : Str -> Option Value) (x : Str) (u : Value) : Prop :=
 (env.kindOf x = some .local /\ m x = some u) ∨ ((env.kindOf x = some .cell ∨ env.kindOf x = some .free) /\ ∃ c, env.cells.lookup x = some c /\ h.IsCell c (some u))
structure Cx.Ok (X : Cx) : Prop where
 mod : Mod X.K X.mg X.base
 kind : X.env.scope.kind = .function
 glob : X.env.globals = mainGlobals
 blt : X.env.builtins = builtinsNs
 above : X.s₀.heap.objs.size <= X.env.locals
 inj : ∀ x y c, X.env.cells.lookup x = some c -> X.env.cells.lookup y = some c -> x = y
 has : ∀ x, (X.env.kindOf x = some .cell ∨ X.env.kindOf x = some .free) -> ∃ c, X.env.cells.lookup x = some c
 cab : ∀ x c, X.fn x = true -> X.env.cells.lookup x = some c -> X.s₀.heap.objs.size <= c
 hd : X.calm = true -> X.A.handled = none
 frames : X.A.frames = some X.stack
 stk : X.stack = X.outer ∨ (X.stack = X.env :: X.outer /\ X.env.frame = some X.env.locals)
 exf : ∀ b ∈ X.ex, b ≠ X.env.locals /\ ∀ x c, X.env.cells.lookup x = some c -> c ≠ b
 bs : ∀ b o, X.base.get? b = some o -> X.s₀.heap.get? b = some o /\ X.H₀ b = none
 bsz : X.base.objs.size <= X.s₀.heap.objs.size
 noex : ∀ b o, X.base.get? b = some o -> b ∉ X.ex
 exfs : ∀ b ∈ X.ex, b ∉ X.fs
 funs : X.s₀.heap.FunFrames X.base X.outer
 frf : ∀ b ∈ X.fs, X.H₀ b = none
structure Inv (X : Cx) (pins : List (Addr × Obj)) (σ : List (Option V)) (H : Hp) (s : Shared) : Prop where
 ok : X.Ok
 os : s.os = X.s₀.os
 bare : AllBare s.gens
 base : Un X.fs X.ex X.H₀ H X.s₀.heap s.heap
 loc : ∃ m, s.heap.Ns X.env.locals m /\ ∀ (i : Nat) (x : Str) (v : V), X.N[i]? = some x -> σ[i]? = some (some v) -> Vis X.env.scope x -> ∃ u, RelV v u /\ Look X.env s.heap m x u
 cell : ∀ x c, X.env.cells.lookup x = some c -> ∃ v, s.heap.IsCell c v
 free : H X.env.locals = none
 freeC : ∀ x c, X.env.cells.lookup x = some c -> H c = none
 pin : ∀ p ∈ X.pn ++ pins, s.heap.get? p.1 = some p.2 /\ H p.1 = none /\ p.1 ≠ X.env.locals /\ p.1 ∉ X.fs /\ ∀ v, p.2.data ≠ .cell v
 hok : HOk X.prog X.w H s.heap
 len : σ.length = X.N.length
section
variable {X : Cx} {pins : List (Addr × Obj)} {σ : List (Option V)} {H H' : Hp} {s : Shared} {h' : Heap}
theorem Cx.Ok.nofr (ok : X.Ok) {b : Addr} {o : Obj} (e : X.base.get? b = some o) : b ∉ X.fs := fun hb => by
 have := (ok.funs.mem hb).1
 rw [e] at this; cases this
theorem Inv.bs (I : Inv X pins σ H s) : ∀ b o, X.base.get? b = some o -> s.heap.get? b = some o /\ H b = none := fun b o e =>
 ⟨I.base.keep b o (I.ok.bs b o e).1 (I.ok.bs b o e).2 (I.ok.nofr e) (I.ok.noex b o e), I.base.free b o (I.ok.bs b o e).1 (I.ok.bs b o e).2 (I.ok.noex b o e)⟩
theorem Inv.bk (I : Inv X pins σ H s) : ∀ b o, X.base.get? b = some o -> s.heap.get? b = some o := fun b o e => (I.bs b o e).1
theorem Inv.mod (I : Inv X pins σ H s) : Mod X.K X.mg X.base := I.ok.mod
theorem Inv.kIn (I : Inv X pins σ H s) : X.K.In s.heap := I.ok.mod.kin.keeps I.bk
theorem Inv.nolimit (I : Inv X pins σ H s) : s.heap.NoLimit := I.ok.mod.nolimit.keeps I.bk
theorem Inv.fr (I : Inv X pins σ H s) : ∃ m, Fr X.base X.env.locals s.heap m :=
 let ⟨m, hn, _⟩ := I.loc
 ⟨m, hn, I.bk, Nat.le_trans I.ok.bsz I.ok.above⟩
theorem Inv.lt (I : Inv X pins σ H s) : X.env.locals < s.heap.objs.size := let ⟨_, hn, _⟩ := I.loc; hn.lt
theorem Inv.sz (I : Inv X pins σ H s) : X.s₀.heap.objs.size <= s.heap.objs.size := Nat.le_trans I.ok.above (Nat.le_of_lt I.lt)
theorem Inv.nofs (I : Inv X pins σ H s) {a : Addr} (h : s.heap.objs.size <= a) : a ∉ X.fs := fun hb => by
 obtain ⟨_, o, ho, _⟩ := I.ok.funs.mem hb
 exact absurd (Nat.lt_of_lt_of_le (Heap.lt_size ho) (Nat.le_trans I.sz h)) (Nat.lt_irrefl _)
theorem Inv.cne (I : Inv X pins σ H s) : ∀ x c, X.env.cells.lookup x = some c -> c ≠ X.env.locals := fun x c e z => by
 obtain ⟨v, o, ho, hd⟩ := I.cell x c e
 obtain ⟨m, ⟨o', es, ep, ho', hd', _⟩, _⟩ := I.loc
 rw [z, ho'] at ho; cases ho; rw [hd'] at hd; cases hd
theorem Inv.funs (I : Inv X pins σ H s) : s.heap.FunFrames X.base X.outer := by
 have all : ∀ (l : List Env), (∀ b ∈ frs l, b ∈ X.fs) -> X.s₀.heap.FunFrames X.base l -> s.heap.FunFrames X.base l := by
  intro l
  induction l with
  | nil => intro _ _; trivial
  | cons env r ih =>
   intro hs hl
   obtain ⟨hk, ⟨L, o, hf, hn, ho, hd⟩, hr⟩ := hl
   have hL : L ∈ X.fs := hs L (by unfold frs; rw [List.filterMap_cons, hf]; exact List.mem_cons_self)
   obtain ⟨sl, e⟩ := I.base.slot L o ho (I.ok.frf L hL) hL fun z => I.ok.exfs L z hL
   exact ⟨hk, ⟨L, _, hf, hn, e, hd⟩, ih (fun b hb => hs b (by unfold frs; rw [List.filterMap_cons, hf]; exact List.mem_cons_of_mem _ hb)) hr⟩
 exact all X.outer (fun _ hb => hb) I.ok.funs
theorem Inv.stack (I : Inv X pins σ H s) : s.heap.FunFrames X.base X.stack := by
 rcases I.ok.stk with e | ⟨e, hf⟩
 ·rw [e]; exact I.funs
 ·rw [e]
  obtain ⟨m, hn, _⟩ := I.loc
  refine .cons (by rw [I.ok.kind]; decide) hf hn ?_ I.funs
  exact Heap.get?_none_of_le (Nat.le_trans I.ok.bsz I.ok.above)
theorem Inv.stkSub (I : Inv X pins σ H s) : ∀ b ∈ frs X.stack, b ∈ X.env.locals :: X.fs := fun b hb => by
 rcases I.ok.stk with e | ⟨e, hf⟩
 ·rw [e] at hb; exact List.mem_cons_of_mem _ hb
 ·rw [e] at hb
  unfold frs at hb
  rw [List.filterMap_cons, hf] at hb
  exact hb
theorem Inv.stkFree (I : Inv X pins σ H s) : ∀ b ∈ frs X.stack, H b = none := fun b hb => by
 rcases List.mem_cons.mp (I.stkSub b hb) with e | hb
 ·rw [e]; exact I.free
 ·obtain ⟨_, o, ho, _⟩ := I.ok.funs.mem hb
  exact I.base.free b o ho (I.ok.frf b hb) fun z => I.ok.exfs b z hb
theorem Inv.step {g' : Array GenState} {t' : Nat} {d' : Drawn} {ch : List Addr} (I : Inv X pins σ H s)
  (hch : ∀ b ∈ ch, (b ∈ X.ex ∨ X.s₀.heap.objs.size <= b) /\ b ≠ X.env.locals /\ (∀ x c, X.env.cells.lookup x = some c -> c ≠ b) /\ ∀ p ∈ X.pn ++ pins, p.1 ≠ b)
  (keep : ∀ b o, b ≠ X.env.locals -> b ∉ X.fs -> b ∉ ch -> s.heap.get? b = some o -> H b = none -> h'.get? b = some o)
  (slot : ∀ b o, b ≠ X.env.locals -> b ∈ X.fs -> b ∉ ch -> s.heap.get? b = some o -> H b = none -> ∃ sl, h'.get? b = some { o with slots := sl }) (free : ∀ b o, b ∉ ch -> s.heap.get? b = some o -> H b = none -> H' b = none)
  (there : ∀ b o, b ∉ ch -> s.heap.get? b = some o -> ∃ o', h'.get? b = some o')
  (tups : ∀ b xs, H b = some (.tup xs) -> H' b = some (.tup xs)) (frzs : ∀ b o u, H b = some (.frz o u) -> H' b = some (.frz o u)) (tbls : ∀ b ps, H b = some (.tbl ps) -> ∃ more, H' b = some (.tbl (ps ++ more)))
  (ns : ∀ m, s.heap.Ns X.env.locals m -> h'.Ns X.env.locals m) (hok : HOk X.prog X.w H' h') (hg : AllBare g') :
  Inv X pins σ H' { s with heap := h', gens := g', drawn := d', toks := t' } := by
 have neL : ∀ b o, X.s₀.heap.get? b = some o -> b ≠ X.env.locals := fun b o e => Nat.ne_of_lt (Nat.lt_of_lt_of_le (Heap.lt_size e) I.ok.above)
 have neC : ∀ b o, X.s₀.heap.get? b = some o -> b ∉ X.ex -> b ∉ ch := fun b o e hx hb => by
  rcases (hch b hb).1 with z | z
  ·exact hx z
  ·exact absurd (Nat.lt_of_lt_of_le (Heap.lt_size e) z) (Nat.lt_irrefl _)
 have cellK : ∀ x c, X.env.cells.lookup x = some c -> ∀ v, s.heap.IsCell c v -> h'.IsCell c v := fun x c e v ⟨o, ho, hd⟩ => by
  have nch : c ∉ ch := fun z => (hch c z).2.2.1 x c e rfl
  by_cases hc : c ∈ X.fs
  ·obtain ⟨sl, q⟩ := slot c o (I.cne x c e) hc nch ho (I.freeC x c e)
   exact ⟨_, q, hd⟩
  ·exact ⟨o, keep c o (I.cne x c e) hc nch ho (I.freeC x c e), hd⟩
 refine ⟨I.ok, I.os, hg, ⟨fun b o e n hb hx => ?_, fun b o e n hb hx => ?_, fun b o e n hx => ?_, fun b o e hx => ?_, fun b xs e => tups b xs (I.base.tups b xs e), fun b o xs e => frzs b o xs (I.base.frzs b o xs e), fun b ps e => ?_⟩, ?_, fun x c e => ?_, ?_, fun x c e => ?_, fun p hp => ?_, hok, I.len⟩
 ·exact keep b o (neL b o e) hb (neC b o e hx) (I.base.keep b o e n hb hx) (I.base.free b o e n hx)
 ·obtain ⟨sl, e1⟩ := I.base.slot b o e n hb hx
  obtain ⟨sl', e2⟩ := slot b _ (neL b o e) hb (neC b o e hx) e1 (I.base.free b o e n hx)
  exact ⟨sl', e2⟩
 ·obtain ⟨o', e1⟩ := I.base.there b o e hx
  exact free b o' (neC b o e hx) e1 (I.base.free b o e n hx)
 ·obtain ⟨o', e1⟩ := I.base.there b o e hx
  exact there b o' (neC b o e hx) e1
 ·obtain ⟨m1, e1⟩ := I.base.tbls b ps e
  obtain ⟨m2, e2⟩ := tbls b _ e1
  exact ⟨m1 ++ m2, by rw [e2, Array.append_assoc]⟩
 ·obtain ⟨m, hn, hl⟩ := I.loc
  refine ⟨m, ns m hn, fun i x v e1 e2 e3 => ?_⟩
  obtain ⟨u, r, l⟩ := hl i x v e1 e2 e3
  refine ⟨u, r, ?_⟩
  rcases l with l | ⟨k, c, e, z⟩
  ·exact .inl l
  ·exact .inr ⟨k, c, e, cellK x c e _ z⟩
 ·obtain ⟨v, z⟩ := I.cell x c e
  exact ⟨v, cellK x c e v z⟩
 ·obtain ⟨m, ⟨o, _, _, ho, _⟩, _⟩ := I.loc
  exact free _ o (fun z => (hch _ z).2.1 rfl) ho I.free
 ·obtain ⟨v, o, ho, hd⟩ := I.cell x c e
  exact free c o (fun z => (hch c z).2.2.1 x c e rfl) ho (I.freeC x c e)
 ·obtain ⟨e, n, ne, nf, d⟩ := I.pin p hp
  have nch : p.1 ∉ ch := fun z => (hch p.1 z).2.2.2 p hp rfl
  exact ⟨keep p.1 p.2 ne nf nch e n, free p.1 p.2 nch e n, ne, nf, d⟩
theorem Inv.un {t' : Nat} (I : Inv X pins σ H s) (u : Un X.fs [] H H' s.heap h') (hok : HOk X.prog X.w H' h') : Inv X pins σ H' { s with heap := h', toks := t' } := by
 obtain ⟨m, ⟨o, es, ep, ho, r⟩, _⟩ := id I.loc
 obtain ⟨sl, hL⟩ := u.any ho I.free (by simp)
 exact I.step (g' := s.gens) (d' := s.drawn) (ch := []) (fun _ z => nomatch z) (fun b o _ hb _ e n => u.keep b o e n hb (by simp)) (fun b o _ hb _ e n => u.slot b o e n hb (by simp)) (fun b o _ e n => u.free b o e n (by simp)) (fun b o _ e => u.there b o e (by simp)) u.tups u.frzs u.tbls (fun m' hm => by
  obtain ⟨o', es', ep', ho', r'⟩ := hm
  rw [ho] at ho'; cases ho'
  exact ⟨_, es', ep', hL, r'⟩) hok I.bare
theorem Inv.call {g' : Array GenState} {t' : Nat} {d' : Drawn} {ch : List Addr} (I : Inv X pins σ H s) (u : Un (frs X.stack) ch H H' s.heap h') (hok : HOk X.prog X.w H' h') (hg : AllBare g')
  (hch : ∀ b ∈ ch, (b ∈ X.ex ∨ X.s₀.heap.objs.size <= b) /\ b ≠ X.env.locals /\ (∀ x c, X.env.cells.lookup x = some c -> c ≠ b) /\ ∀ p ∈ X.pn ++ pins, p.1 ≠ b) :
  Inv X pins σ H' { s with heap := h', gens := g', drawn := d', toks := t' } := by
 obtain ⟨m, ⟨o, es, ep, ho, r⟩, _⟩ := id I.loc
 obtain ⟨sl, hL⟩ := u.any ho I.free fun z => (hch _ z).2.1 rfl
 exact I.step (ch := ch) hch (fun b o hL hb hc e n => u.keep b o e n (fun z => (List.mem_cons.mp (I.stkSub b z)).elim hL hb) hc) (fun b o _ _ hc e n => u.any e n hc) (fun b o hc e n => u.free b o e n hc) (fun b o hc e => u.there b o e hc) u.tups u.frzs u.tbls (fun m' hm => by
  obtain ⟨o', es', ep', ho', r'⟩ := hm
  rw [ho] at ho'; cases ho'
  exact ⟨_, es', ep', hL, r'⟩) hok hg
theorem Inv.turned {t' : Nat} {it : Addr} (I : Inv X pins σ H s) (k : ∀ b o, b ≠ it -> s.heap.get? b = some o -> h'.get? b = some o) (hn : H it = none) (hL : it ≠ X.env.locals)
  (h1 : it ∈ X.ex ∨ X.s₀.heap.objs.size <= it) (h2 : ∀ x c, X.env.cells.lookup x = some c -> c ≠ it) (h3 : ∀ p ∈ X.pn ++ pins, p.1 ≠ it) : Inv X pins σ H { s with heap := h', toks := t' } := by
 have nit : ∀ b u, H b = some u -> b ≠ it := fun b u e z => by rw [z, hn] at e; cases e
 refine I.step (g' := s.gens) (d' := s.drawn) (ch := [it]) (fun b hb => ?_) (fun b o _ _ hc e _ => k b o (fun z => hc (by simp [z])) e) (fun b o _ _ hc e _ => ⟨o.slots, k b o (fun z => hc (by simp [z])) e⟩) (fun _ _ _ _ n => n)
  (fun b o hc e => ⟨o, k b o (fun z => hc (by simp [z])) e⟩) (fun _ _ e => e) (fun _ _ _ e => e) (fun b ps e => ⟨#[], by rw [e]; simp⟩) (fun m hm => ?_) (fun b u e => ?_) I.bare
 ·have e : b = it := by simpa using hb
  subst e
  exact ⟨h1, hL, h2, h3⟩
 ·obtain ⟨o, es, ep, ho, r⟩ := hm
  exact ⟨o, es, ep, k _ o (Ne.symm hL) ho, r⟩
 ·refine (I.hok b u e).stay (fun c v hc q => k c v ?_ q) (fun _ q => q) fun _ _ q => q
  rcases hc with z | z
  ·rw [z]; exact nit b u e
  ·exact nit c _ z
theorem Inv.tok (I : Inv X pins σ H s) (t : Nat) : Inv X pins σ H { s with toks := t } := I.un (h' := s.heap) (t' := t) Un.refl I.hok
theorem Inv.kept {t' : Nat} (I : Inv X pins σ H s) (k : ∀ b u, s.heap.get? b = some u -> h'.get? b = some u) : Inv X pins σ H { s with heap := h', toks := t' } := I.un (Un.kept k) (I.hok.kept k)
theorem Inv.laid {a : Addr} {o : HO} {t' : Nat} (I : Inv X pins σ H s) (k : ∀ b u, s.heap.get? b = some u -> h'.get? b = some u) (hp : s.heap.objs.size <= a) (new : Jdl X.prog X.w (upd H a o) h' a o) :
  Inv X pins σ (upd H a o) { s with heap := h', toks := t' } := I.un (Un.laid k hp (I.hok.fresh hp)) (I.hok.laid k hp new)
theorem Inv.write {x e : Addr} {o : HO} {t' : Nat} (I : Inv X pins σ H s) (mu : Mut (H x)) (he : e = x ∨ H e = some (.own x)) (k : ∀ b u, b ≠ e -> s.heap.get? b = some u -> h'.get? b = some u) (heo : ∃ u, h'.get? e = some u)
  (new : Jdl X.prog X.w (upd H x o) h' x o) : Inv X pins σ (upd H x o) { s with heap := h', toks := t' } := I.un (Un.write mu he k heo) (I.hok.write mu he k heo new)
theorem Inv.pins_of {pins' : List (Addr × Obj)} (I : Inv X pins σ H s) (h : ∀ p ∈ pins', s.heap.get? p.1 = some p.2 /\ H p.1 = none /\ p.1 ≠ X.env.locals /\ p.1 ∉ X.fs /\ ∀ v, p.2.data ≠ .cell v) : Inv X pins' σ H s :=
 ⟨I.ok, I.os, I.bare, I.base, I.loc, I.cell, I.free, I.freeC, fun p hp => (List.mem_append.mp hp).elim (fun z => I.pin p (List.mem_append_left _ z)) (h p), I.hok, I.len⟩
theorem Js0 {N : List Str} (hN : N.Nodup) {i j : Nat} {x : Str} (a : N[i]? = some x) (b : N[j]? = some x) : i = j := by
 obtain ⟨h1, e1⟩ := List.getElem?_eq_some_iff.mp a
 obtain ⟨h2, e2⟩ := List.getElem?_eq_some_iff.mp b
 exact (List.getElem_inj hN).mp (e1.trans e2.symm)
theorem Ju2 {M : Model} {A : Around} {E : Value -> Shared -> Prop} {i : Nat} {x : Str} {v : V} {u : Value} {Q : Unit -> Shared -> Prop} (I : Inv X pins σ H s) (hN : X.N.Nodup) (hi : X.N[i]? = some x) (hx : Loc X.env.scope x) (r : RelV v u)
  (h : ∀ s', Inv X pins (σ.set i (some v)) H s' -> (∃ a, Heap.SameBut a s.heap s'.heap /\ (a = X.env.locals ∨ X.env.cells.lookup x = some a)) -> Q () s') (hf : X.fn x = true ∨ X.env.scope.names.lookup x = some .local := by assumption) : wpAny M A (storeName X.env x u) Q E s := by
 obtain ⟨m, hn, hl⟩ := id I.loc
 have hcls : (X.env.scope.kind == .class || (X.env.scope.kind == .module && X.env.locals != X.env.globals)) = false := by rw [I.ok.kind]; rfl
 have hiσ : i < σ.length := by rw [I.len]; exact (List.getElem?_eq_some_iff.mp hi).1
 have cne := I.cne
 have tracked : ∀ {a : Addr} {h' : Heap}, (∃ o, s.heap.get? a = some o /\ H a = none) -> Heap.SameBut a s.heap h' -> HOk X.prog X.w H h' := fun {a h'} ha hs b ob e => by
  obtain ⟨_, _, hfree⟩ := ha
  refine (I.hok b ob e).stay (fun c w' hc q => (hs.2 c ?_).trans q) (fun _ q => q) fun _ _ q => q
  rintro rfl
  rcases hc with rfl | hc
  ·rw [hfree] at e; cases e
  ·rw [hfree] at hc; cases hc
 rcases hx with hk | hk
 ·refine wpAny_storeName_local hk hn (fun h' hn' hs => ?_) hcls
  obtain ⟨oL, _, _, hoL, _⟩ := id hn
  refine h _ ⟨I.ok, I.os, I.bare, ⟨fun b o e n hb hx => ?_, fun b o e n hb hx => ?_, I.base.free, fun b o e hx => ?_, I.base.tups, I.base.frzs, I.base.tbls⟩, ⟨_, hn', fun j y v' e1 e2 e3 => ?_⟩, fun y c e => ?_, I.free, I.freeC, fun p hp => ?_, tracked ⟨oL, hoL, I.free⟩ hs, by simpa using I.len⟩ ⟨_, hs, .inl rfl⟩
  ·exact (hs.2 b (Nat.ne_of_lt (Nat.lt_of_lt_of_le (Heap.lt_size e) I.ok.above))).trans (I.base.keep b o e n hb hx)
  ·obtain ⟨sl, e1⟩ := I.base.slot b o e n hb hx
   exact ⟨sl, (hs.2 b (Nat.ne_of_lt (Nat.lt_of_lt_of_le (Heap.lt_size e) I.ok.above))).trans e1⟩
  ·obtain ⟨o', e1⟩ := I.base.there b o e hx
   exact ⟨o', (hs.2 b (Nat.ne_of_lt (Nat.lt_of_lt_of_le (Heap.lt_size e) I.ok.above))).trans e1⟩
  ·by_cases hj : j = i
   ·subst hj
    rw [hi] at e1; cases e1
    rw [List.getElem?_set_self hiσ] at e2
    cases e2
    exact ⟨u, r, .inl ⟨hk, by simp⟩⟩
   ·rw [List.getElem?_set_ne (Ne.symm hj)] at e2
    obtain ⟨u', r', q⟩ := hl j y v' e1 e2 e3
    refine ⟨u', r', ?_⟩
    rcases q with ⟨k, e⟩ | ⟨k, c, e, z⟩
    ·refine .inl ⟨k, ?_⟩
     have : y ≠ x := fun e => hj (Js0 hN e1 (e ▸ hi))
     simp [this, e]
    ·exact .inr ⟨k, c, e, z.sameBut hs (cne y c e)⟩
  ·obtain ⟨w', z⟩ := I.cell y c e
   exact ⟨w', z.sameBut hs (cne y c e)⟩
  ·obtain ⟨e, n, ne, nf, d⟩ := I.pin p hp
   exact ⟨(hs.2 p.1 ne).trans e, n, ne, nf, d⟩
 ·have hfn : X.fn x = true := by
   rcases hf with z | z
   ·exact z
   ·rw [z] at hk; cases hk
  obtain ⟨c, hc⟩ := I.ok.has x (.inl hk)
  obtain ⟨w', z⟩ := I.cell x c hc
  refine wpAny_storeName_cell I.ok.kind hk hc z (fun h' hc' hs => ?_)
  obtain ⟨oc, hoc, hocd⟩ := id z
  refine h { s with heap := h' } ⟨I.ok, I.os, I.bare, ⟨fun b o e n hb hx => ?_, fun b o e n hb hx => ?_, I.base.free, fun b o e hx => ?_, I.base.tups, I.base.frzs, I.base.tbls⟩, ⟨m, hn.sameBut hs (Ne.symm (cne x c hc)), fun j y v' e1 e2 e3 => ?_⟩, fun y c' e => ?_, I.free, I.freeC, fun p hp => ?_, tracked ⟨oc, hoc, I.freeC x c hc⟩ hs, by simpa using I.len⟩ ⟨c, hs, .inr hc⟩
  ·exact (hs.2 b (Nat.ne_of_lt (Nat.lt_of_lt_of_le (Heap.lt_size e) (I.ok.cab x c hfn hc)))).trans (I.base.keep b o e n hb hx)
  ·obtain ⟨sl, e1⟩ := I.base.slot b o e n hb hx
   exact ⟨sl, (hs.2 b (Nat.ne_of_lt (Nat.lt_of_lt_of_le (Heap.lt_size e) (I.ok.cab x c hfn hc)))).trans e1⟩
  ·obtain ⟨o', e1⟩ := I.base.there b o e hx
   exact ⟨o', (hs.2 b (Nat.ne_of_lt (Nat.lt_of_lt_of_le (Heap.lt_size e) (I.ok.cab x c hfn hc)))).trans e1⟩
  ·by_cases hj : j = i
   ·subst hj
    rw [hi] at e1; cases e1
    rw [List.getElem?_set_self hiσ] at e2
    cases e2
    exact ⟨u, r, .inr ⟨.inl hk, c, hc, hc'⟩⟩
   ·rw [List.getElem?_set_ne (Ne.symm hj)] at e2
    obtain ⟨u', r', q⟩ := hl j y v' e1 e2 e3
    refine ⟨u', r', ?_⟩
    rcases q with q | ⟨k, c', e, z'⟩
    ·exact .inl q
    ·refine .inr ⟨k, c', e, z'.sameBut hs ?_⟩
     rintro rfl
     exact hj (Js0 hN e1 (I.ok.inj _ _ _ e hc ▸ hi))
  ·by_cases hcc : c' = c
   ·subst hcc; exact ⟨_, hc'⟩
   ·obtain ⟨w2, z2⟩ := I.cell y c' e
    exact ⟨w2, z2.sameBut hs hcc⟩
  ·obtain ⟨e, n, ne, nf, d⟩ := I.pin p hp
   refine ⟨(hs.2 p.1 ?_).trans e, n, ne, nf, d⟩
   intro q
   rw [q, hoc] at e
   have q' : oc = p.2 := Option.some.inj e
   exact d w' (by rw [<- q']; exact hocd)
theorem Joc {M : Model} {A : Around} {E : Value -> Shared -> Prop} {i : Nat} {x : Str} {v : V} {u : Value} {Q : Unit -> Shared -> Prop} (I : Inv X pins σ H s) (hN : X.N.Nodup) (hi : X.N[i]? = some x) (hx : Loc X.env.scope x) (r : RelV v u)
  (h : ∀ s', Inv X pins (σ.set i (some v)) H s' -> Q () s') (hf : X.fn x = true ∨ X.env.scope.names.lookup x = some .local := by assumption) : wpAny M A (storeName X.env x u) Q E s :=
 Ju2 I hN hi hx r (fun s' I' _ => h s' I') hf
end
noncomputable abbrev XK := Value -> Option Addr -> Hp -> Prop
noncomputable abbrev St := List (Option V)
noncomputable abbrev VK := V -> Hp -> Prop
noncomputable abbrev TE := St -> Hp -> VK -> Prop
noncomputable abbrev TT := St -> Hp -> (Bool -> Hp -> Prop) -> Prop
noncomputable abbrev TA := St -> Hp -> (List V -> Hp -> Prop) -> Prop
structure Ends where
 nx : St -> Hp -> Prop
 rt : VK
 bk : St -> Hp -> Prop := fun _ _ => False
 ct : St -> Hp -> Prop := fun _ _ => False
noncomputable abbrev TS := Ends -> St -> Hp -> Prop
noncomputable def EP (X : Cx) (pins : List (Addr × Obj)) (σ : St) (Q : VK) (u : Value) (s' : Shared) : Prop := ∃ v H', Inv X pins σ H' s' /\ RelV v u /\ Q v H'
noncomputable def TP (X : Cx) (pins : List (Addr × Obj)) (σ : St) (Q : Bool -> Hp -> Prop) (b : Bool) (s' : Shared) : Prop := ∃ H', Inv X pins σ H' s' /\ Q b H'
noncomputable def SP (X : Cx) (pins : List (Addr × Obj)) (D : Ends) (f : Flow) (s' : Shared) : Prop :=
 match f with
 | .next => ∃ σ' H', Inv X pins σ' H' s' /\ D.nx σ' H'
 | .brk => ∃ σ' H', Inv X pins σ' H' s' /\ D.bk σ' H'
 | .cont => ∃ σ' H', Inv X pins σ' H' s' /\ D.ct σ' H'
 | .ret u => ∃ v σ' H', Inv X pins σ' H' s' /\ RelV v u /\ D.rt v H'
noncomputable def PE (X : Cx) (e : Expr) (t : TE) : Prop :=
 ∀ (pins : List (Addr × Obj)) (s : Shared) (σ : St) (H : Hp) (Q : VK), Inv X pins σ H s -> t σ H Q -> wpAny (model X.prog X.w) X.A (eval e X.env) (EP X pins σ Q) X.xe s
noncomputable def PT (X : Cx) (e : Expr) (t : TT) : Prop :=
 ∀ (pins : List (Addr × Obj)) (s : Shared) (σ : St) (H : Hp) (Q : Bool -> Hp -> Prop), Inv X pins σ H s -> t σ H Q -> wpAny (model X.prog X.w) X.A (isTrue e X.env (eval e X.env)) (TP X pins σ Q) X.xe s
noncomputable def PW (X : Cx) (e : Expr) (t : TT) : Prop :=
 ∀ (whole : Sem Value) (pins : List (Addr × Obj)) (s : Shared) (σ : St) (H : Hp) (Q : Bool -> Hp -> Prop), Inv X pins σ H s -> t σ H Q -> wpAny (model X.prog X.w) X.A (isTrue e X.env whole) (TP X pins σ Q) X.xe s
theorem PW.pt {X : Cx} {e : Expr} {t : TT} (h : PW X e t) : PT X e t := h _
noncomputable def PSs (X : Cx) (st : List Stmt) (t : TS) : Prop :=
 ∀ (pins : List (Addr × Obj)) (s : Shared) (σ : St) (H : Hp) (D : Ends), Inv X pins σ H s -> t D σ H -> wpAny (model X.prog X.w) X.A (execs st X.env) (SP X pins D) X.xe s
theorem thn {α : Type} {t : Sem α} {Q Q' : α -> Shared -> Prop} {M : Model} {A : Around} {E : Value -> Shared -> Prop} {s : Shared} (h : wpAny M A t Q E s) (hQ : ∀ a s, Q a s -> Q' a s) : wpAny M A t Q' E s := wpAny_mono h hQ fun _ _ x => x
end L2
namespace L2
open PySem PySem.Spec PyProof.Rows
section
variable {X : Cx}
noncomputable def tVar (i : Nat) : TE := fun σ H Q => ∃ v, σ[i]? = some (some v) /\ Q v H
noncomputable def tC (v : V) : TE := fun _ H Q => Q v H
theorem J3d {i : Nat} {x : Str} {pos : Pos} (hN : X.N[i]? = some x) (hv : Vis X.env.scope x) (hd : (x == ("__debug__" : Str)) = false := by decide) (hcd : (x == ("__classdict__" : Str)) = false := by decide) : PE X (.Name x pos) (tVar i) := by
 intro pins s σ H Q I h
 obtain ⟨v, e, h⟩ := h
 obtain ⟨m, hn, hl⟩ := I.loc
 obtain ⟨u, r, l⟩ := hl i x v hN e hv
 have fin : EP X pins σ Q u s := ⟨v, H, I, r, h⟩
 rcases l with ⟨hk, hm⟩ | ⟨hk, c, hc, hcell⟩
 ·exact wpAny_Name (wpAny_loadName_local I.ok.kind hk hn hm fin) hd
 ·rcases hk with hk | hk
  ·exact wpAny_Name (wpAny_loadName_cell I.ok.kind hk hc hcell fin) hd
  ·exact wpAny_Name (wpAny_loadName_free I.ok.kind hk hc hcell fin hcd) hd
theorem J3q {i j pos} : PE X (.Constant (.int i) j pos) (tC (.int i)) := fun _ _ _ H _ I h => wpAny_Constant_int ⟨.int i, H, I.tok _, ⟨_, rfl⟩, h⟩
theorem pe_bl {b j pos} : PE X (.Constant (.bool b) j pos) (tC (.bl b)) := fun _ _ _ H _ I h => Constant_bool ⟨.bl b, H, I, rfl, h⟩
theorem J4h {j pos} : PE X (.Constant .none j pos) (tC .non) := fun _ _ _ H _ I h => Constant_none ⟨.non, H, I, rfl, h⟩
theorem J4c {x j pos} : PE X (.Constant (.str x) j pos) (tC (.str x)) := fun _ _ _ H _ I h => Calls.Constant_str ⟨.str x, H, I.tok _, ⟨_, rfl⟩, h⟩
noncomputable def Gl (X : Cx) (x : Str) : Prop := X.env.kindOf x = some .globalImplicit
theorem Jjo {E : Value -> Shared -> Prop} {pins : List (Addr × Obj)} {s : Shared} {σ : St} {H : Hp} {x : Str} {u : Value} {pos : Pos} {Q : Value -> Shared -> Prop} (I : Inv X pins σ H s) (hg : Gl X x) (hm : X.mg x = some u) (h : Q u s)
  (hd : (x == ("__debug__" : Str)) = false := by decide) : wpAny (model X.prog X.w) X.A (eval (.Name x pos) X.env) Q E s :=
 Calls.Name_function_global I.ok.kind hg (Calls.loadGlobal_global (by rw [I.ok.glob]; exact I.mod.glob.keeps I.bk) hm h) hd
theorem Jde {E : Value -> Shared -> Prop} {pins : List (Addr × Obj)} {s : Shared} {σ : St} {H : Hp} {x : Str} {u : Value} {pos : Pos} {Q : Value -> Shared -> Prop} (I : Inv X pins σ H s) (hg : Gl X x) (hm : X.mg x = none) (hv : bootBuiltins x = some u) (h : Q u s)
  (hn : x ≠ "__name__" := by decide) (hd : (x == ("__debug__" : Str)) = false := by decide) : wpAny (model X.prog X.w) X.A (eval (.Name x pos) X.env) Q E s := by
 obtain ⟨mb, h1, h2⟩ := I.mod.blt
 exact Calls.Name_function_global I.ok.kind hg (Calls.loadGlobal_builtin (by rw [I.ok.glob]; exact I.mod.glob.keeps I.bk) hm (by rw [I.ok.blt]; exact h1.keeps I.bk) ((h2 x hn).trans hv) h) hd
theorem J1i {x : Str} {v : V} {u : Value} {pos : Pos} (hg : Gl X x) (hm : X.mg x = some u) (r : RelV v u) (hd : (x == ("__debug__" : Str)) = false := by decide) : PE X (.Name x pos) (tC v) :=
 fun _ _ _ H _ I h => Jjo I hg hm ⟨v, H, I, r, h⟩ hd
variable {a b : Expr} {ta tb : TE} {pos : Pos}
variable {tA tB' : TT} {rest : List Expr}
end
end L2
namespace L2
open PySem PySem.Spec PyProof.Rows
noncomputable def SqL (K : W.Frag) (H : Hp) (a : Addr) (xs : List V) : Prop :=
 Rd H a (.lst xs) ∨
  ∃ (o : Obj) (its : Array Value) (n : Nat), K.lookup a = some o /\ o.cls = .type "list" /\ o.dict = none /\ o.data = .seq its n /\ its.size <= sizeLine /\ Vals xs its.toList
noncomputable def SqT (K : W.Frag) (H : Hp) (a : Addr) (xs : List V) : Prop :=
 Rd H a (.tup xs) ∨
  ∃ (o : Obj) (its : Array Value) (n : Nat), K.lookup a = some o /\ o.cls = .type "tuple" /\ o.data = .seq its n /\ its.size <= sizeLine /\ Vals xs its.toList
noncomputable def absV : Value -> Option V
 | .none => some .non
 | .bool b => some (.bl b)
 | .int i _ => some (.int i)
 | .str x _ => some (.str x)
 | .bytes b _ => some (.byt b)
 | .float b _ => some (.flt b)
 | .ref a => some (.ref a)
 | .type n => some (.ty n)
 | _ => none
theorem RelV.abs {x : V} {u : Value} (r : RelV x u) : absV u = some x := by
 cases x with
 | non => cases r; rfl
 | bl _ => cases r; rfl
 | int _ => obtain ⟨t, rfl⟩ := r; rfl
 | str _ => obtain ⟨t, rfl⟩ := r; rfl
 | byt _ => obtain ⟨t, rfl⟩ := r; rfl
 | flt _ => obtain ⟨t, rfl⟩ := r; rfl
 | ref _ => cases r; rfl
 | ty _ => cases r; rfl
theorem RelV.inj {x y : V} {u : Value} (r : RelV x u) (q : RelV y u) : x = y := Option.some.inj (r.abs.symm.trans q.abs)
theorem Vals.inj : ∀ {xs ys : List V} {us : List Value}, Vals xs us -> Vals ys us -> xs = ys
 | _, _, _, .nil, .nil => rfl
 | _, _, _, .cons r t, .cons r' t' => by rw [r.inj r', Vals.inj t t']
section
variable {X : Cx} {pins : List (Addr × Obj)} {σ : St} {H : Hp} {s : Shared} {a : Addr} {xs ys : List V}
theorem SqL.of {K : W.Frag} (h : H a = some (.lst xs)) : SqL K H a xs := .inl (.inl h)
theorem SqT.of {K : W.Frag} (h : H a = some (.tup xs)) : SqT K H a xs := .inl (.inl h)
theorem Inv.list (I : Inv X pins σ H s) (h : SqL X.K H a xs) : ∃ its : List Value, Vals xs its /\ PlainL s.heap a its.toArray /\ xs.length <= sizeLine := by
 rcases h with h | ⟨o, its, n, hk, hc, hd, hs, hz, r⟩
 ·obtain ⟨z, its, n, r, e⟩ := h.ok I.hok
  exact ⟨its, r, ⟨_, n, e, rfl, rfl, rfl⟩, z⟩
 ·refine ⟨its.toList, r, ⟨o, n, I.kIn a o hk, hc, hd, by simpa using hs⟩, ?_⟩
  have e := r.length
  simp only [Array.length_toList] at e
  omega
theorem Inv.tuple (I : Inv X pins σ H s) (h : SqT X.K H a xs) : ∃ its : List Value, Vals xs its /\ IsTup s.heap a its.toArray /\ xs.length <= sizeLine := by
 rcases h with h | ⟨o, its, n, hk, hc, hs, hz, r⟩
 ·obtain ⟨z, its, r, p⟩ := h.ok I.hok
  exact ⟨its, r, p, z⟩
 ·refine ⟨its.toList, r, ⟨o, I.kIn a o hk, hc, n, by simpa using hs⟩, ?_⟩
  have e := r.length
  simp only [Array.length_toList] at e
  omega
theorem Inv.list_inj (I : Inv X pins σ H s) (h : SqL X.K H a xs) (h' : SqL X.K H a ys) : xs = ys := by
 obtain ⟨its, r, ⟨o, n, e, _, _, d⟩, _⟩ := I.list h
 obtain ⟨its', r', ⟨o', n', e', _, _, d'⟩, _⟩ := I.list h'
 rw [e] at e'; cases e'
 rw [d] at d'
 injection d' with d1 _
 have : its = its' := by simpa using congrArg Array.toList d1
 subst this
 exact r.inj r'
theorem Inv.tuple_inj (I : Inv X pins σ H s) (h : SqT X.K H a xs) (h' : SqT X.K H a ys) : xs = ys := by
 obtain ⟨its, r, ⟨o, e, _, n, d⟩, _⟩ := I.tuple h
 obtain ⟨its', r', ⟨o', e', _, n', d'⟩, _⟩ := I.tuple h'
 rw [e] at e'; cases e'
 rw [d] at d'
 injection d' with d1 _
 have : its = its' := by simpa using congrArg Array.toList d1
 subst this
 exact r.inj r'
end
noncomputable abbrev Cx.wish (X : Cx) (E : Value -> Shared -> Prop) : Cx := { X with xe := E }
noncomputable abbrev Cx.nox (X : Cx) : Cx := X.wish fun _ _ => False
theorem Cx.Ok.wish {X : Cx} (ok : X.Ok) (E : Value -> Shared -> Prop) : (X.wish E).Ok :=
 ⟨ok.mod, ok.kind, ok.glob, ok.blt, ok.above, ok.inj, ok.has, ok.cab, ok.hd, ok.frames, ok.stk, ok.exf, ok.bs, ok.bsz, ok.noex, ok.exfs, ok.funs, ok.frf⟩
theorem Cx.Ok.unwish {X : Cx} {E : Value -> Shared -> Prop} (ok : (X.wish E).Ok) : X.Ok :=
 ⟨ok.mod, ok.kind, ok.glob, ok.blt, ok.above, ok.inj, ok.has, ok.cab, ok.hd, ok.frames, ok.stk, ok.exf, ok.bs, ok.bsz, ok.noex, ok.exfs, ok.funs, ok.frf⟩
section
variable {X : Cx} {pins : List (Addr × Obj)} {σ : St} {H : Hp} {s : Shared} {E : Value -> Shared -> Prop}
theorem Inv.wish (I : Inv X pins σ H s) (E : Value -> Shared -> Prop) : Inv (X.wish E) pins σ H s := ⟨I.ok.wish E, I.os, I.bare, I.base, I.loc, I.cell, I.free, I.freeC, I.pin, I.hok, I.len⟩
theorem Inv.unwish (I : Inv (X.wish E) pins σ H s) : Inv X pins σ H s := ⟨I.ok.unwish, I.os, I.bare, I.base, I.loc, I.cell, I.free, I.freeC, I.pin, I.hok, I.len⟩
theorem SP.unwish {D : Ends} {f : Flow} {s' : Shared} (h : SP (X.wish E) pins D f s') : SP X pins D f s' := by
 cases f with
 | next => obtain ⟨σ', H', I, q⟩ := h; exact ⟨σ', H', I.unwish, q⟩
 | brk => obtain ⟨σ', H', I, q⟩ := h; exact ⟨σ', H', I.unwish, q⟩
 | cont => obtain ⟨σ', H', I, q⟩ := h; exact ⟨σ', H', I.unwish, q⟩
 | ret u => obtain ⟨v, σ', H', I, r, q⟩ := h; exact ⟨v, σ', H', I.unwish, r, q⟩
theorem PE.nox {e : Expr} {t : TE} (h : PE X.nox e t) : PE X e t := fun pins s σ H Q I hw =>
 wpAny_mono (h pins s σ H Q (I.wish _) hw) (fun _ _ ⟨v, H', I', r, q⟩ => ⟨v, H', I'.unwish, r, q⟩) fun _ _ z => False.elim z
theorem PT.nox {e : Expr} {t : TT} (h : PT X.nox e t) : PT X e t := fun pins s σ H Q I hw =>
 wpAny_mono (h pins s σ H Q (I.wish _) hw) (fun _ _ ⟨H', I', q⟩ => ⟨H', I'.unwish, q⟩) fun _ _ z => False.elim z
theorem PSs.nox {st : List Stmt} {t : TS} (h : PSs X.nox st t) : PSs X st t := fun pins s σ H D I hw =>
 wpAny_mono (h pins s σ H D (I.wish _) hw) (fun _ _ q => q.unwish) fun _ _ z => False.elim z
end
section
variable {X : Cx} {st : Stmt} {rest : List Stmt} {t u : TS} {e : Expr} {te : TE} {pos : Pos}
theorem Inv.quiet {pins : List (Addr × Obj)} {σ : St} {H : Hp} {s : Shared} (I : Inv X pins σ H s) : interactive X.env = false := by simp [interactive, I.ok.kind]
end
noncomputable abbrev TSet := V -> V -> V -> Hp -> (Hp -> Prop) -> Prop
noncomputable def PSet (X : Cx) (t : TSet) : Prop :=
 ∀ (pins : List (Addr × Obj)) (s : Shared) (σ : St) (H : Hp) (o i v : V) (ov iv u : Value) (Q : Hp -> Prop), Inv X pins σ H s -> RelV o ov -> RelV i iv -> RelV v u -> t o i v H Q ->
  wpAny (model X.prog X.w) X.A (setItem ov iv u) (fun _ s' => ∃ H', Inv X pins σ H' s' /\ Q H') X.xe s
noncomputable abbrev TIp := V -> V -> Hp -> VK -> Prop
section
variable {X : Cx} {pos : Pos}
noncomputable def ipI (f : Int -> Int -> Int) : TIp := fun x y H Q => ∃ i j, x = .int i /\ y = .int j /\ Q (.int (f i j)) H
end
section
variable {X : Cx} {pos : Pos}
end
structure It where
 go : Nat -> Hp -> Prop
 yld : Nat -> Hp -> V -> Hp -> Prop
 stop : Nat -> Hp -> Prop
noncomputable def FpOk (X : Cx) (pins : List (Addr × Obj)) (H : Hp) (b : Addr) : Prop :=
 H b = none /\ b ≠ X.env.locals /\ b ∉ X.fs /\ (b ∈ X.ex ∨ X.s₀.heap.objs.size <= b) /\ (∀ x c, X.env.cells.lookup x = some c -> c ≠ b) /\ ∀ p ∈ X.pn ++ pins, p.1 ≠ b
theorem Inv.fpOk {X : Cx} {pins : List (Addr × Obj)} {σ : St} {H H' : Hp} {s : Shared} {b : Addr} (I : Inv X pins σ H s) (hb : s.heap.objs.size <= b) (hn : H' b = none) : FpOk X pins H' b := by
 refine ⟨hn, Nat.ne_of_gt (Nat.lt_of_lt_of_le I.lt hb), I.nofs hb, .inr (Nat.le_trans I.sz hb), fun x c e z => ?_, fun p hp z => ?_⟩
 ·obtain ⟨v, q⟩ := I.cell x c e
  exact absurd (Nat.lt_of_lt_of_le q.lt (by rw [z]; exact hb)) (Nat.lt_irrefl _)
 ·exact absurd (Nat.lt_of_lt_of_le (Heap.lt_size (I.pin p hp).1) (by rw [z]; exact hb)) (Nat.lt_irrefl _)
structure Turn (P : Program) (w : World) (K : W.Frag) (tg : Expr) (J : It) (fp : List Addr) (it : Addr) (tn : Nat -> Heap -> Prop) : Prop where
 mem : it ∈ fp
 obj : ∀ i h, tn i h -> ∀ b ∈ fp, ∃ o, h.get? b = some o /\ ∀ v, o.data ≠ .cell v
 keep : ∀ i h h', tn i h -> (∀ b ∈ fp, ∀ o, h.get? b = some o -> h'.get? b = some o) -> tn i h'
 item : ∀ (X : Cx), X.prog = P -> X.w = w -> X.K = K -> X.calm = true -> ∀ (i : Nat) (pins : List (Addr × Obj)) (s : Shared) (σ : St) (H : Hp) (E : Value -> Shared -> Prop), Inv X pins σ H s -> (∀ b ∈ fp, FpOk X pins H b) -> tn i s.heap -> J.go i H ->
  wpAny (model P w) X.A (pyNext (.ref it)) (fun r s1 => ∃ u, r = some u /\
   wpAny (model P w) X.A (letOwnedTupleGo tg (.ref it) u) (fun _ s2 => ∃ x H', Inv X pins σ H' s2 /\ RelV x u /\ J.yld i H x H' /\ tn (i + 1) s2.heap /\ ∀ b ∈ fp, H' b = none) E s1) E s
 done : ∀ (X : Cx), X.prog = P -> X.w = w -> X.K = K -> X.calm = true -> ∀ (i : Nat) (pins : List (Addr × Obj)) (s : Shared) (σ : St) (H : Hp) (E : Value -> Shared -> Prop), Inv X pins σ H s -> (∀ b ∈ fp, FpOk X pins H b) -> tn i s.heap -> J.stop i H ->
  wpAny (model P w) X.A (pyNext (.ref it)) (fun r s1 => r = none /\ Inv X pins σ H s1) E s
 self : ∀ (A : Around) (i : Nat) (s : Shared) (Q : Value -> Shared -> Prop) (E : Value -> Shared -> Prop), tn i s.heap -> Q (.ref it) s -> wpAny (model P w) A (pyIter (.ref it)) Q E s
noncomputable abbrev TI := St -> Hp -> (It -> Hp -> Prop) -> Prop
noncomputable def PIE (X : Cx) (pins : List (Addr × Obj)) (σ : St) (tg : Expr) (R : It -> Hp -> Prop) (itv : Value) (s2 : Shared) : Prop :=
 ∃ (it : Addr) (fp : List Addr) (tn : Nat -> Heap -> Prop) (J : It) (H' : Hp), itv = .ref it /\ Inv X pins σ H' s2 /\ Turn X.prog X.w X.K tg J fp it tn /\ tn 0 s2.heap /\ (∀ b ∈ fp, FpOk X pins H' b) /\ R J H'
noncomputable def PI (X : Cx) (tg iter : Expr) (wi : TI) : Prop :=
 ∀ (pins : List (Addr × Obj)) (s : Shared) (σ : St) (H : Hp) (R : It -> Hp -> Prop), Inv X pins σ H s -> wi σ H R ->
  wpAny (model X.prog X.w) X.A (eval iter X.env) (fun v s1 => wpAny (model X.prog X.w) X.A (pyIter v) (PIE X pins σ tg R) X.xe s1) X.xe s
theorem Jzs {M : Model} {A : Around} {E : Value -> Shared -> Prop} {s : Shared} {tg : Expr} {it : Addr} {u : Value} {o : Obj} {n : String} {vs : Array Value} {Q : Unit -> Shared -> Prop} (ho : s.heap.get? it = some o) (hc : o.cls = .type n) (hd : o.data = .fields vs)
  (hn : ["enumerate", "zip", "dict_itemiterator", "dict_reverseitemiterator", "odict_iterator", "itertools.zip_longest", "itertools.pairwise"].contains n = false) (hQ : Q () s) : wpAny M A (letOwnedTupleGo tg (.ref it) u) Q E s := by
 unfold letOwnedTupleGo
 cases tg <;> first
  | exact wpAny_pure hQ
  | (cases u <;> first
    | exact wpAny_pure hQ
    | (refine wpAny_bind (wpAny_load ho ?_)
       rw [hc, hd]
       show wpAny M A (if (["enumerate", "zip", "dict_itemiterator", "dict_reverseitemiterator", "odict_iterator", "itertools.zip_longest", "itertools.pairwise"].contains n && vs[0]? == some (rawInt _)) = true then _ else _) Q E s
       rw [if_neg (by intro h; rw [hn, Bool.false_and] at h; cases h)]
       exact wpAny_pure hQ))
noncomputable def Itl (K : W.Frag) (a : Addr) : It :=
 ⟨fun i H => ∃ xs x, SqL K H a xs /\ xs[i]? = some x, fun i H x H' => H' = H /\ ∀ xs, SqL K H a xs -> xs[i]? = some x, fun i H => ∃ xs, SqL K H a xs /\ xs.length <= i⟩
noncomputable def Itt (K : W.Frag) (a : Addr) : It :=
 ⟨fun i H => ∃ xs x, SqT K H a xs /\ xs[i]? = some x, fun i H x H' => H' = H /\ ∀ xs, SqT K H a xs -> xs[i]? = some x, fun i H => ∃ xs, SqT K H a xs /\ xs.length <= i⟩
noncomputable def Itr (lo : Int) (n : Nat) : It := ⟨fun i _ => i < n, fun i H x H' => H' = H /\ x = .int (lo + i), fun i _ => n <= i⟩
theorem Jov {P : Program} {w : World} {K : W.Frag} {tg : Expr} (a it : Addr) : Turn P w K tg (Itl K a) [it] it (fun i h => h.IsListIter it a i) where
 mem := by simp
 obj := fun i h st b hb => by
  have e : b = it := by simpa using hb
  subst e
  obtain ⟨o, e, c, d⟩ := st
  exact ⟨o, e, fun v z => by rw [d] at z; cases z⟩
 keep := fun i h h' st k => st.at fun o e => k it (by simp) o e
 item := by
  intro X hP hw hK hc i pins s σ H E I hf st hg
  subst hP hw hK
  obtain ⟨xs, x, hq, hx⟩ := hg
  obtain ⟨its, rv, p, hz⟩ := I.list hq
  obtain ⟨u, hu, ru⟩ := rv.get hx
  obtain ⟨f0, f1, f2, f3, f4, f5⟩ := hf it (by simp)
  refine wpAny_pyNext_list_item st p.isList (x := u) (by simpa using hu) fun h' st' sb => ?_
  have I1 : Inv X pins σ H { s with heap := h' } := I.turned (t' := s.toks) (fun b o hb e => (sb.2 b hb).trans e) f0 f1 f3 f4 f5
  obtain ⟨o, e, c, d⟩ := id st'
  exact ⟨u, rfl, Jzs (s := { s with heap := h' }) e c d (by decide) ⟨x, H, I1, ru, ⟨rfl, fun ys hy => by rw [I.list_inj hy hq]; exact hx⟩, st', fun b hb => (hf b hb).1⟩⟩
 done := by
  intro X hP hw hK hc i pins s σ H E I hf st hg
  subst hP hw hK
  obtain ⟨xs, hq, hx⟩ := hg
  obtain ⟨its, rv, p, hz⟩ := I.list hq
  obtain ⟨f0, f1, f2, f3, f4, f5⟩ := hf it (by simp)
  have hl := rv.length
  exact wpAny_pyNext_list_end (I.ok.hd hc) st p.isList (by simp; omega) fun h' eb => ⟨rfl, I.turned (t' := s.toks) (fun b o hb e => eb b o hb e) f0 f1 f3 f4 f5⟩
 self := fun _ _ _ _ _ st h => wpAny_pyIter_listiter st h
theorem Js9 {P : Program} {w : World} {K : W.Frag} {tg : Expr} (a it : Addr) : Turn P w K tg (Itt K a) [it] it (fun i h => h.IsTupleIter it a i) where
 mem := by simp
 obj := fun i h st b hb => by
  have e : b = it := by simpa using hb
  subst e
  obtain ⟨o, e, c, d⟩ := st
  exact ⟨o, e, fun v z => by rw [d] at z; cases z⟩
 keep := fun i h h' st k => st.at fun o e => k it (by simp) o e
 item := by
  intro X hP hw hK hc i pins s σ H E I hf st hg
  subst hP hw hK
  obtain ⟨xs, x, hq, hx⟩ := hg
  obtain ⟨its, rv, p, hz⟩ := I.tuple hq
  obtain ⟨u, hu, ru⟩ := rv.get hx
  obtain ⟨f0, f1, f2, f3, f4, f5⟩ := hf it (by simp)
  refine wpAny_pyNext_tuple_item st (show s.heap.IsTuple a its.toArray from p) (x := u) (by simpa using hu) fun h' st' sb => ?_
  have I1 : Inv X pins σ H { s with heap := h' } := I.turned (t' := s.toks) (fun b o hb e => (sb.2 b hb).trans e) f0 f1 f3 f4 f5
  obtain ⟨o, e, c, d⟩ := id st'
  exact ⟨u, rfl, Jzs (s := { s with heap := h' }) e c d (by decide) ⟨x, H, I1, ru, ⟨rfl, fun ys hy => by rw [I.tuple_inj hy hq]; exact hx⟩, st', fun b hb => (hf b hb).1⟩⟩
 done := by
  intro X hP hw hK hc i pins s σ H E I hf st hg
  subst hP hw hK
  obtain ⟨xs, hq, hx⟩ := hg
  obtain ⟨its, rv, p, hz⟩ := I.tuple hq
  obtain ⟨f0, f1, f2, f3, f4, f5⟩ := hf it (by simp)
  have hl := rv.length
  exact wpAny_pyNext_tuple_end (I.ok.hd hc) st (show s.heap.IsTuple a its.toArray from p) (by simp; omega) fun h' eb => ⟨rfl, I.turned (t' := s.toks) (fun b o hb e => eb b o hb e) f0 f1 f3 f4 f5⟩
 self := fun _ _ _ _ _ st h => wpAny_pyIter_tupleiter st h
theorem Jul {P : Program} {w : World} {K : W.Frag} {tg : Expr} (it : Addr) (lo : Int) (n : Nat) : Turn P w K tg (Itr lo n) [it] it (fun i h => IsRangeIter h it (lo + (i : Nat) * 1) ((n : Int) - (i : Nat)) 1) where
 mem := by simp
 obj := fun i h st b hb => by
  have e : b = it := by simpa using hb
  subst e
  exact ⟨_, st, fun v z => by
   have z' : Data.fields _ = Data.cell v := z
   cases z'⟩
 keep := fun i h h' st k => k it (by simp) _ st
 item := by
  intro X hP hw hK hc i pins s σ H E I hf st hg
  subst hP hw hK
  obtain ⟨f0, f1, f2, f3, f4, f5⟩ := hf it (by simp)
  have W := Walks.range (prog := X.prog) (w := X.w) (I.ok.hd hc) it lo 1 n
  refine W.item i s _ _ hg st fun v h' tk hv st' kk => ?_
  obtain ⟨t, rfl⟩ := hv
  have I1 : Inv X pins σ H { s with heap := h', toks := tk } := I.turned (fun b o hb e => kk b o (by simpa using hb) e) f0 f1 f3 f4 f5
  refine ⟨_, rfl, Jzs (s := { s with heap := h', toks := tk }) (n := "range_iterator") st' rfl rfl (by decide) ⟨.int (lo + i), H, I1, ⟨t, ?_⟩, ⟨rfl, rfl⟩, st', fun b hb => (hf b hb).1⟩⟩
  rw [Int.mul_one]
 done := by
  intro X hP hw hK hc i pins s σ H E I hf st hg
  subst hP hw hK
  obtain ⟨f0, f1, f2, f3, f4, f5⟩ := hf it (by simp)
  exact wpAny_pyNext_range_end (I.ok.hd hc) st (by have : n <= i := hg; omega) fun h' eb => ⟨rfl, I.turned (t' := s.toks) (fun b o hb e => eb b o hb e) f0 f1 f3 f4 f5⟩
 self := fun _ _ _ _ _ st h => wpAny_pyIter_rangeiter st h
end L2
namespace L2
open PySem PySem.Spec PyProof.Rows
section
variable {X : Cx} {tg : Expr}
theorem Jzd {pins : List (Addr × Obj)} {σ : St} {H : Hp} {s : Shared} {R : It -> Hp -> Prop} {E : Value -> Shared -> Prop} {lo hi : Int} {t u v : Tok} {tk : Nat} (I : Inv X pins σ H s) (h1 : -(2 ^ 62) <= lo) (h2 : lo < 2 ^ 62) (h3 : -(2 ^ 62) <= hi) (h4 : hi < 2 ^ 62)
  (q : R (Itr lo (hi - lo).toNat) H) : wpAny (model X.prog X.w) X.A (pyIter (.ref s.heap.objs.size)) (PIE X pins σ tg R) E { s with heap := s.heap.push { cls := .type "range", data := .fields #[.int lo t, .int hi u, .int 1 v] }, toks := tk } := by
 refine wpAny_pyIter_range (IsRange.new ..) (small_one h1 h2 h3 h4) ?_
 have I1 : Inv X pins σ H { s with heap := s.heap.push { cls := .type "range", data := .fields #[.int lo t, .int hi u, .int 1 v] }, toks := tk } := I.kept fun b o e => Heap.get?_push_of_some _ e
 refine ⟨(s.heap.push { cls := .type "range", data := .fields #[.int lo t, .int hi u, .int 1 v] }).objs.size, [(s.heap.push { cls := .type "range", data := .fields #[.int lo t, .int hi u, .int 1 v] }).objs.size], _, _, H, rfl,
  I1.kept (t' := tk) fun b o e => Heap.get?_push_of_some _ e, Jul _ lo (hi - lo).toNat, ?_, fun b hb => ?_, q⟩
 ·have e1 : lo + ((0 : Nat) : Int) * 1 = lo := by simp
  have e2 : (((hi - lo).toNat : Nat) : Int) - ((0 : Nat) : Int) = Builtin.Range.rangeSize lo hi 1 := by rw [rangeSize_one]; split <;> omega
  show IsRangeIter _ _ (lo + ((0 : Nat) : Int) * 1) ((((hi - lo).toNat : Nat) : Int) - ((0 : Nat) : Int)) 1
  rw [e1, e2]
  exact Heap.get?_push_size _ rfl
 ·have e : b = (s.heap.push { cls := .type "range", data := .fields #[.int lo t, .int hi u, .int 1 v] }).objs.size := by simpa using hb
  subst e
  exact I1.fpOk (Nat.le_refl _) (I1.hok.fresh (Nat.le_refl _))
noncomputable def Jgb (fp : List Addr) (h : Heap) : List (Addr × Obj) := fp.filterMap fun b => (h.get? b).map fun o => (b, o)
theorem Jd3 {fp : List Addr} {h : Heap} {b : Addr} {o : Obj} (hb : b ∈ fp) (e : h.get? b = some o) : (b, o) ∈ Jgb fp h := List.mem_filterMap.mpr ⟨b, hb, by rw [e]; rfl⟩
theorem Jwp {fp : List Addr} {h : Heap} {p : Addr × Obj} (hp : p ∈ Jgb fp h) : p.1 ∈ fp /\ h.get? p.1 = some p.2 := by
 obtain ⟨b, hb, e⟩ := List.mem_filterMap.mp hp
 cases q : h.get? b with
 | none => rw [q] at e; cases e
 | some o =>
  rw [q] at e
  have e' : (b, o) = p := Option.some.inj e
  subst e'
  exact ⟨hb, q⟩
theorem Inv.pinned {pins : List (Addr × Obj)} {σ : St} {H : Hp} {s : Shared} {fp : List Addr} (I : Inv X pins σ H s) (hf : ∀ b ∈ fp, FpOk X pins H b) (ho : ∀ b ∈ fp, ∃ o, s.heap.get? b = some o /\ ∀ v, o.data ≠ .cell v) : Inv X (pins ++ Jgb fp s.heap) σ H s :=
 I.pins_of fun p hp => (List.mem_append.mp hp).elim (fun z => I.pin p (List.mem_append_right _ z)) fun z => by
  obtain ⟨hb, e⟩ := Jwp z
  obtain ⟨f0, f1, f2, _⟩ := hf p.1 hb
  obtain ⟨o, e', d⟩ := ho p.1 hb
  rw [e] at e'; cases e'
  exact ⟨e, f0, f1, f2, d⟩
theorem Inv.unpinned {pins pl : List (Addr × Obj)} {σ : St} {H : Hp} {s : Shared} (I : Inv X (pins ++ pl) σ H s) : Inv X pins σ H s := I.pins_of fun p hp => I.pin p (List.mem_append_right _ (List.mem_append_left _ hp))
end
end L2
namespace L2
open PySem PySem.Spec PyProof.Rows
noncomputable abbrev R2 := V -> V -> Hp -> VK -> Prop
noncomputable def OpR (X : Cx) (f : Value -> Value -> Sem Value) (r : R2) : Prop :=
 ∀ (pins : List (Addr × Obj)) (s : Shared) (σ : St) (H : Hp) (x y : V) (v u : Value) (Q : VK), Inv X pins σ H s -> RelV x v -> RelV y u -> r x y H Q ->
  wpAny (model X.prog X.w) X.A (f v u) (EP X pins σ Q) X.xe s
noncomputable def UnR (X : Cx) (f : Value -> Sem Value) (r : V -> Hp -> VK -> Prop) : Prop :=
 ∀ (pins : List (Addr × Obj)) (s : Shared) (σ : St) (H : Hp) (x : V) (v : Value) (Q : VK), Inv X pins σ H s -> RelV x v -> r x H Q ->
  wpAny (model X.prog X.w) X.A (f v) (EP X pins σ Q) X.xe s
noncomputable def Jq5 (X : Cx) (f : Value) (r : List V -> Hp -> VK -> Prop) : Prop :=
 ∀ (pins : List (Addr × Obj)) (s : Shared) (σ : St) (H : Hp) (xs : List V) (us : List Value) (Q : VK), Inv X pins σ H s -> Vals xs us -> r xs H Q ->
  wpAny (model X.prog X.w) X.A (call f us) (EP X pins σ Q) X.xe s
noncomputable def TruR (X : Cx) (r : V -> Hp -> (Bool -> Hp -> Prop) -> Prop) : Prop :=
 ∀ (pins : List (Addr × Obj)) (s : Shared) (σ : St) (H : Hp) (x : V) (v : Value) (Q : Bool -> Hp -> Prop), Inv X pins σ H s -> RelV x v -> r x H Q ->
  wpAny (model X.prog X.w) X.A (truthy v) (TP X pins σ Q) X.xe s
noncomputable def rI (C : Int -> Int -> Prop) (g : Int -> Int -> V) : R2 := fun x y H Q => ∃ i j, x = .int i /\ y = .int j /\ C i j /\ Q (g i j) H
noncomputable def rI0 (g : Int -> Int -> V) : R2 := fun x y H Q => ∃ i j, x = .int i /\ y = .int j /\ Q (g i j) H
noncomputable def rU (g : Int -> V) : V -> Hp -> VK -> Prop := fun x H Q => ∃ i, x = .int i /\ Q (g i) H
section
variable {X : Cx} {a b c : Expr} {ta tb tc : TE} {pos : Pos}
theorem opI {f : Value -> Value -> Sem Value} {C : Int -> Int -> Prop} {g : Int -> Int -> Int}
  (rule : ∀ (i j : Int) (t u : Tok) (s : Shared) (Q : Value -> Shared -> Prop) (E : Value -> Shared -> Prop), C i j -> Q (.int (g i j) s.toks) { s with toks := s.toks + 1 } -> wpAny (model X.prog X.w) X.A (f (.int i t) (.int j u)) Q E s) :
  OpR X f (rI C fun i j => .int (g i j)) := by
 intro pins s σ H x y v u Q I rx ry h
 obtain ⟨i, j, rfl, rfl, hc, q⟩ := h
 obtain ⟨t, rfl⟩ := rx
 obtain ⟨t', rfl⟩ := ry
 exact rule i j t t' s _ _ hc ⟨.int (g i j), H, I.tok _, ⟨_, rfl⟩, q⟩
theorem opI0 {f : Value -> Value -> Sem Value} {g : Int -> Int -> Int}
  (rule : ∀ (i j : Int) (t u : Tok) (s : Shared) (Q : Value -> Shared -> Prop) (E : Value -> Shared -> Prop), Q (.int (g i j) s.toks) { s with toks := s.toks + 1 } -> wpAny (model X.prog X.w) X.A (f (.int i t) (.int j u)) Q E s) :
  OpR X f (rI0 fun i j => .int (g i j)) := by
 intro pins s σ H x y v u Q I rx ry h
 obtain ⟨i, j, rfl, rfl, q⟩ := h
 obtain ⟨t, rfl⟩ := rx
 obtain ⟨t', rfl⟩ := ry
 exact rule i j t t' s _ _ ⟨.int (g i j), H, I.tok _, ⟨_, rfl⟩, q⟩
theorem opB0 {f : Value -> Value -> Sem Value} {g : Int -> Int -> Bool}
  (rule : ∀ (i j : Int) (t u : Tok) (s : Shared) (Q : Value -> Shared -> Prop) (E : Value -> Shared -> Prop), Q (.bool (g i j)) s -> wpAny (model X.prog X.w) X.A (f (.int i t) (.int j u)) Q E s) :
  OpR X f (rI0 fun i j => .bl (g i j)) := by
 intro pins s σ H x y v u Q I rx ry h
 obtain ⟨i, j, rfl, rfl, q⟩ := h
 obtain ⟨t, rfl⟩ := rx
 obtain ⟨t', rfl⟩ := ry
 exact rule i j t t' s _ _ ⟨.bl (g i j), H, I, rfl, q⟩
noncomputable def CPow (i j : Int) : Prop := 0 <= j /\ j <= 1000000 /\ i.natAbs < 2 ^ 64
noncomputable def CMul (i j : Int) : Prop := (-(2 ^ 64) < i /\ i < 2 ^ 64) ∨ (-(2 ^ 64) < j /\ j < 2 ^ 64)
theorem CMul.ok {i j : Int} (h : CMul i j) : IntMulOk i j := by
 rcases h with ⟨h1, h2⟩ | ⟨h1, h2⟩
 ·exact .of_left (intBits_le_64 h1 h2)
 ·exact .of_right (intBits_le_64 h1 h2)
theorem J4m : OpR X (binaryOp .Add) (rI0 fun i j => .int (i + j)) := opI0 fun _ _ _ _ _ _ _ q => add_int q
theorem J4j : OpR X (binaryOp .Sub) (rI0 fun i j => .int (i - j)) := opI0 fun _ _ _ _ _ _ _ q => sub_int q
theorem J4e : OpR X (binaryOp .Mod) (rI (fun _ j => 0 < j) fun i j => .int (i % j)) := opI fun i j _ _ _ _ _ hc q => by
 have h1 : (0 : Int) < j := hc
 exact mod_int' (by omega) (by rw [Int.fmod_eq_emod_of_nonneg i (by omega)]; exact q)
theorem J3w : OpR X (binaryOp .Pow) (rI CPow fun i j => .int (i ^ j.toNat)) := opI fun _ _ _ _ _ _ _ hc q => pow_int_small hc.1 hc.2.1 hc.2.2 q
theorem unI {f : Value -> Sem Value} {g : Int -> Int}
  (rule : ∀ (i : Int) (t : Tok) (s : Shared) (Q : Value -> Shared -> Prop) (E : Value -> Shared -> Prop), Q (.int (g i) s.toks) { s with toks := s.toks + 1 } -> wpAny (model X.prog X.w) X.A (f (.int i t)) Q E s) :
  UnR X f (rU fun i => .int (g i)) := by
 intro pins s σ H x v Q I rx h
 obtain ⟨i, rfl, q⟩ := h
 obtain ⟨t, rfl⟩ := rx
 exact rule i t s _ _ ⟨.int (g i), H, I.tok _, ⟨_, rfl⟩, q⟩
theorem J5i : UnR X (unaryOp .USub) (rU fun i => .int (-i)) := unI fun _ _ _ _ _ q => neg_int q
end
noncomputable def scal : V -> V -> Bool
 | .non, .non => true | .non, .int _ => true | .int _, .non => true | .non, .bl _ => true | .bl _, .non => true | .non, .str _ => true | .str _, .non => true
 | .int _, .int _ => true | .bl _, .bl _ => true | .str _, .str _ => true | .byt _, .byt _ => true
 | .int _, .str _ => true | .str _, .int _ => true | .bl _, .str _ => true | .str _, .bl _ => true
 | _, _ => false
noncomputable def rEq : R2 := fun x y H Q => scal x y = true /\ Q (.bl (decide (x = y))) H
noncomputable def rNe : R2 := fun x y H Q => scal x y = true /\ Q (.bl (!decide (x = y))) H
theorem Ju7 {i j : Int} : decide (V.int i = V.int j) = (i == j) := by
 rw [Bool.eq_iff_iff]
 simp
theorem J0f {i j : Bool} : decide (V.bl i = V.bl j) = (i == j) := by
 rw [Bool.eq_iff_iff]
 simp
theorem Jv6 {i j : Str} : decide (V.str i = V.str j) = (i == j) := by
 rw [Bool.eq_iff_iff]
 simp
theorem Jxi {i j : Array UInt8} : decide (V.byt i = V.byt j) = (i.toList == j.toList) := by
 rw [Bool.eq_iff_iff]
 cases i
 cases j
 simp
section
variable {X : Cx} {a b c : Expr} {ta tb tc : TE} {pos : Pos}
theorem Jac {pins : List (Addr × Obj)} {σ : St} {H : Hp} {s : Shared} {Q : VK} {k k' : Bool} (I : Inv X pins σ H s) (q : Q (.bl k) H) (e : k = k') : EP X pins σ Q (.bool k') s := by
 subst e
 exact ⟨.bl k, H, I, rfl, q⟩
theorem op_eq : OpR X (compareOp .Eq) rEq := by
 intro pins s σ H x y v u Q I rx ry h
 obtain ⟨hs, q⟩ := h
 cases x with
 | non =>
  cases rx
  cases y with
  | non => cases ry; exact PySem.EqNone.eq_none_none (Jac I q (by simp))
  | bl j => cases ry; exact PySem.EqNone.eq_none_bool (Jac I q (by simp))
  | int j => obtain ⟨t', rfl⟩ := ry; exact PySem.EqNone.eq_none_int (Jac I q (by simp))
  | str j => obtain ⟨t', rfl⟩ := ry; exact PySem.EqNone.eq_none_str (Jac I q (by simp))
  | _ => exact absurd (show false = true from hs) Bool.false_ne_true
 | bl i =>
  cases rx
  cases y with
  | non => cases ry; exact PySem.EqNone.eq_bool_none (Jac I q (by simp))
  | bl j => cases ry; exact eq_bool (Jac I q J0f)
  | str j => obtain ⟨t', rfl⟩ := ry; exact PySem.EqMixed.eq_bool_str (Jac I q (by simp))
  | _ => exact absurd (show false = true from hs) Bool.false_ne_true
 | int i =>
  obtain ⟨t, rfl⟩ := rx
  cases y with
  | non => cases ry; exact PySem.EqNone.eq_int_none (Jac I q (by simp))
  | int j => obtain ⟨t', rfl⟩ := ry; exact eq_int (Jac I q Ju7)
  | str j => obtain ⟨t', rfl⟩ := ry; exact PySem.EqMixed.eq_int_str (Jac I q (by simp))
  | _ => exact absurd (show false = true from hs) Bool.false_ne_true
 | str i =>
  obtain ⟨t, rfl⟩ := rx
  cases y with
  | non => cases ry; exact PySem.EqNone.eq_str_none (Jac I q (by simp))
  | bl j => cases ry; exact PySem.EqMixed.eq_str_bool (Jac I q (by simp))
  | int j => obtain ⟨t', rfl⟩ := ry; exact PySem.EqMixed.eq_str_int (Jac I q (by simp))
  | str j => obtain ⟨t', rfl⟩ := ry; exact eq_str (Jac I q Jv6)
  | _ => exact absurd (show false = true from hs) Bool.false_ne_true
 | byt i =>
  obtain ⟨t, rfl⟩ := rx
  cases y with
  | byt j => obtain ⟨t', rfl⟩ := ry; exact W.eq_bytes (Jac I q Jxi)
  | _ => exact absurd (show false = true from hs) Bool.false_ne_true
 | _ => cases y <;> exact absurd (show false = true from hs) Bool.false_ne_true
theorem op_ne : OpR X (compareOp .NotEq) rNe := by
 intro pins s σ H x y v u Q I rx ry h
 obtain ⟨hs, q⟩ := h
 cases x with
 | non =>
  cases rx
  cases y with
  | non => cases ry; exact PySem.EqNone.ne_none_none (Jac I q (by simp))
  | bl j => cases ry; exact PySem.EqNone.ne_none_bool (Jac I q (by simp))
  | int j => obtain ⟨t', rfl⟩ := ry; exact PySem.EqNone.ne_none_int (Jac I q (by simp))
  | str j => obtain ⟨t', rfl⟩ := ry; exact PySem.EqNone.ne_none_str (Jac I q (by simp))
  | _ => exact absurd (show false = true from hs) Bool.false_ne_true
 | bl i =>
  cases rx
  cases y with
  | non => cases ry; exact PySem.EqNone.ne_bool_none (Jac I q (by simp))
  | bl j => cases ry; exact ne_bool (Jac I q (congrArg not J0f))
  | str j => obtain ⟨t', rfl⟩ := ry; exact PySem.EqMixed.ne_bool_str (Jac I q (by simp))
  | _ => exact absurd (show false = true from hs) Bool.false_ne_true
 | int i =>
  obtain ⟨t, rfl⟩ := rx
  cases y with
  | non => cases ry; exact PySem.EqNone.ne_int_none (Jac I q (by simp))
  | int j => obtain ⟨t', rfl⟩ := ry; exact ne_int (Jac I q (congrArg not Ju7))
  | str j => obtain ⟨t', rfl⟩ := ry; exact PySem.EqMixed.ne_int_str (Jac I q (by simp))
  | _ => exact absurd (show false = true from hs) Bool.false_ne_true
 | str i =>
  obtain ⟨t, rfl⟩ := rx
  cases y with
  | non => cases ry; exact PySem.EqNone.ne_str_none (Jac I q (by simp))
  | bl j => cases ry; exact PySem.EqMixed.ne_str_bool (Jac I q (by simp))
  | int j => obtain ⟨t', rfl⟩ := ry; exact PySem.EqMixed.ne_str_int (Jac I q (by simp))
  | str j => obtain ⟨t', rfl⟩ := ry; exact ne_str (Jac I q (congrArg not Jv6))
  | _ => exact absurd (show false = true from hs) Bool.false_ne_true
 | byt i =>
  obtain ⟨t, rfl⟩ := rx
  cases y with
  | byt j => obtain ⟨t', rfl⟩ := ry; exact W.ne_bytes (Jac I q (congrArg not Jxi))
  | _ => exact absurd (show false = true from hs) Bool.false_ne_true
 | _ => cases y <;> exact absurd (show false = true from hs) Bool.false_ne_true
theorem op_lt : OpR X (compareOp .Lt) (rI0 fun i j => .bl (decide (i < j))) := opB0 fun _ _ _ _ _ _ _ q => lt_int q
theorem op_le : OpR X (compareOp .LtE) (rI0 fun i j => .bl (decide (i <= j))) := opB0 fun _ _ _ _ _ _ _ q => le_int q
theorem op_gt : OpR X (compareOp .Gt) (rI0 fun i j => .bl (decide (j < i))) := opB0 fun _ _ _ _ _ _ _ q => gt_int q
theorem op_ge : OpR X (compareOp .GtE) (rI0 fun i j => .bl (decide (j <= i))) := opB0 fun _ _ _ _ _ _ _ q => ge_int q
theorem Jwc : OpR X (compareOp .Lt) (fun x y H Q => ∃ i j, x = .str i /\ y = .str j /\ Q (.bl (decide (i.cps.toList < j.cps.toList))) H) := by
 intro pins s σ H x y v u Q I rx ry h
 obtain ⟨i, j, rfl, rfl, q⟩ := h
 obtain ⟨t, rfl⟩ := rx
 obtain ⟨t', rfl⟩ := ry
 exact lt_str (Jac I q rfl)
theorem nomark (b : Expr) {op : CmpOp} (h : op ≠ .In := by decide) (h2 : op ≠ .NotIn := by decide) : behindInMarks op b = false := by
 have e1 : (op == CmpOp.In) = false := by cases op <;> first | rfl | exact absurd rfl h
 have e2 : (op == CmpOp.NotIn) = false := by cases op <;> first | rfl | exact absurd rfl h2
 cases b <;> simp [behindInMarks, e1, e2]
noncomputable def TruV (K : W.Frag) (x : V) (H : Hp) (k : Bool) : Prop :=
 match x with
 | .non => k = false
 | .bl b => k = b
 | .int i => k = (i != 0)
 | .str y => y.length <= sizeLine /\ k = ((y.length : Int) != 0)
 | .byt y => y.size <= sizeLine /\ k = ((y.size : Int) != 0)
 | .ref p => (∃ xs, SqL K H p xs /\ k = !xs.isEmpty) ∨ (∃ xs, SqT K H p xs /\ k = !xs.isEmpty) ∨ ∃ kvs, H p = some (.dK kvs) /\ k = !kvs.isEmpty
 | _ => False
theorem Juu {κ : Type} {kvs : List (κ × V)} {vs : List (κ × Value)} (r : KV kvs vs) : (!vs.isEmpty) = !kvs.isEmpty := by
 cases r <;> rfl
theorem Jnc {xs : List V} {its : List Value} (r : Vals xs its) : (!its.toArray.isEmpty) = !xs.isEmpty := by
 cases r <;> simp
theorem Jmw : (sizeLine : Nat) < 2 ^ 63 := by rw [sizeLine_eq]; decide
theorem Jjz : TruR X (fun x H Q => ∃ k, TruV X.K x H k /\ Q k H) := by
 intro pins s σ H x v Q I rx h
 obtain ⟨k, e, q⟩ := h
 have hl := Jmw
 have hs : sizeLine = 16777216 := sizeLine_eq
 cases x with
 | non =>
  cases rx
  have e' : k = false := e
  subst e'
  exact truthy_none ⟨H, I, q⟩
 | bl b =>
  cases rx
  have e' : k = b := e
  subst e'
  exact wpAny_truthy_bool ⟨H, I, q⟩
 | int i =>
  obtain ⟨t, rfl⟩ := rx
  have e' : k = (i != 0) := e
  subst e'
  exact PySem.P.truthy_int ⟨H, I, q⟩
 | str y =>
  obtain ⟨t, rfl⟩ := rx
  obtain ⟨hy, e'⟩ : y.length <= sizeLine /\ k = ((y.length : Int) != 0) := e
  subst e'
  exact PySem.P.truthy_str (by omega) ⟨H, I.tok _, q⟩
 | byt y =>
  obtain ⟨t, rfl⟩ := rx
  obtain ⟨hy, e'⟩ : y.size <= sizeLine /\ k = ((y.size : Int) != 0) := e
  subst e'
  exact W.truthy_bytes (by omega) ⟨H, I.tok _, q⟩
 | ref p =>
  cases rx
  have e' : (∃ xs, SqL X.K H p xs /\ k = !xs.isEmpty) ∨ (∃ xs, SqT X.K H p xs /\ k = !xs.isEmpty) ∨ ∃ kvs, H p = some (.dK kvs) /\ k = !kvs.isEmpty := e
  rcases e' with ⟨xs, hx, e'⟩ | ⟨xs, hx, e'⟩ | ⟨kvs, hx, e'⟩
  ·subst e'
   obtain ⟨its, r, pl, hz⟩ := I.list hx
   have hlen := r.length
   exact wpAny_truthy_list pl.isList (by simp only [List.size_toArray]; omega) ⟨H, I.tok _, by rw [Jnc r]; exact q⟩
  ·subst e'
   obtain ⟨its, r, pl, hz⟩ := I.tuple hx
   have hlen := r.length
   exact truthy_tuple pl (by simp only [List.size_toArray]; omega) ⟨H, I.tok _, by rw [Jnc r]; exact q⟩
  ·subst e'
   obtain ⟨hz, hS, vs, r, m⟩ : kvs.length <= sizeLine /\ (p == sysModules) = false /\ ∃ vs, KV kvs vs /\ s.heap.DictOf (Jbu X.prog X.w) p vs := I.hok p _ hx
   have hlen : kvs.length = vs.length := Paired.length r
   exact wpAny_truthy_dict hS m (by omega) ⟨H, I.tok _, by rw [Juu r]; exact q⟩
 | _ => exact Zf e
theorem Jun : OpR X (binaryOp .Add) (fun x y H Q => ∃ i j, x = .str i /\ y = .str j /\ i.length + j.length <= sizeLine /\ Q (.str (i ++ j)) H) := by
 intro pins s σ H x y v u Q I rx ry h
 obtain ⟨i, j, rfl, rfl, hz, q⟩ := h
 obtain ⟨t, rfl⟩ := rx
 obtain ⟨t', rfl⟩ := ry
 exact add_str (fun t' tk => ⟨.str (i ++ j), H, I.tok _, ⟨_, rfl⟩, q⟩) hz
theorem Jiz {x : V} {us : List Value} (r : Vals [x] us) : ∃ u, us = [u] /\ RelV x u := by
 cases r with
 | cons r1 r2 => cases r2; exact ⟨_, rfl, r1⟩
theorem J4a {x y : V} {us : List Value} (r : Vals [x, y] us) : ∃ u w', us = [u, w'] /\ RelV x u /\ RelV y w' := by
 cases r with
 | cons r1 r2 =>
  cases r2 with
  | cons r3 r4 => cases r4; exact ⟨_, _, rfl, r1, r3⟩
theorem Ju5 (hc : X.calm = true) : Jq5 X (.builtin "max") (fun xs H Q => ∃ i j, xs = [.int i, .int j] /\ Q (.int (if j > i then j else i)) H) := by
 intro pins s σ H xs us Q I r h
 obtain ⟨i, j, rfl, q⟩ := h
 obtain ⟨u, w', rfl, ⟨t, rfl⟩, ⟨t', rfl⟩⟩ := J4a r
 refine max_two_ints (I.ok.hd hc) fun h' tk k => ⟨_, H, I.kept k, ?_, q⟩
 by_cases hj : j > i
 ·rw [if_pos hj, if_pos hj]; exact ⟨_, rfl⟩
 ·rw [if_neg hj, if_neg hj]; exact ⟨_, rfl⟩
theorem Jxl (hc : X.calm = true) : Jq5 X (.builtin "min") (fun xs H Q => ∃ i j, xs = [.int i, .int j] /\ Q (.int (if j < i then j else i)) H) := by
 intro pins s σ H xs us Q I r h
 obtain ⟨i, j, rfl, q⟩ := h
 obtain ⟨u, w', rfl, ⟨t, rfl⟩, ⟨t', rfl⟩⟩ := J4a r
 refine min_two_ints (I.ok.hd hc) fun h' tk k => ⟨_, H, I.kept k, ?_, q⟩
 by_cases hj : j < i
 ·rw [if_pos hj, if_pos hj]; exact ⟨_, rfl⟩
 ·rw [if_neg hj, if_neg hj]; exact ⟨_, rfl⟩
theorem Jqj : Jq5 X (.type "int") (fun xs H Q => (∃ i, xs = [.int i] /\ Q (.int i) H) ∨ ∃ k, xs = [.bl k] /\ Q (.int (if k then 1 else 0)) H) := by
 intro pins s σ H xs us Q I r h
 rcases h with ⟨i, rfl, q⟩ | ⟨k, rfl, q⟩
 ·obtain ⟨u, rfl, t, rfl⟩ := Jiz r
  exact call_int_int ⟨.int i, H, I, ⟨_, rfl⟩, q⟩
 ·obtain ⟨u, rfl, r1⟩ := Jiz r
  cases r1
  exact call_int_bool ⟨.int (if k then 1 else 0), H, I.tok _, ⟨_, rfl⟩, q⟩
noncomputable def LenV (K : W.Frag) (x : V) (H : Hp) (n : Nat) : Prop :=
 match x with
 | .str y => y.length <= sizeLine /\ n = y.length
 | .byt y => y.size <= sizeLine /\ n = y.size
 | .ref p => (∃ xs, SqL K H p xs /\ n = xs.length) ∨ ∃ xs, SqT K H p xs /\ n = xs.length
 | _ => False
theorem Jks : Jq5 X (.builtin "len") (fun xs H Q => ∃ x n, xs = [x] /\ LenV X.K x H n /\ Q (.int n) H) := by
 intro pins s σ H xs us Q I r h
 obtain ⟨x, n, rfl, e, q⟩ := h
 obtain ⟨u, rfl, rx⟩ := Jiz r
 have hl := Jmw
 have hs : sizeLine = 16777216 := sizeLine_eq
 cases x with
 | str y =>
  obtain ⟨t, rfl⟩ := rx
  obtain ⟨hy, e'⟩ : y.length <= sizeLine /\ n = y.length := e
  subst e'
  exact len_str (by omega) ⟨.int _, H, I.tok _, ⟨_, rfl⟩, q⟩
 | byt y =>
  obtain ⟨t, rfl⟩ := rx
  obtain ⟨hy, e'⟩ : y.size <= sizeLine /\ n = y.size := e
  subst e'
  exact W.len_bytes (by omega) ⟨.int _, H, I.tok _, ⟨_, rfl⟩, q⟩
 | ref p =>
  cases rx
  have e' : (∃ xs, SqL X.K H p xs /\ n = xs.length) ∨ ∃ xs, SqT X.K H p xs /\ n = xs.length := e
  rcases e' with ⟨xs, hx, e'⟩ | ⟨xs, hx, e'⟩
  ·subst e'
   obtain ⟨its, r', pl, hz⟩ := I.list hx
   have hlen := r'.length
   exact Calls.call_len_list pl.isList (by simp only [List.size_toArray]; omega) ⟨.int xs.length, H, I.tok _, ⟨_, by simp only [List.size_toArray]; rw [hlen]⟩, q⟩
  ·subst e'
   obtain ⟨its, r', pl, hz⟩ := I.tuple hx
   have hlen := r'.length
   exact len_tuple pl (by simp only [List.size_toArray]; omega) ⟨.int xs.length, H, I.tok _, ⟨_, by simp only [List.size_toArray]; rw [hlen]⟩, q⟩
 | _ => exact Zf e
end
end L2
namespace L2
open PySem PySem.Spec PyProof.Rows
structure ObjM (h : Heap) (x dx C : Addr) (mA : Str -> Option Value) : Prop where
 obj : h.get? x = some (W.instObj C dx)
 ns : h.Ns1 dx mA
 ne : dx ≠ x
theorem Jvi {h : Heap} {dx : Addr} {mA : Str -> Option Value} (n : h.Ns1 dx mA) : ∃ od, h.get? dx = some od /\ ∀ name, W.lookIn name od = some (mA name) := by
 obtain ⟨o, es, ep, ho, hd, hk, _, hm⟩ := n
 refine ⟨o, ho, fun name => ?_⟩
 have e := hm name
 unfold nsFind findBy at e
 rw [<- Array.find?_toList] at e
 unfold W.lookIn
 rw [hd]
 dsimp only
 split
 ·rename_i y q
  rw [q] at e
  exact congrArg some e
 ·rename_i q
  rw [q] at e
  have a : es.toList.any (·.refKey) = false := by
   rw [List.any_eq_false]
   intro y hy
   obtain ⟨z, t, hkey⟩ := hk y (Array.mem_toList_iff.mp hy)
   simp [DictEntry.refKey, hkey]
  have a' : ¬ es.toList.any (·.refKey) = true := by rw [a]; exact Bool.false_ne_true
  rw [if_neg a']
  exact congrArg some e
theorem ObjM.look {h : Heap} {x dx C : Addr} {mA : Str -> Option Value} (I : ObjM h x dx C mA) : ∃ od, W.InstAt h x (W.instObj C dx) C (some od) /\ ∀ name, W.lookIn name od = some (mA name) :=
 let ⟨od, ho, hl⟩ := Jvi I.ns
 ⟨od, ⟨I.obj, rfl, rfl, ho⟩, hl⟩
section
variable {prog : Program} {w : World} {A : Around} {E : Value -> Shared -> Prop} {s : Shared} {K : W.Frag} {x dx C f : Addr} {mA : Str -> Option Value} {name : Str} {v : Value}
theorem J2g {expr : Bool} {Q : Value -> Shared -> Prop} (X : K.In s.heap) (I : ObjM s.heap x dx C mA) (hg : W.plainGet K C name = true) (hh : W.hasDictIn K C = true)
  (ha : W.findIn K (.ref C) name = some none) (hv : mA name = some v) (hv' : W.handedIn v = true) (h : Q v { s with toks := s.toks + 1 }) :
  wpAny (model prog w) A (getAttr (.ref x) name expr) Q E s := by
 obtain ⟨od, J, hl⟩ := I.look
 exact W.get_value X J (W.plainGet_of hg).1 (W.findObj_own hh ha rfl (by rw [hl, hv])) hv' h
theorem Jzy {pl : Sem Bool} {Q : Value × List Value -> Shared -> Prop} (X : K.In s.heap) (I : ObjM s.heap x dx C mA) (hg : W.plainGet K C name = true)
  (hf : W.findIn K (.ref C) name = some (some (.ref f))) (ht : W.isFn K (.ref f) = true) (hv : mA name = none) (h : Q (.ref f, [.ref x]) s) :
  wpAny (model prog w) A (getMethod (.ref x) name pl) Q E s := by
 obtain ⟨od, J, hl⟩ := I.look
 exact W.method_fn X J (W.plainGet_of hg).1 (W.plainGet_of hg).2 hf (beq_iff_eq.mp ht) (by show (W.lookIn name od).map (·.isSome) = some false; rw [hl, hv]; rfl) h
theorem J1b {ns : List Str} {Q : Unit -> Shared -> Prop} (X : K.In s.heap) (I : ObjM s.heap x dx C mA)
  (hs : W.findIn K (.ref C) "__setattr__" = some (some (.builtin "object.__setattr__"))) (hp : W.plainOver K C = true) (ht : W.takerIn K C name = some none) (hh : W.hasDictIn K C = true)
  (hw : PySem.Within mA ns) (hsz : ns.length <= sizeLine)
  (h : ∀ h', ObjM h' x dx C (fun y => if y = name then some v else mA y) -> Heap.SameBut dx s.heap h' -> Q () { s with heap := h', toks := s.toks + 2 }) :
  wpAny (model prog w) A (setAttr (.ref x) name v) Q E s := by
 obtain ⟨od, J, hl⟩ := I.look
 refine W.set_plain X J hs (W.osa_open (s := { s with toks := s.toks + 1 }) (r := none) X J hp ht fun b => ?_)
 obtain ⟨cd, hc, hd'⟩ := W.any_some hh
 have hx : s.heap.get? x = some ⟨.ref C, some dx, .plain, #[]⟩ := I.obj
 refine wpAny_bind (wpAny_pure (wpAny_bind (wpAny_bind (wpAny_loadPart hx (wpAny_bind (W.Looks.here (s := { s with toks := s.toks + 1 }) (W.looks_clsIn X hc) ?_))))))
 rw [hd']
 refine wpAny_pure (a := some dx) (wpAny_bind (wpAny_pure (wpAny_bind ?_)))
 refine wpAny_nsSet1 (s := { s with toks := s.toks + 1 }) I.ns fun h' hn2 hs2 => ?_
 obtain ⟨oD, esD, epD, hoD, hdD, hcD⟩ := hn2.count (PySem.Within.cons name v hw)
 refine wpAny_bind (wpAny_lookBehind hoD (by rw [hdD]; exact pastItsLine_dict (Nat.le_trans hcD (by rw [List.length_cons]; omega))) ?_)
 exact wpAny_pure (h _ ⟨(hs2.2 _ (Ne.symm I.ne)).trans I.obj, hn2, I.ne⟩ hs2)
theorem Jye {R : Result -> Shared -> Prop} {vs : List Value} {kw : List (Str × Value)} (X : K.In s.heap) (hm : W.makesIn K C = true)
  (hi : W.findIn K (.ref C) "__init__" = some (some (.ref f))) (hf : W.typeIn K (.ref f) = some (.type "function"))
  (h : codeAny (model prog w) (A.under (.builtin "type.__call__" ⟨.ref C :: vs, kw⟩)) (.call (.ref f) ⟨.ref (s.heap.objs.size + 1) :: vs, kw⟩) (W.InitBack (s.heap.objs.size + 1) R)
   { s with heap := (s.heap.push W.emptyDict).push (W.instObj C s.heap.objs.size) }) :
  codeAny (model prog w) A (.call (.ref C) ⟨vs, kw⟩) R s := by
 obtain ⟨hh, g, d, t, os⟩ := s
 exact W.make_core (W.makes_of X hm) (W.looks_findIn X hi) (fun self => W.bind_fn X self hf) (.inl rfl) h
end
noncomputable def putF (f : Str) (v : V) : List (Str × V) -> List (Str × V)
 | [] => [(f, v)]
 | (g, x) :: r => if g = f then (g, v) :: r else (g, x) :: putF f v r
theorem Jkx (f g : Str) (v : V) : ∀ fs : List (Str × V), (putF f v fs).lookup g = if g = f then some v else fs.lookup g
 | [] => by
  show List.lookup g [(f, v)] = _
  by_cases h : g = f
  ·have hb : (g == f) = true := beq_iff_eq.mpr h
   simp only [List.lookup, hb, if_pos h]
  ·have hb : (g == f) = false := beq_eq_false_iff_ne.mpr h
   simp only [List.lookup, hb, if_neg h]
 | (k, x) :: r => by
  have ih := Jkx f g v r
  rw [show putF f v ((k, x) :: r) = (if k = f then (k, v) :: r else (k, x) :: putF f v r) from rfl]
  by_cases hk : k = f
  ·rw [if_pos hk]
   by_cases h : g = k
   ·have hb : (g == k) = true := beq_iff_eq.mpr h
    simp only [List.lookup, hb, if_pos (h.trans hk)]
   ·have hb : (g == k) = false := beq_eq_false_iff_ne.mpr h
    simp only [List.lookup, hb, if_neg (fun e : g = f => h (e.trans hk.symm))]
  ·rw [if_neg hk]
   by_cases h : g = k
   ·have hb : (g == k) = true := beq_iff_eq.mpr h
    simp only [List.lookup, hb, if_neg (fun e : g = f => hk (h.symm.trans e))]
   ·have hb : (g == k) = false := beq_eq_false_iff_ne.mpr h
    simp only [List.lookup, hb]
    exact ih
theorem Jle (f : Str) (v : V) : ∀ fs : List (Str × V), f ∈ (putF f v fs).map (·.1) /\ ∀ g, g ∈ fs.map (·.1) -> g ∈ (putF f v fs).map (·.1)
 | [] => ⟨by simp [putF], fun g h => by simp at h⟩
 | (k, x) :: r => by
  obtain ⟨i1, i2⟩ := Jle f v r
  rw [show putF f v ((k, x) :: r) = (if k = f then (k, v) :: r else (k, x) :: putF f v r) from rfl]
  by_cases hk : k = f
  ·rw [if_pos hk]
   subst hk
   exact ⟨by simp, fun g h => by simpa using h⟩
  ·rw [if_neg hk]
   refine ⟨?_, fun g h => ?_⟩
   ·rw [List.map_cons]
    exact List.mem_cons_of_mem _ i1
   ·rw [List.map_cons] at h ⊢
    rcases List.mem_cons.mp h with e | e
    ·exact List.mem_cons.mpr (.inl e)
    ·exact List.mem_cons_of_mem _ (i2 g e)
theorem Jl0 (f : Str) (v : V) : ∀ fs : List (Str × V), (putF f v fs).length <= fs.length + 1
 | [] => by simp [putF]
 | (k, x) :: r => by
  have ih := Jl0 f v r
  rw [show putF f v ((k, x) :: r) = (if k = f then (k, v) :: r else (k, x) :: putF f v r) from rfl]
  by_cases hk : k = f
  ·rw [if_pos hk, List.length_cons, List.length_cons]; omega
  ·rw [if_neg hk, List.length_cons, List.length_cons]; omega
theorem RelO.some_of {v : V} {o : Option Value} (r : RelO (some v) o) : ∃ u, o = some u /\ RelV v u := by
 cases o with
 | none => exact Zf r
 | some u => exact ⟨u, rfl, r⟩
theorem RelO.none_of {o : Option Value} (r : RelO none o) : o = none := by
 cases o with
 | none => rfl
 | some u => exact Zf r
theorem Jxr {v : V} {u : Value} (r : RelV v u) : W.handedIn u = true := by
 cases v with
 | non => cases (show u = Value.none from r); rfl
 | bl b => cases (show u = Value.bool b from r); rfl
 | int i => obtain ⟨t, e⟩ := (show ∃ t, u = Value.int i t from r); cases e; rfl
 | str x => obtain ⟨t, e⟩ := (show ∃ t, u = Value.str x t from r); cases e; rfl
 | byt b => obtain ⟨t, e⟩ := (show ∃ t, u = Value.bytes b t from r); cases e; rfl
 | flt b => obtain ⟨t, e⟩ := (show ∃ t, u = Value.float b t from r); cases e; rfl
 | ref a => cases (show u = Value.ref a from r); rfl
 | ty n => cases (show u = Value.type n from r); rfl
section
variable {P : Program} {w : World} {H H' : Hp} {h h' : Heap} {a C dx : Addr} {fs fs' : List (Str × V)}
theorem Jnt (hok : HOk P w H h) (e : H a = some (.ins C dx fs)) : ∃ mA, ObjM h a dx C mA /\ (∀ f, RelO (fs.lookup f) (mA f)) /\ PySem.Within mA (fs.map (·.1)) /\ fs.length <= 1000 /\ H dx = some (.own a) := by
 obtain ⟨d, z, ne, ob, mA, n, r, q⟩ := (show Jdl P w H h a (.ins C dx fs) from hok a _ e)
 exact ⟨mA, ⟨ob, n, ne⟩, r, q, z, d⟩
end
structure Cls (K : W.Frag) (C : Addr) : Prop where
 pg : W.plainGet K C Str.empty = true
 hd : W.hasDictIn K C = true
 po : W.plainOver K C = true
 sa : W.findIn K (.ref C) "__setattr__" = some (some (.builtin "object.__setattr__"))
theorem Cls.get {K : W.Frag} {C : Addr} (c : Cls K C) (f : Str) : W.plainGet K C f = true := c.pg
noncomputable def Jh2 (K : W.Frag) (C : Addr) (f : Str) : Prop := W.findIn K (.ref C) f = some none
theorem Jh2.taker {K : W.Frag} {C : Addr} {f : Str} (n : Jh2 K C f) : W.takerIn K C f = some none := by
 unfold W.takerIn
 rw [show W.findIn K (.ref C) f = some none from n]
 rfl
structure Con (K : W.Frag) (C : Addr) (f : Str) (v : V) (u : Value) : Prop where
 at_ : W.findIn K (.ref C) f = some (some u)
 rel : RelV v u
 get : W.specialIn K u "__get__" = some none
 cp : W.copiedNames.contains f = false
structure Meth (K : W.Frag) (C : Addr) (m : Str) (f : Addr) : Prop where
 at_ : W.findIn K (.ref C) m = some (some (.ref f))
 fn : W.isFn K (.ref f) = true
 kp : W.keepIn K (.ref f) = true
section
variable {X : Cx} {pins : List (Addr × Obj)} {σ : St} {H : Hp} {s : Shared} {a C dx : Addr} {fs : List (Str × V)} {f : Str} {v : V} {A : Around} {E : Value -> Shared -> Prop}
theorem Jta {b : Bool} {Q : Value -> Shared -> Prop} (I : Inv X pins σ H s) (e : H a = some (.ins C dx fs)) (c : Cls X.K C) (n : Jh2 X.K C f) (l : fs.lookup f = some v)
  (h : ∀ u s', Inv X pins σ H s' -> RelV v u -> Q u s') : wpAny (model X.prog X.w) A (getAttr (.ref a) f b) Q E s := by
 obtain ⟨mA, O, r, _, _, _⟩ := Jnt I.hok e
 obtain ⟨u, hu, ru⟩ := RelO.some_of (v := v) (o := mA f) (by rw [<- l]; exact r f)
 exact J2g I.kIn O (c.get f) c.hd n hu (Jxr ru) (h u _ (I.tok _) ru)
theorem Jmv {m : Str} {g : Addr} {pl : Sem Bool} {Q : Value × List Value -> Shared -> Prop} (I : Inv X pins σ H s) (e : H a = some (.ins C dx fs)) (c : Cls X.K C) (k : Meth X.K C m g) (l : fs.lookup m = none)
  (h : Q (.ref g, [.ref a]) s) : wpAny (model X.prog X.w) A (getMethod (.ref a) m pl) Q E s := by
 obtain ⟨mA, O, r, _, _, _⟩ := Jnt I.hok e
 have hn : mA m = none := RelO.none_of (by rw [<- l]; exact r m)
 exact Jzy I.kIn O (c.get m) k.at_ k.fn hn h
theorem Juv {y : V} {u : Value} {Q : Unit -> Shared -> Prop} (I : Inv X pins σ H s) (e : H a = some (.ins C dx fs)) (c : Cls X.K C) (n : Jh2 X.K C f) (hl : fs.length < 1000) (ry : RelV y u)
  (h : ∀ s', Inv X pins σ (upd H a (.ins C dx (putF f y fs))) s' -> Q () s') : wpAny (model X.prog X.w) A (setAttr (.ref a) f u) Q E s := by
 obtain ⟨mA, O, r, wi, _, ho⟩ := Jnt I.hok e
 have hz : (fs.map (·.1)).length <= sizeLine := by rw [List.length_map, sizeLine_eq]; omega
 refine J1b I.kIn O c.sa c.po n.taker c.hd wi hz fun h' O' sb => h _ ?_
 have hd : ∃ o, h'.get? dx = some o := let ⟨o, _, _, e', _⟩ := O'.ns; ⟨o, e'⟩
 refine I.write (x := a) (e := dx) (by rw [e]; exact True.intro) (.inr ho) (fun b q hb z => (sb.2 b hb).trans z) hd ?_
 refine ⟨by rw [Jp O.ne]; exact ho, ?_, O.ne, O'.obj, _, O'.ns, fun g => ?_, fun g hg => ?_⟩
 ·have := Jl0 f y fs; omega
 ·show RelO ((putF f y fs).lookup g) (if g = f then some u else mA g)
  rw [Jkx]
  by_cases q : g = f
  ·rw [if_pos q, if_pos q]; exact ry
  ·rw [if_neg q, if_neg q]; exact r g
 ·by_cases q : g = f
  ·rw [q]; exact (Jle f y fs).1
  ·refine (Jle f y fs).2 g (wi g fun z => hg ?_)
   show (if g = f then some u else mA g) = none
   rw [if_neg q]; exact z
theorem Inv.made (I : Inv X pins σ H s) : Inv X pins σ (upd (upd H s.heap.objs.size (.own (s.heap.objs.size + 1))) (s.heap.objs.size + 1) (.ins C s.heap.objs.size []))
  { s with heap := (s.heap.push W.emptyDict).push (W.instObj C s.heap.objs.size) } := by
 have e1 : (s.heap.push W.emptyDict).get? s.heap.objs.size = some W.emptyDict := Heap.get?_push_size s.heap rfl
 have e2 : ((s.heap.push W.emptyDict).push (W.instObj C s.heap.objs.size)).get? (s.heap.objs.size + 1) = some (W.instObj C s.heap.objs.size) := by
  have := Heap.get?_push_size (s.heap.push W.emptyDict) (o := W.instObj C s.heap.objs.size) rfl
  rwa [Heap.size_push] at this
 have e3 : (s.heap.push W.emptyDict).Ns s.heap.objs.size (fun _ => none) := ⟨W.emptyDict, #[], _, e1, rfl, (fun e he => absurd he (by simp)), fun _ => rfl⟩
 have I1 := I.laid (a := s.heap.objs.size) (o := .own (s.heap.objs.size + 1)) (h' := s.heap.push W.emptyDict) (t' := s.toks) (fun b u q => Heap.get?_push_of_some _ q) (Nat.le_refl _) ⟨_, e1⟩
 refine I1.laid (a := s.heap.objs.size + 1) (o := .ins C s.heap.objs.size []) (t' := s.toks) (fun b u q => Heap.get?_push_of_some _ q) (Nat.le_of_eq (Heap.size_push _ _)) ?_
 have ne : s.heap.objs.size ≠ s.heap.objs.size + 1 := Nat.ne_of_lt (Nat.lt_succ_self _)
 refine ⟨by rw [Jp ne, Jk], Nat.zero_le _, ne, e2, fun _ => none, (Heap.Ns1.of_empty e3).at fun o q => Heap.get?_push_of_some _ q, fun _ => True.intro, fun y hy => absurd rfl hy⟩
theorem J2p {prog : Program} {w : World} {env : Env} {e : Expr} {f : Str} {pos : Pos} {s : Shared} {Q : Value -> Shared -> Prop} (hb : attributeBase e f env (eval e env) = eval e env)
  (h : wpAny (model prog w) A (eval e env) (fun o s₁ => wpAny (model prog w) A (getAttr o f true) Q E s₁) E s) : wpAny (model prog w) A (eval (.Attribute e f pos) env) Q E s :=
 Attribute_any_ h (by rw [arm_eval_Attribute, hb])
end
section
variable {X : Cx} {o e value : Expr} {f : Str} {pos pos' tpos : Pos} {ta tv : TE}
end
section
variable {X : Cx} {pins : List (Addr × Obj)} {σ : St} {H : Hp} {s : Shared} {A : Around} {E : Value -> Shared -> Prop} {Q : Value -> Shared -> Prop} {c : Value} {b : Bool}
inductive TyOf (K : W.Frag) (H : Hp) : V -> Value -> Prop where
 | non : TyOf K H .non (.type "NoneType")
 | bl (x : Bool) : TyOf K H (.bl x) (.type "bool")
 | int (i : Int) : TyOf K H (.int i) (.type "int")
 | str (x : Str) : TyOf K H (.str x) (.type "str")
 | flt (x : UInt64) : TyOf K H (.flt x) (.type "float")
 | lst {a : Addr} {xs : List V} (e : H a = some (.lst xs)) : TyOf K H (.ref a) (.type "list")
 | frz {a : Addr} {o : Obj} {xs : List V} (e : H a = some (.frz o (.lst xs))) : TyOf K H (.ref a) (.type "list")
 | tup {a : Addr} {xs : List V} (e : H a = some (.tup xs)) : TyOf K H (.ref a) (.type "tuple")
 | dK {a : Addr} {kvs : List (Key × V)} (e : H a = some (.dK kvs)) : TyOf K H (.ref a) (.type "dict")
 | dT {a : Addr} {kvs : List (List Key × V)} (e : H a = some (.dT kvs)) : TyOf K H (.ref a) (.type "dict")
 | ins {a C dx : Addr} {fs : List (Str × V)} (e : H a = some (.ins C dx fs)) (cl : Cls K C) (ha : W.findIn K (.ref C) "__class__" = some (some (.builtin "object.__class__")))
   (hn : W.specialIn K (.builtin "object.__class__") "__get__" = some (some (.builtin "getset_descriptor.__get__"))) (htk : W.takesIn K (.builtin "object.__class__") = some true)
   (hm : W.mroIn K C (.type "object") = some true) : TyOf K H (.ref a) (.ref C)
end
end L2
namespace L2
open PySem PySem.Spec PyProof.Rows
structure Room (k : Nat) (A : Around) : Prop where
 hd : A.handled = none
 dp : A.depth + 3 * k + 5 < recursionLimit
 un : A.units + 16 * k + 200 < cLine
theorem Room.mono {j k : Nat} {A : Around} (r : Room k A) (h : j <= k) : Room j A := ⟨r.hd, by have := r.dp; omega, by have := r.un; omega⟩
theorem Room.deeper {k : Nat} {A : Around} (r : Room (k + 1) A) (env : Env) : Room k (A.deeper env) :=
 ⟨r.hd, by have := r.dp; show A.depth + 1 + 3 * k + 5 < _; omega, by have := r.un; show A.units + 3 + 16 * k + 200 < _; omega⟩
theorem Room.in1 {k : Nat} {A : Around} (r : Room (k + 1) A) : Room k A.in1 :=
 ⟨r.hd, by have := r.dp; show A.depth + 3 * k + 5 < _; omega, by have := r.un; show A.units + 1 + 16 * k + 200 < _; omega⟩
theorem Jtv {A : Around} {C : Addr} {us : List Value} {kw : List (Str × Value)} : (A.under (.builtin "type.__call__" ⟨.ref C :: us, kw⟩)).depth = A.depth + 1 := by
 first | rfl | simp [Around.under, Code.weight, Code.isCreation, Code.isGuard, Code.isCaller, Code.frames, Code.isFrame, guardIds]
theorem Js8 {A : Around} {C : Addr} {us : List Value} {kw : List (Str × Value)} : (A.under (.builtin "type.__call__" ⟨.ref C :: us, kw⟩)).units = A.units + 1 := by
 first | rfl | simp [Around.under, Code.cUnits, Code.frames, Code.isFrame]
theorem Room.make {k : Nat} {A : Around} (r : Room (k + 1) A) (C : Addr) (us : List Value) (kw : List (Str × Value)) : Room k (A.under (.builtin "type.__call__" ⟨.ref C :: us, kw⟩)) :=
 ⟨r.hd, by have := r.dp; rw [Jtv]; omega, by have := r.un; rw [Js8]; omega⟩
theorem Room.depth {k : Nat} {A : Around} (r : Room k A) : A.depth < recursionLimit := by have := r.dp; omega
theorem Room.units {k : Nat} {A : Around} (r : Room k A) : A.units + 64 < cLine := by have := r.un; omega
section
variable {X : Cx} {e : Expr} {es : List Expr} {te : TE} {t : TA} {pos : Pos}
end
noncomputable abbrev Sp := List V -> Hp -> VK -> XK -> Prop
noncomputable abbrev CXT := List Env -> Hp -> Shared -> XK -> Value -> Shared -> Prop
structure Env0 (P : Program) (w : World) (K : W.Frag) (mg : Str -> Option Value) (base : Heap) (A : Around) (outer : List Env) (s : Shared) (H : Hp) : Prop where
 frames : A.frames = some outer
 mod : Mod K mg base
 bs : ∀ b o, base.get? b = some o -> s.heap.get? b = some o /\ H b = none
 bsz : base.objs.size <= s.heap.objs.size
 funs : s.heap.FunFrames base outer
 frf : ∀ b ∈ frs outer, H b = none
 hok : HOk P w H s.heap
 bare : AllBare s.gens
noncomputable def CE (outer : List Env) (P : Program) (w : World) (H : Hp) (s : Shared) (Q : VK) (u : Value) (s' : Shared) : Prop :=
 ∃ v H', s'.os = s.os /\ AllBare s'.gens /\ Un (frs outer) [] H H' s.heap s'.heap /\ HOk P w H' s'.heap /\ RelV v u /\ Q v H'
noncomputable def CR (CX : CXT) (outer : List Env) (P : Program) (w : World) (H : Hp) (s : Shared) (Q : VK) (E : XK) (r : Result) (s' : Shared) : Prop :=
 match r with
 | .ok (.ret u) => CE outer P w H s Q u s'
 | .ok _ => False
 | .error e => CX outer H s E e s'
structure FnOk (P : Program) (w : World) (K : W.Frag) (mg : Str -> Option Value) (base : Heap) (CX : CXT) (k : Nat) (f : Addr) (fd : FuncData) (ps : List Str) (sp : Sp) : Prop where
 len : ∀ vs H Q E, sp vs H Q E -> vs.length = ps.length
 run : ∀ (A : Around) (outer : List Env) (s : Shared) (H : Hp) (args : Args) (us : List Value) (vs : List V) (Q : VK) (E : XK), Room k A -> Env0 P w K mg base A outer s H -> BindsTo s fd args (ps.zip us) -> Vals vs us -> sp vs H Q E ->
  codeAny (model P w) A (.call (.ref f) args) (CR CX outer P w H s Q E) s
theorem FnOk.mono {P : Program} {w : World} {K : W.Frag} {mg : Str -> Option Value} {base : Heap} {CX : CXT} {j k : Nat} {f : Addr} {fd : FuncData} {ps : List Str} {sp : Sp} (F : FnOk P w K mg base CX j f fd ps sp) (h : j <= k) :
  FnOk P w K mg base CX k f fd ps sp := ⟨F.len, fun A outer s H args us vs Q E hr => F.run A outer s H args us vs Q E (hr.mono h)⟩
theorem FnOk.imp {P : Program} {w : World} {K : W.Frag} {mg : Str -> Option Value} {base : Heap} {CX : CXT} {k : Nat} {f : Addr} {fd : FuncData} {ps : List Str} {sp sp' : Sp} (F : FnOk P w K mg base CX k f fd ps sp)
  (h : ∀ vs H Q E, sp' vs H Q E -> sp vs H Q E) : FnOk P w K mg base CX k f fd ps sp' :=
 ⟨fun vs H Q E q => F.len vs H Q E (h _ _ _ _ q), fun A outer s H args us vs Q E hr he hb hv hs => F.run A outer s H args us vs Q E hr he hb hv (h _ _ _ _ hs)⟩
theorem Env0.make {P : Program} {w : World} {K : W.Frag} {mg : Str -> Option Value} {base : Heap} {A : Around} {outer : List Env} {s : Shared} {H : Hp} (e : Env0 P w K mg base A outer s H) (C : Addr) (us : List Value) (kw : List (Str × Value)) :
  Env0 P w K mg base (A.under (.builtin "type.__call__" ⟨.ref C :: us, kw⟩)) outer s H := ⟨by first | exact e.frames | (simpa [Around.under, Code.envs, Code.isFrame, pushEnvs] using e.frames), e.mod, e.bs, e.bsz, e.funs, e.frf, e.hok, e.bare⟩
theorem Env0.in1 {P : Program} {w : World} {K : W.Frag} {mg : Str -> Option Value} {base : Heap} {A : Around} {outer : List Env} {s : Shared} {H : Hp} (e : Env0 P w K mg base A outer s H) :
  Env0 P w K mg base A.in1 outer s H := ⟨e.frames, e.mod, e.bs, e.bsz, e.funs, e.frf, e.hok, e.bare⟩
section
variable {X : Cx} {pins : List (Addr × Obj)} {σ : St} {H : Hp} {s s' : Shared}
theorem Inv.env0 (I : Inv X pins σ H s) : Env0 X.prog X.w X.K X.mg X.base X.A X.stack s H :=
 ⟨I.ok.frames, I.ok.mod, I.bs, Nat.le_trans I.ok.bsz I.sz, I.stack, I.stkFree, I.hok, I.bare⟩
theorem Inv.after {Q : VK} {u : Value} (I : Inv X pins σ H s) (h : CE X.stack X.prog X.w H s Q u s') : EP X pins σ Q u s' := by
 obtain ⟨v, H', os, bare, un, hok, r, q⟩ := h
 obtain ⟨hh, g, d, t, os'⟩ := s'
 obtain rfl : os' = s.os := os
 exact ⟨v, H', I.call (h' := hh) (g' := g) (d' := d) (t' := t) (ch := []) un hok bare (fun b z => absurd z (by simp)), r, q⟩
end
noncomputable def Jhh (K : W.Frag) (fd : FuncData) (ps : List Str) (ds : List Value) : Prop :=
 ∀ (s : Shared) (us : List Value), K.In s.heap -> (us ++ ds).length = ps.length -> BindsTo s fd ⟨us, []⟩ (ps.zip (us ++ ds))
theorem Jhh.all {K : W.Frag} {fd : FuncData} {ps : List Str} (h : ∀ us : List Value, us.length = ps.length -> bindArgs fd ⟨us, []⟩ = pure (ps.zip us)) : Jhh K fd ps [] := fun s us _ hl => by
 rw [List.append_nil] at hl ⊢
 exact .of_eq (h us hl)
noncomputable def J0p (CX : CXT) (X : Cx) (E : XK) : Prop := ∀ (pins : List (Addr × Obj)) (σ : St) (H : Hp) (s : Shared) (e : Value) (s' : Shared), Inv X pins σ H s -> CX X.stack H s E e s' -> X.xe e s'
section
variable {X : Cx} {CX : CXT} {k : Nat} {f C : Addr} {fd : FuncData} {ps : List Str} {sp : Sp} {dvs : List V} {ds : List Value} {E : XK} {x m : Str} {p pos apos : Pos} {e o : Expr} {es : List Expr} {ta : TE} {t : TA}
theorem J3c {pins : List (Addr × Obj)} {σ : St} {H : Hp} {s : Shared} {Q : VK} {us : List Value} {vs : List V} (F : FnOk X.prog X.w X.K X.mg X.base CX k f fd ps sp) (hr : Room k X.A) (hb : Jhh X.K fd ps ds) (hd : Vals dvs ds) (hx : J0p CX X E)
  (I : Inv X pins σ H s) (r : Vals vs us) (h : sp (vs ++ dvs) H Q E) : wpAny (model X.prog X.w) X.A (call (.ref f) us) (EP X pins σ Q) X.xe s := by
 have r2 : Vals (vs ++ dvs) (us ++ ds) := r.append hd
 have hl : (us ++ ds).length = ps.length := by rw [<- r2.length]; exact F.len _ _ _ _ h
 refine wpAny_call (codeAny_mono (F.run X.A X.stack s H ⟨us, []⟩ (us ++ ds) (vs ++ dvs) Q E hr I.env0 (hb s us I.kIn hl) r2 h) fun r s' hq => ?_)
 cases r with
 | error e => exact hx pins σ H s e s' I hq
 | ok fl =>
  cases fl with
  | ret u => exact I.after hq
  | next => exact False.elim hq
  | brk => exact False.elim hq
  | cont => exact False.elim hq
structure Mk (K : W.Frag) (C f : Addr) : Prop where
 makes : W.makesIn K C = true
 init : W.findIn K (.ref C) "__init__" = some (some (.ref f))
 fn : W.isFn K (.ref f) = true
 kp : W.keepIn K (.ref C) = true
theorem Jzg {pins : List (Addr × Obj)} {σ : St} {H : Hp} {s : Shared} {Q : VK} {us : List Value} {vs : List V} (M : Mk X.K C f) (F : FnOk X.prog X.w X.K X.mg X.base CX k f fd ps sp) (hr : Room (k + 1) X.A) (hb : Jhh X.K fd ps ds) (hd : Vals dvs ds)
  (hx : J0p CX X E) (I : Inv X pins σ H s) (r : Vals vs us)
  (h : ∀ x dx, H x = none -> H dx = none -> dx ≠ x -> sp (.ref x :: (vs ++ dvs)) (upd (upd H dx (.own x)) x (.ins C dx [])) (fun v H2 => v = .non /\ Q (.ref x) H2) E) :
  wpAny (model X.prog X.w) X.A (call (.ref C) us) (EP X pins σ Q) X.xe s := by
 have hq := h (s.heap.objs.size + 1) s.heap.objs.size (I.hok.fresh (Nat.le_succ _)) (I.hok.fresh (Nat.le_refl _)) (Nat.ne_of_lt (Nat.lt_succ_self _))
 have I2 := Inv.made (C := C) I
 have r2 : Vals (V.ref (s.heap.objs.size + 1) :: (vs ++ dvs)) (Value.ref (s.heap.objs.size + 1) :: (us ++ ds)) := .cons rfl (r.append hd)
 have hl : (Value.ref (s.heap.objs.size + 1) :: us ++ ds).length = ps.length := by
  have e := r2.length
  rw [F.len _ _ _ _ hq] at e
  exact e.symm
 refine wpAny_call (Jye (f := f) I.kIn M.makes M.init (beq_iff_eq.mp M.fn) (codeAny_mono (F.run _ X.stack _ _ ⟨Value.ref (s.heap.objs.size + 1) :: us, []⟩ (Value.ref (s.heap.objs.size + 1) :: (us ++ ds)) _ _ E (hr.make C us [])
  (I2.env0.make C us []) (hb _ (Value.ref (s.heap.objs.size + 1) :: us) I2.kIn hl) r2 hq) fun r s' hq' => ?_))
 cases r with
 | error e => exact hx pins σ _ _ e s' I2 hq'
 | ok fl =>
  cases fl with
  | ret u =>
   obtain ⟨v, H', I3, rv, ev, q3⟩ := I2.after hq'
   subst ev
   exact ⟨rv, ⟨V.ref (s.heap.objs.size + 1), H', I3, rfl, q3⟩⟩
  | next => exact False.elim hq'
  | brk => exact False.elim hq'
  | cont => exact False.elim hq'
end
section
variable {X : Cx} {CX : CXT} {k : Nat} {f C : Addr} {fd : FuncData} {ps ks : List Str} {sp : Sp} {E : XK} {x m : Str} {p pos apos kpos : Pos} {e o : Expr} {es : List Expr} {kws : List Keyword} {te ta : TE} {t tk : TA} {nm : Option Str}
structure KBinds (K : W.Frag) (fd : FuncData) (ps ks : List Str) (g : List Value -> List Value -> List Value) (gV : List V -> List V -> List V) : Prop where
 to : ∀ (s : Shared) (us ws : List Value), K.In s.heap -> (g us ws).length = ps.length -> BindsTo s fd ⟨us, ks.zip ws⟩ (ps.zip (g us ws))
 rel : ∀ {vs : List V} {us : List Value} {zs : List V} {ws : List Value}, Vals vs us -> Vals zs ws -> Vals (gV vs zs) (g us ws)
variable {g : List Value -> List Value -> List Value} {gV : List V -> List V -> List V}
end
structure FnScope (N P : List Str) (sc : Scope) : Prop where
 kind : sc.kind = .function
 co : sc.isCoroutine = false
 gen : sc.isGenerator = false
 nd : N.Nodup
 pre : N.take P.length = P
 par : ∀ x ∈ P, sc.names.lookup x = some .local ∨ sc.names.lookup x = some .cell
 nofree : ∀ y ∈ sc.names, y.2 ≠ .free
theorem Jo7 {kindOf : Str -> Option NameKind} {x : Str} : ∀ {binds : List (Str × Value)} {m : Str -> Option Value}, (∀ v, (x, v) ∉ binds) -> bindL kindOf binds m x = m x
 | [], _, _ => rfl
 | (n, v) :: r, m, h => by
  unfold bindL
  rw [Jo7 fun w hw => h w (List.mem_cons_of_mem _ hw)]
  split
  ·have : x ≠ n := by rintro rfl; exact h v List.mem_cons_self
   simp [this]
  ·rfl
theorem Jp5 {kindOf : Str -> Option NameKind} {x : Str} : ∀ {binds : List (Str × Value)} {m : Str -> Option Value}, (∀ v, (x, v) ∉ binds) -> bindC kindOf binds m x = m x
 | [], _, _ => rfl
 | (n, v) :: r, m, h => by
  unfold bindC
  rw [Jp5 fun w hw => h w (List.mem_cons_of_mem _ hw)]
  split
  ·rfl
  ·have : x ≠ n := by rintro rfl; exact h v List.mem_cons_self
   simp [this]
theorem Jop {kindOf : Str -> Option NameKind} {x : Str} {v : Value} : ∀ {P : List Str} {vs : List Value} {i : Nat} {m : Str -> Option Value}, P.Nodup -> P[i]? = some x -> vs[i]? = some v -> kindOf x = some .local ->
  bindL kindOf (P.zip vs) m x = some v
 | [], _, _, _, _, h, _, _ => by simp at h
 | _ :: _, [], _, _, _, _, h, _ => by simp at h
 | p :: P, w :: vs, 0, m, nd, h1, h2, hk => by
  simp at h1 h2; subst h1; subst h2
  show bindL kindOf ((p, w) :: P.zip vs) m p = _
  unfold bindL
  rw [Jo7 fun v hv => (List.nodup_cons.mp nd).1 (List.of_mem_zip hv).1, if_pos hk]
  simp
 | p :: P, w :: vs, i + 1, m, nd, h1, h2, hk => by
  show bindL kindOf ((p, w) :: P.zip vs) m x = _
  unfold bindL
  exact Jop (i := i) (List.nodup_cons.mp nd).2 (by simpa using h1) (by simpa using h2) hk
theorem Jpi {kindOf : Str -> Option NameKind} {x : Str} {v : Value} : ∀ {P : List Str} {vs : List Value} {i : Nat} {m : Str -> Option Value}, P.Nodup -> P[i]? = some x -> vs[i]? = some v -> kindOf x ≠ some .local ->
  bindC kindOf (P.zip vs) m x = some v
 | [], _, _, _, _, h, _, _ => by simp at h
 | _ :: _, [], _, _, _, _, h, _ => by simp at h
 | p :: P, w :: vs, 0, m, nd, h1, h2, hk => by
  simp at h1 h2; subst h1; subst h2
  show bindC kindOf ((p, w) :: P.zip vs) m p = _
  unfold bindC
  rw [Jp5 fun v hv => (List.nodup_cons.mp nd).1 (List.of_mem_zip hv).1, if_neg hk]
  simp
 | p :: P, w :: vs, i + 1, m, nd, h1, h2, hk => by
  show bindC kindOf ((p, w) :: P.zip vs) m x = _
  unfold bindC
  exact Jpi (i := i) (List.nodup_cons.mp nd).2 (by simpa using h1) (by simpa using h2) hk
noncomputable def start (N : List Str) (vs : List V) : St := vs.map some ++ List.replicate (N.length - vs.length) none
noncomputable def cxOf (CX : CXT) (P : Program) (w : World) (K : W.Frag) (mg : Str -> Option Value) (base : Heap) (N : List Str) (qual : Str) (scope : Scope) (f : Addr) (cd : Value) (A : Around) (outer : List Env) (s : Shared) (H : Hp) (E : XK) : Cx where
 prog := P
 w := w
 K := K
 mg := mg
 base := base
 A := A.deeper (envOfC qual scope s.heap.objs.size f cd)
 N := N
 s₀ := s
 H₀ := H
 env := envOfC qual scope s.heap.objs.size f cd
 outer := outer
 stack := envOfC qual scope s.heap.objs.size f cd :: outer
 ex := []
 calm := true
 fn := fun _ => true
 pn := []
 xe := fun e s' => wpAny (model P w) (A.deeper (envOfC qual scope s.heap.objs.size f cd)) (leaving (envOfC qual scope s.heap.objs.size f cd) e) (fun _ s'' => CX outer H s E e s'') (fun e' s'' => CX outer H s E e' s'') s'
theorem Js7 {sc : Scope} {n : Nat} {x : Str} (h : sc.names.lookup x = some .cell) : ∃ c, (cellsFrom n sc.names []).lookup x = some c := by
 have q := W.cellsFrom_some sc.names n [] (.inl h)
 exact Option.isSome_iff_exists.mp q
theorem Jw5 {CX : CXT} {P : Program} {w : World} {K : W.Frag} {mg : Str -> Option Value} {base : Heap} {N ps : List Str} {qual : Str} {scope : Scope} {f : Addr} {cd : Value} {A : Around} {outer : List Env} {s s1 : Shared} {H : Hp} {E : XK} {us : List Value} {vs : List V}
  (S : FnScope N ps scope) (hd : A.handled = none) (e0 : Env0 P w K mg base A outer s H) (hl : vs.length = ps.length) (r : Vals vs us)
  (x : InCallC s s.heap.objs.size (bindL (envOfC qual scope s.heap.objs.size f cd).kindOf (ps.zip us) fun _ => none) (cellsFrom (s.heap.objs.size + 1) scope.names []) (bindC (envOfC qual scope s.heap.objs.size f cd).kindOf (ps.zip us) fun _ => none) s1) :
  Inv (cxOf CX P w K mg base N qual scope f cd A outer s H E) [] (start N vs) H s1 := by
 have hpl : ps.length <= N.length := by have := congrArg List.length S.pre; rw [List.length_take] at this; omega
 obtain ⟨h1, tk, rfl, hk⟩ := x.done
 have noA : ∀ b : Addr, b ∉ (cxOf CX P w K mg base N qual scope f cd A outer s H E).ex := fun b z => absurd (show b ∈ ([] : List Addr) from z) (by simp)
 refine ⟨⟨e0.mod, S.kind, rfl, rfl, Nat.le_refl _, fun y z c h1 h2 => ?_, fun y hy => ?_, fun y c _ h => ?_, fun _ => hd, Around.frames_deeper e0.frames, .inr ⟨rfl, rfl⟩, fun b z => absurd z (noA b), e0.bs, e0.bsz, fun b _ _ => noA b, fun b z => absurd z (noA b), e0.funs, e0.frf⟩,
  rfl, e0.bare, Un.kept hk, ⟨_, x.toInCall.ns, fun i y v h1 h2 h3 => ?_⟩, fun y c h => ⟨_, x.cell y c h⟩, e0.hok.fresh (Nat.le_refl _), fun y c h => ?_, fun p hp => absurd (show p ∈ ([] : List (Addr × Obj)) from hp) (by simp), e0.hok.kept hk, ?_⟩
 ·exact name_of_addr x.apart (PySem.mem_of_lookup h1) (PySem.mem_of_lookup h2)
 ·have hy : scope.names.lookup y = some .cell ∨ scope.names.lookup y = some .free := hy
  rcases hy with hy | hy
  ·exact Js7 hy
  ·exact absurd rfl (S.nofree _ (PySem.mem_of_lookup hy))
 ·exact Nat.le_of_lt (x.above y c (PySem.mem_of_lookup h))
 ·have hi : i < vs.length := by
   unfold start at h2
   by_cases hi : i < vs.length
   ·exact hi
   ·rw [List.getElem?_append_right (by simpa using hi)] at h2
    rw [List.getElem?_replicate] at h2
    split at h2 <;> cases h2
  have ha : vs[i]? = some v := by
   unfold start at h2
   rw [List.getElem?_append_left (by simpa using hi), List.getElem?_map] at h2
   cases e : vs[i]? with
   | none => rw [e] at h2; cases h2
   | some a => rw [e] at h2; cases h2; rfl
  obtain ⟨u, hu, rv⟩ := r.get ha
  have hp : ps[i]? = some y := by
   rw [<- S.pre, List.getElem?_take_of_lt (by omega)]; exact h1
  have ndP : ps.Nodup := by rw [<- S.pre]; exact S.nd.sublist (List.take_sublist _ _)
  refine ⟨u, rv, ?_⟩
  rcases S.par y (List.mem_of_getElem? hp) with k | k
  ·exact .inl ⟨k, Jop ndP hp hu k⟩
  ·obtain ⟨c, e⟩ := Js7 (n := s.heap.objs.size + 1) k
   refine .inr ⟨.inl k, c, e, ?_⟩
   have q := x.cell y c e
   rw [Jpi ndP hp hu (by show scope.names.lookup y ≠ _; rw [k]; decide)] at q
   exact q
 ·exact e0.hok.fresh (Nat.le_of_lt (x.above y c (PySem.mem_of_lookup h)))
 ·unfold start
  show _ = N.length
  rw [List.length_append, List.length_map, List.length_replicate]
  omega
theorem J4v {CX : CXT} {P : Program} {w : World} {K : W.Frag} {mg : Str -> Option Value} {base : Heap} {k : Nat} {f : Addr} {name qual : Str} {params : Arguments} {body : List Stmt} {scope : Scope} {dV kV doc pm cdv ct oc : Value} {an od : Option Addr}
  {osl : Array (Option Value)} {N ps : List Str} {sp : Sp} (lk : K.lookup f = some ⟨oc, od, .func (W.fnOf name qual params body scope dV kV doc pm an cdv ct), osl⟩) (hcd : W.codeIn K cdv qual = true) (S : FnScope N ps scope)
  (len : ∀ vs H Q E, sp vs H Q E -> vs.length = ps.length)
  (hbody : ∀ (A : Around) (outer : List Env) (s : Shared) (H : Hp) (vs : List V) (Q : VK) (E : XK), Room k (A.deeper (envOfC qual scope s.heap.objs.size f cdv)) -> sp vs H Q E ->
   ∃ t, PSs (cxOf CX P w K mg base N qual scope f cdv A outer s H E) body t /\ t { nx := fun _ H' => Q .non H', rt := Q } (start N vs) H) :
  FnOk P w K mg base CX (k + 1) f (W.fnOf name qual params body scope dV kV doc pm an cdv ct) ps sp := by
 refine ⟨len, fun A outer s H args us vs Q E hr e0 hb r hsp => ?_⟩
 have hl := len _ _ _ _ hsp
 have KX : K.In s.heap := e0.mod.kin.keeps fun b o e => (e0.bs b o e).1
 have lim : s.heap.NoLimit := e0.mod.nolimit.keeps fun b o e => (e0.bs b o e).1
 have hkind : ∀ y ∈ ps.zip us, scope.names.lookup y.1 = some .local ∨ (scope.names.lookup y.1 = some .cell /\ ((cellsFrom (s.heap.objs.size + 1) scope.names []).lookup y.1).isSome = true) := fun ⟨n, v⟩ hy => by
  rcases S.par n (List.of_mem_zip hy).1 with q | q
  ·exact .inl q
  ·exact .inr ⟨q, W.cellsFrom_some _ _ _ (.inl q)⟩
 refine codeAny_call_function hr.depth (KX _ _ lk) rfl S.co S.gen rfl (W.codeRec_of KX hcd) (hb _ _ _ _ ?_)
 refine wpAny_newFunctionEnv_cells S.kind hkind fun env he s1 x => ?_
 subst he
 refine ⟨lim.keeps x.toInCall.keep, codeAny_func ?_⟩
 obtain ⟨t, ht, hq⟩ := hbody A outer s H vs Q E (hr.deeper _) hsp
 have I : Inv (cxOf CX P w K mg base N qual scope f cdv A outer s H E) [] (start N vs) H s1 := Jw5 S hr.hd e0 hl r x
 refine wpAny_mono (ht [] s1 (start N vs) H _ I hq) (fun fl s' hs => ?_) fun e s' hs => hs
 have fin : ∀ {σ' : St} {H' : Hp} {v : V} {u : Value}, Inv (cxOf CX P w K mg base N qual scope f cdv A outer s H E) [] σ' H' s' -> RelV v u -> Q v H' -> CE outer P w H s Q u s' :=
  fun {σ' H' v u} J rv q => ⟨v, H', J.os, J.bare, J.base, J.hok, rv, q⟩
 cases fl with
 | ret u =>
  obtain ⟨v, σ', H', J, rv, q⟩ := hs
  exact fin J rv q
 | next =>
  obtain ⟨σ', H', J, q⟩ := hs
  exact fin (v := V.non) (u := Value.none) J rfl q
 | brk =>
  obtain ⟨_, _, _, q⟩ := hs
  exact False.elim q
 | cont =>
  obtain ⟨_, _, _, q⟩ := hs
  exact False.elim q
end L2
namespace L2
open PySem PySem.Spec PyProof.Rows
section
variable {X : Cx} {x : Str} {p pos : Pos} {e : Expr} {es : List Expr} {t : TA} {id T : String} {r : List V -> Hp -> VK -> Prop}
end
end L2
namespace HT
open PySem PyProof.Rows
section
open PySem.SeqAt
open PySem.AutoSeq1 (wpAny_loadPart')
open PySem.MeetsSeq PySem.MeetsSeq2 PySem.MeetsSeq3
end
section
variable {prog : Program} {w : World} {A : Around} {E : Value -> Shared -> Prop} {s : Shared}
theorem cat_tup {t b : Addr} {vs ws : List Value} {Q : Value -> Shared -> Prop} (ht : IsTup s.heap t vs.toArray) (hb : IsTup s.heap b ws.toArray) (hv : vs ≠ [])
  (h1 : ws = [] -> Q (.ref t) s) (h2 : ws ≠ [] -> Q (.ref s.heap.objs.size) { s with heap := s.heap.push { cls := .type "tuple", data := .seq (vs ++ ws).toArray } })
  (hsz : vs.length + ws.length <= sizeLine) : wpAny (model prog w) A (binaryOp .Add (.ref t) (.ref b)) Q E s := by
 obtain ⟨⟨cls, dd, data, sl⟩, ho, hc, n, hd⟩ := id ht
 obtain ⟨⟨cls2, dd2, data2, sl2⟩, ho2, hc2, n2, hd2⟩ := id hb
 simp only at hc hd hc2 hd2
 subst hc hd hc2 hd2
 have e : vs.toArray ++ ws.toArray = (vs ++ ws).toArray := by simp
 by_cases hw : ws = []
 ·exact concat_meets ⟨_, ho, rfl⟩ ⟨_, ho2, rfl⟩ noFill_tuple_add seq_tuple_add PySem.F.slot_tuple_add PySem.F.entry_tuple_add (PySem.F.args_tuple_add_2 _ _)
   (tuple_addW1 t b vs.toArray ws.toArray n n2 dd dd2 sl sl2 (by simpa using hv) (by simp [hw])) ⟨ho, ho2, h1 hw⟩
 ·refine concat_meets ⟨_, ho, rfl⟩ ⟨_, ho2, rfl⟩ noFill_tuple_add seq_tuple_add PySem.F.slot_tuple_add PySem.F.entry_tuple_add (PySem.F.args_tuple_add_2 _ _)
   (tuple_addW2 t b vs.toArray ws.toArray n n2 dd dd2 sl sl2 (by simpa using hv) (by simpa using hw) (by rw [List.size_toArray, List.size_toArray]; exact hsz)) ⟨ho, ho2, ?_⟩
  rw [e]
  exact h2 hw
noncomputable def sIx (n d : Nat) : Option Int -> Nat
 | none => d
 | some v => if v < 0 then (v + (n : Int)).toNat else min v.toNat n
theorem sIx_none (n d : Nat) : sIx n d none = d := rfl
theorem sIx_nat (n d k : Nat) : sIx n d (some (k : Int)) = min k n := by
 show (if (k : Int) < 0 then ((k : Int) + (n : Int)).toNat else min (k : Int).toNat n) = min k n
 rw [if_neg (by omega), Int.toNat_natCast]
theorem J48 (n d : Nat) (hd : d <= n) (o : Option Int) : sIx n d o <= n := by
 cases o with
 | none => exact hd
 | some v =>
  show (if v < 0 then (v + (n : Int)).toNat else min v.toNat n) <= n
  by_cases hv : v < 0
  ·rw [if_pos hv]; omega
  ·rw [if_neg hv]; exact Nat.min_le_right _ _
theorem Jvk (v : Int) (n d : Nat) : (if v < 0 then max (v + (n : Int)) 0 else min v (n : Int)) = ((sIx n d (some v) : Nat) : Int) := by
 show (if v < 0 then max (v + (n : Int)) 0 else min v (n : Int)) = (((if v < 0 then (v + (n : Int)).toNat else min v.toNat n) : Nat) : Int)
 by_cases hv : v < 0
 ·simp only [if_pos hv]; omega
 ·simp only [if_neg hv]; omega
theorem Jus (lo hi : Option Int) (n : Nat) : Builtin.Slice.sliceAdjust lo hi 1 (n : Int) = (((sIx n 0 lo : Nat) : Int), ((sIx n n hi : Nat) : Int)) := by
 have h1 : ¬ ((1 : Int) < 0) := by omega
 unfold Builtin.Slice.sliceAdjust
 simp only [h1, if_false]
 refine Prod.ext ?_ ?_
 ·cases lo with
  | none => rfl
  | some v => exact Jvk v n 0
 ·cases hi with
  | none => rfl
  | some v => exact Jvk v n n
theorem Jts (i j : Nat) : Builtin.Slice.slicePlaces (i : Int) (j : Int) 1 = j - i := by
 unfold Builtin.Slice.slicePlaces
 have h1 : (1 : Int) > 0 := by omega
 simp only [h1, if_true, Int.ediv_one]
 split <;> omega
theorem Jnf {v : Value} {o : Option Int} {Q : Option Int -> Shared -> Prop} (p : IsPart v o) (h : Q o s) : wpAny (model prog w) A (Builtin.Slice.slicePartIndex v) Q E s := by
 cases p with
 | none => exact slicePart_none h
 | int i t => exact slicePart_int h
theorem Jkj {sl : Addr} {vl vu : Value} {lo hi : Option Int} {n : Nat} {Q : Int × Int × Nat -> Shared -> Prop} (hs : s.heap.IsSliceOf sl vl vu .none) (pl : IsPart vl lo) (pu : IsPart vu hi)
  (h : Q (((sIx n 0 lo : Nat) : Int), 1, sIx n n hi - sIx n 0 lo) s) : wpAny (model prog w) A (Builtin.Slice.sliceApplied (.ref sl) (pure (n : Int))) Q E s := by
 obtain ⟨os, hos, hcs, hds⟩ := id hs
 unfold Builtin.Slice.sliceApplied Builtin.Slice.sliceFields
 refine wpAny_bind (wpAny_bind (wpAny_field hos hds (x := vl) rfl (wpAny_bind (wpAny_field hos hds (x := vu) rfl (wpAny_bind (wpAny_field hos hds (x := .none) rfl (wpAny_pure ?_)))))))
 refine wpAny_bind (slicePart_none ?_)
 show wpAny _ _ (if ((1 : Int) == 0) = true then _ else _) _ _ s
 rw [if_neg (by decide)]
 refine wpAny_bind (Jnf pl (wpAny_bind (Jnf pu (wpAny_bind (wpAny_pure ?_)))))
 show wpAny _ _ (match Builtin.Slice.sliceAdjust lo hi 1 (n : Int) with | (lo, hi) => pure (lo, (1 : Int), Builtin.Slice.slicePlaces lo hi 1)) _ _ s
 rw [Jus lo hi n]
 show wpAny _ _ (pure (((sIx n 0 lo : Nat) : Int), (1 : Int), Builtin.Slice.slicePlaces ((sIx n 0 lo : Nat) : Int) ((sIx n n hi : Nat) : Int) 1)) _ _ s
 rw [Jts]
 exact wpAny_pure h
theorem Jym (xs : Array Value) (i k : Nat) : ((List.range k).filterMap fun (m : Nat) => xs[((i : Int) + (m : Int) * 1).toNat]?).toArray = ((xs.toList.drop i).take k).toArray := by
 have e : (fun (m : Nat) => xs[((i : Int) + (m : Int) * 1).toNat]?) = fun m => xs[i + m]? := by
  funext m
  have : ((i : Int) + (m : Int) * 1).toNat = i + m := by omega
  rw [this]
 rw [e]
 have := pick_run xs i k
 rw [List.filterMap_map] at this
 have e2 : ((fun x => xs[x]?) ∘ fun x => i + x) = fun m => xs[i + m]? := rfl
 rw [e2] at this
 rw [this]
theorem getItem_tuple_cut {t sl : Addr} {items : Array Value} {vl vu : Value} {lo hi : Option Int} {Q : Value -> Shared -> Prop} (ht : IsTup s.heap t items) (hs : s.heap.IsSliceOf sl vl vu .none) (pl : IsPart vl lo) (pu : IsPart vu hi)
  (hw : ¬ (sIx items.size 0 lo = 0 /\ sIx items.size items.size hi = items.size))
  (h : Q (.ref s.heap.objs.size) { s with heap := s.heap.push { cls := .type "tuple", data := .seq ((items.toList.drop (sIx items.size 0 lo)).take (sIx items.size items.size hi - sIx items.size 0 lo)).toArray } })
  (hsz : items.size <= sizeLine) : wpAny (model prog w) A (getItem (.ref t) (.ref sl)) Q E s := by
 have htake : sizeOk (.seq ((items.toList.drop (sIx items.size 0 lo)).take (sIx items.size items.size hi - sIx items.size 0 lo)).toArray) := by
  show ((items.toList.drop (sIx items.size 0 lo)).take (sIx items.size items.size hi - sIx items.size 0 lo)).toArray.size <= sizeLine
  rw [List.size_toArray, List.length_take, List.length_drop, Array.length_toList]
  omega
 have hj : sIx items.size items.size hi <= items.size := J48 _ _ (Nat.le_refl _) hi
 obtain ⟨os, hos, hcs, hds⟩ := id hs
 have hTs : s.TypeIs (.ref sl) "slice" := ⟨os, hos, hcs⟩
 unfold getItem
 try with_reducible refine wpAny_holding ?_
 first | refine wpAny_bind (wpAny_pure ?_) | skip
 refine wpAny_bind (wpAny_sequenceKey ht.typeIs (by decide) ?_)
 refine wpAny_bind (wpAny_callSpecial?_slot (name := Str.ofString "__getitem__") ht.typeIs PyProof.Rows.slot_tuple_getitem
  (wpAny_call_entry PyProof.Rows.slot_tuple_getitem ht.typeIs entry_tuple_getitem ?_ (args_tuple_getitem _ _)))
 show wpAny _ _ (Builtin.Tuple.tupleItemsOf (.ref t) >>= _) _ _ s
 refine wpAny_bind (tupleItemsOf_ ht ?_)
 refine wpAny_bind (wpAny_typeOf hTs ?_)
 rw [if_pos (by decide)]
 refine wpAny_bind (Jkj hs pl pu ?_)
 have hno : ¬ ((((sIx items.size 0 lo : Nat) : Int) == 0 && (1 : Int) == 1 && (sIx items.size items.size hi - sIx items.size 0 lo) == items.size) = true) := by
  intro q
  rw [Bool.and_eq_true, Bool.and_eq_true] at q
  have q1 : ((sIx items.size 0 lo : Nat) : Int) = 0 := eq_of_beq q.1.1
  have q2 : sIx items.size items.size hi - sIx items.size 0 lo = items.size := eq_of_beq q.2
  exact hw ⟨by omega, by omega⟩
 show wpAny _ _ (if (((sIx items.size 0 lo : Nat) : Int) == 0 && (1 : Int) == 1 && (sIx items.size items.size hi - sIx items.size 0 lo) == items.size) = true then _ else _) _ _ s
 rw [if_neg hno, Jym]
 first
  | exact wpAny_bind (m := Builtin.Tuple.tupleExact _) (wpAny_newObj_type (wpAny_pure ⟨_, rfl, wpAny_pure h⟩) htake)
  | exact wpAny_bind (m := Builtin.Tuple.tupleExact _) (wpAny_newObj_type (wpAny_bind (wpAny_pure (wpAny_pure ⟨_, rfl, wpAny_pure h⟩))) htake)
  | exact wpAny_bind (wpAny_bind (m := Builtin.Tuple.tupleExact _) (wpAny_newObj_type (wpAny_pure (wpAny_pure ⟨_, rfl, wpAny_pure h⟩)) htake))
  | exact wpAny_bind (wpAny_bind (m := Builtin.Tuple.tupleExact _) (wpAny_newObj_type (wpAny_pure ⟨_, rfl, wpAny_pure h⟩) htake))
end
end HT
namespace L2
open PySem PySem.Spec PyProof.Rows
noncomputable abbrev TO := St -> Hp -> (Option Int -> Hp -> Prop) -> Prop
section
variable {X : Cx} {e : Expr} {te : TE} {lo hi : Option Expr} {tl th : TO} {pos p2 : Pos}
noncomputable def SlR (X : Cx) (r : V -> Option Int -> Option Int -> Hp -> VK -> Prop) : Prop :=
 ∀ (pins : List (Addr × Obj)) (s : Shared) (σ : St) (H : Hp) (x : V) (v vl vu : Value) (lo hi : Option Int) (sl : Addr) (Q : VK), Inv X pins σ H s -> RelV x v -> s.heap.IsSliceOf sl vl vu .none -> IsPart vl lo -> IsPart vu hi -> r x lo hi H Q ->
  ∃ T id, typeLookup (.type T) "__getitem__" = pure (some (.builtin id)) /\ s.TypeIs v T /\ wpAny (model X.prog X.w) X.A (getItem v (.ref sl)) (EP X pins σ Q) X.xe s
noncomputable def cutV (xs : List V) (lo hi : Option Int) : List V := (xs.drop (HT.sIx xs.length 0 lo)).take (HT.sIx xs.length xs.length hi - HT.sIx xs.length 0 lo)
theorem Jlf (xs : List V) (lo hi : Option Int) : (cutV xs lo hi).length <= xs.length := by
 unfold cutV
 rw [List.length_take, List.length_drop]
 omega
noncomputable def rSlT (K : W.Frag) : V -> Option Int -> Option Int -> Hp -> VK -> Prop := fun x lo hi H Q => ∃ a xs, x = .ref a /\ SqT K H a xs /\
 ¬ (HT.sIx xs.length 0 lo = 0 /\ HT.sIx xs.length xs.length hi = xs.length) /\ ∀ p, H p = none -> Q (.ref p) (upd H p (.tup (cutV xs lo hi)))
theorem J4d : SlR X (rSlT X.K) := by
 intro pins s σ H x v vl vu lo hi sl Q I rx hs pl pu h
 obtain ⟨a, xs, rfl, hx, hw, q⟩ := h
 cases rx
 obtain ⟨its, r, ht, hz⟩ := I.tuple hx
 have hlen : its.toArray.size = xs.length := by rw [List.size_toArray]; exact r.length.symm
 refine ⟨"tuple", _, PyProof.Rows.slot_tuple_getitem.lookup, ht.typeIs, ?_⟩
 refine HT.getItem_tuple_cut ht hs pl pu (by rw [hlen]; exact hw) ?_ (by rw [hlen]; exact hz)
 rw [hlen]
 refine ⟨.ref s.heap.objs.size, _, I.laid (t' := s.toks) (o := .tup (cutV xs lo hi)) (fun b ob q => Heap.get?_push_of_some _ q) (Nat.le_refl _) ?_, rfl, q _ (I.hok.fresh (Nat.le_refl _))⟩
 exact ⟨Nat.le_trans (Jlf xs lo hi) hz, _, (r.drop (HT.sIx xs.length 0 lo)).take (HT.sIx xs.length xs.length hi - HT.sIx xs.length 0 lo), IsTup.new _ _⟩
noncomputable def rCatT (K : W.Frag) : R2 := fun x y H Q => ∃ a b xs ys, x = .ref a /\ y = .ref b /\ SqT K H a xs /\ SqT K H b ys /\ xs ≠ [] /\ xs.length + ys.length <= sizeLine /\
 (ys = [] -> Q (.ref a) H) /\ (ys ≠ [] -> ∀ p, H p = none -> Q (.ref p) (upd H p (.tup (xs ++ ys))))
theorem Vals.nil_iff {xs : List V} {us : List Value} (r : Vals xs us) : us = [] ↔ xs = [] := by
 cases r with
 | nil => simp
 | cons _ _ => simp
theorem J2a : OpR X (binaryOp .Add) (rCatT X.K) := by
 intro pins s σ H x y v u Q I rx ry h
 obtain ⟨a, b, xs, ys, rfl, rfl, ha, hb, hx, hz, q1, q2⟩ := h
 cases rx
 cases ry
 obtain ⟨its, r1, p1, _⟩ := I.tuple ha
 obtain ⟨its2, r2, p2, _⟩ := I.tuple hb
 refine HT.cat_tup p1 p2 (fun z => hx (r1.nil_iff.mp z)) (fun z => ⟨.ref a, H, I, rfl, q1 (r2.nil_iff.mp z)⟩) (fun z => ?_) (by rw [<- r1.length, <- r2.length]; exact hz)
 refine ⟨.ref s.heap.objs.size, _, I.laid (t' := s.toks) (o := .tup (xs ++ ys)) (fun b ob q => Heap.get?_push_of_some _ q) (Nat.le_refl _) ?_, rfl, q2 (fun w => z (r2.nil_iff.mpr w)) _ (I.hok.fresh (Nat.le_refl _))⟩
 exact ⟨by rw [List.length_append]; exact hz, _, r1.append r2, IsTup.new _ _⟩
end
end L2
namespace L2
open PySem PySem.Spec PyProof.Rows
noncomputable def ixN (n : Nat) (i : Int) : Option Nat := if 0 <= i then (if i < n then some i.toNat else none) else if -(n : Int) <= i then some (i + n).toNat else none
noncomputable def atI {α : Type} (xs : List α) (i : Int) : Option α := (ixN xs.length i).bind fun j => xs[j]?
theorem Juz {n : Nat} {i : Int} {j : Nat} (h : ixN n i = some j) : seqIndex? i n = some j /\ j < n /\ -(n : Int) <= i /\ i < n := by
 unfold ixN at h
 by_cases h0 : 0 <= i
 ·rw [if_pos h0] at h
  by_cases h1 : i < n
  ·rw [if_pos h1] at h
   have e : i.toNat = j := Option.some.inj h
   exact ⟨by rw [seqIndex_of h0 h1, e], by omega, by omega, h1⟩
  ·rw [if_neg h1] at h; cases h
 ·rw [if_neg h0] at h
  by_cases h1 : -(n : Int) <= i
  ·rw [if_pos h1] at h
   have e : (i + n).toNat = j := Option.some.inj h
   exact ⟨by rw [seqIndex_neg (by omega) h1, e], by omega, h1, by omega⟩
  ·rw [if_neg h1] at h; cases h
theorem Jrs {α : Type} {xs : List α} {i : Int} {v : α} (h : atI xs i = some v) : ∃ j, seqIndex? i xs.length = some j /\ xs[j]? = some v /\ j < xs.length /\ -(xs.length : Int) <= i /\ i < xs.length := by
 unfold atI at h
 cases e : ixN xs.length i with
 | none => rw [e] at h; cases h
 | some j =>
  rw [e] at h
  obtain ⟨h1, h2, h3, h4⟩ := Juz e
  exact ⟨j, h1, h, h2, h3, h4⟩
noncomputable def Jw7 (b : Expr) : Prop := ∀ o i, subscripted b false o i = operate [o, i] (getItem o i)
noncomputable def IxR (X : Cx) (r : R2) : Prop :=
 ∀ (value slice : Expr) (pins : List (Addr × Obj)) (s : Shared) (σ : St) (H : Hp) (x y : V) (v u : Value) (Q : VK), Inv X pins σ H s -> RelV x v -> RelV y u -> r x y H Q ->
  subscripted slice false v u = operate [v, u] (getItem v u) -> wpAny (model X.prog X.w) X.A (subscriptTail value slice v u) (EP X pins σ Q) X.xe s
section
variable {X : Cx} {a b : Expr} {ta tb : TE} {pos : Pos}
noncomputable def rIxL (K : W.Frag) : R2 := fun x y H Q => ∃ p xs i v, x = .ref p /\ y = .int i /\ SqL K H p xs /\ atI xs i = some v /\ Q v H
noncomputable def rIxT (K : W.Frag) : R2 := fun x y H Q => ∃ p xs i v, x = .ref p /\ y = .int i /\ SqT K H p xs /\ atI xs i = some v /\ Q v H
noncomputable def rIxS : R2 := fun x y H Q => ∃ z i c, x = .str z /\ y = .int i /\ z.length <= sizeLine /\ atI z.cps.toList i = some c /\ Q (.str ⟨#[c]⟩) H
theorem Jwh : IxR X (rIxL X.K) := by
 intro value slice pins s σ H x y v u Q I rx ry h hs
 obtain ⟨p, xs, i, z, rfl, rfl, hq, he, q⟩ := h
 cases rx
 obtain ⟨t, rfl⟩ := ry
 obtain ⟨its, r, pl, hz⟩ := I.list hq
 obtain ⟨j, h1, h2, h3, h4, h5⟩ := Jrs he
 obtain ⟨w, ew, rw'⟩ := r.get h2
 have hl := r.length
 have hn := Jmw
 have fin : EP X pins σ Q w s := ⟨z, H, I, rw', q⟩
 by_cases h0 : 0 <= i
 ·have hj : i.toNat = j := by
   rw [seqIndex_of h0 h5] at h1
   exact Option.some.inj h1
  exact item_listR pl.isList h0 (by omega) (by rw [hj]; simpa using ew) fin hs
 ·have hj : (i + (its.toArray.size : Int)).toNat = j := by
   rw [seqIndex_neg (by omega) h4] at h1
   rw [List.size_toArray, <- hl]
   exact Option.some.inj h1
  exact subscriptTail_builtinR (x := w) pl.isList.typeIs slot_list_getitem.lookup
   (wpAny_getItem_list_neg (Q := fun r s' => r = w /\ EP X pins σ Q r s') pl.isList (by omega) (by rw [List.size_toArray] <;> omega) (by omega) (by rw [hj]; simpa using ew) ⟨rfl, fin⟩) hs
theorem J33 : IxR X (rIxT X.K) := by
 intro value slice pins s σ H x y v u Q I rx ry h hs
 obtain ⟨p, xs, i, z, rfl, rfl, hq, he, q⟩ := h
 cases rx
 obtain ⟨t, rfl⟩ := ry
 obtain ⟨its, r, pl, hz⟩ := I.tuple hq
 obtain ⟨j, h1, h2, h3, h4, h5⟩ := Jrs he
 obtain ⟨w, ew, rw'⟩ := r.get h2
 have hl := r.length
 have hn := Jmw
 have fin : EP X pins σ Q w s := ⟨z, H, I, rw', q⟩
 exact subscriptTail_builtinR (x := w) pl.typeIs slot_tuple_getitem.lookup
  (getItem_tuple (j := j) (Q := fun r s' => r = w /\ EP X pins σ Q r s') pl (by omega) (by omega) (by rw [List.size_toArray, <- hl]; exact h1) (by simpa using ew) ⟨rfl, fin⟩) hs
theorem J26 : IxR X rIxS := by
 intro value slice pins s σ H x y v u Q I rx ry h hs
 obtain ⟨z, i, c, rfl, rfl, hz, he, q⟩ := h
 obtain ⟨t, rfl⟩ := rx
 obtain ⟨t', rfl⟩ := ry
 obtain ⟨j, h1, h2, h3, h4, h5⟩ := Jrs he
 have hl : z.cps.toList.length = z.length := by simp [Str.length]
 rw [hl] at h1 h4 h5
 have hn := Jmw
 exact tail_any (typeIs_str s z t) slot_str_getitem.lookup (getItem_str (c := c) (by
  have e1 : decide (i < -(2 ^ 63 : Int)) = false := decide_eq_false (by omega)
  have e2 : decide (i ≥ 2 ^ 63) = false := decide_eq_false (by omega)
  rw [e1, e2, Bool.or_false]) (by rw [h1]; simpa using h2) ⟨.str ⟨#[c]⟩, H, I.tok _, ⟨_, rfl⟩, q⟩) hs
theorem Jt2 (its : List Value) (n j : Nat) (u : Value) : Obj.mapSeq (·.setIfInBounds j u) { cls := .type "list", data := .seq its.toArray n } = { cls := .type "list", data := .seq (its.set j u).toArray n } := by
 simp [Obj.mapSeq]
theorem Inv.lst {pins : List (Addr × Obj)} {σ : St} {H : Hp} {s : Shared} {p : Addr} {xs : List V} (I : Inv X pins σ H s) (h : H p = some (.lst xs)) :
  ∃ (its : List Value) (n : Nat), Vals xs its /\ s.heap.get? p = some { cls := .type "list", data := .seq its.toArray n } /\ xs.length <= sizeLine := by
 obtain ⟨z, its, n, r, e⟩ := I.hok p _ h
 exact ⟨its, n, r, e, z⟩
theorem Inv.lstUpd {pins : List (Addr × Obj)} {σ : St} {H : Hp} {s : Shared} {p : Addr} {xs ys : List V} {its its' : List Value} {n n' : Nat} {f : Obj -> Obj} (I : Inv X pins σ H s) (h : H p = some (.lst xs))
  (ho : s.heap.get? p = some { cls := .type "list", data := .seq its.toArray n }) (hf : f { cls := .type "list", data := .seq its.toArray n } = { cls := .type "list", data := .seq its'.toArray n' }) (r : Vals ys its') (hz : ys.length <= sizeLine) (t : Nat) :
  Inv X pins σ (upd H p (.lst ys)) { s with heap := s.heap.update p f, toks := t } := by
 have e : (s.heap.update p f).get? p = some { cls := .type "list", data := .seq its'.toArray n' } := by
  rw [Heap.get?_update_self f ho (by rw [hf] <;> rfl), hf]
 refine I.write (x := p) (e := p) (by rw [h]; trivial) (.inl rfl) (fun b u hb q => (Heap.get?_update_other _ _ (Ne.symm hb)).trans q) ⟨_, e⟩ ?_
 exact ⟨hz, its', n', r, e⟩
noncomputable def rSetL : V -> V -> V -> Hp -> (Hp -> Prop) -> Prop := fun o i v H Q => ∃ p xs k j, o = .ref p /\ i = .int k /\ H p = some (.lst xs) /\ ixN xs.length k = some j /\ Q (upd H p (.lst (xs.set j v)))
theorem Jxx : PSet X rSetL := by
 intro pins s σ H o i v ov iv u Q I ro ri rv h
 obtain ⟨p, xs, k, j, rfl, rfl, hp, hj, q⟩ := h
 cases ro
 obtain ⟨t, rfl⟩ := ri
 obtain ⟨its, n, r, ho, hz⟩ := I.lst hp
 obtain ⟨h1, h2, h3, h4⟩ := Juz hj
 have hl := r.length
 have hn := Jmw
 have I' : Inv X pins σ (upd H p (.lst (xs.set j v))) { s with heap := s.heap.update p (Obj.mapSeq (·.setIfInBounds j u)) } :=
  I.lstUpd hp ho (Jt2 its n j u) (r.set rv j) (by rw [List.length_set]; exact hz) s.toks
 by_cases h0 : 0 <= k
 ·have hk : k.toNat = j := by
   rw [seqIndex_of h0 h4] at h1
   exact Option.some.inj h1
  exact W.ki_setAt ho h0 (by omega) (by rw [List.size_toArray, <- hl]; exact h4) (by rw [hk]; exact ⟨_, I', q⟩)
 ·have hk : (k + (its.toArray.size : Int)).toNat = j := by
   rw [seqIndex_neg (by omega) h3] at h1
   rw [List.size_toArray, <- hl]
   exact Option.some.inj h1
  exact W.ki_setBack ho (by omega) (by rw [List.size_toArray, <- hl]; exact h3) (by omega) (by rw [hk]; exact ⟨_, I', q⟩)
theorem Jpa (lo hi : Option Int) (n : Nat) : (sliceBounds lo hi none n).1 = ((HT.sIx n 0 lo : Nat) : Int) /\ (sliceBounds lo hi none n).2.1 = ((HT.sIx n n hi : Nat) : Int) /\ (sliceBounds lo hi none n).2.2 = 1 := by
 refine ⟨?_, ?_, rfl⟩
 ·cases lo with
  | none => simp [sliceBounds, HT.sIx]
  | some i =>
   simp only [sliceBounds, HT.sIx, Option.getD_none, show (1 : Int) > 0 by decide, if_true]
   by_cases h : i < 0
   ·simp only [h, if_true] <;> omega
   ·simp only [h, if_false] <;> omega
 ·cases hi with
  | none => simp [sliceBounds, HT.sIx]
  | some i =>
   simp only [sliceBounds, HT.sIx, Option.getD_none, show (1 : Int) > 0 by decide, if_true]
   by_cases h : i < 0
   ·simp only [h, if_true] <;> omega
   ·simp only [h, if_false] <;> omega
theorem Jnu (its : List Value) (lo hi : Option Int) : slicePick its.toArray lo hi none = ((its.drop (HT.sIx its.length 0 lo)).take (HT.sIx its.length its.length hi - HT.sIx its.length 0 lo)).toArray := by
 obtain ⟨h1, h2, h3⟩ := Jpa lo hi its.toArray.size
 unfold slicePick
 rw [h1, h2, h3]
 simp only [sliceRange_one, pick_run, List.size_toArray] <;> rfl
noncomputable def rSlL (K : W.Frag) : V -> Option Int -> Option Int -> Hp -> VK -> Prop := fun x lo hi H Q => ∃ a xs, x = .ref a /\ SqL K H a xs /\ ∀ p, H p = none -> Q (.ref p) (upd H p (.lst (cutV xs lo hi)))
theorem Jxs : SlR X (rSlL X.K) := by
 intro pins s σ H x v vl vu lo hi sl Q I rx hs pl pu h
 obtain ⟨a, xs, rfl, hx, q⟩ := h
 cases rx
 obtain ⟨its, r, ht, hz⟩ := I.list hx
 have hlen := r.length
 refine ⟨"list", _, slot_list_getitem.lookup, ht.isList.typeIs, ?_⟩
 refine wpAny_getItem_list_slice ht.isList hs pl pu .none (by simp) ?_ (by rw [List.size_toArray] <;> omega)
 rw [Jnu, <- hlen]
 refine ⟨.ref s.heap.objs.size, _, I.laid (t' := s.toks) (o := .lst (cutV xs lo hi)) (fun b ob q => Heap.get?_push_of_some _ q) (Nat.le_refl _) ?_, rfl, q _ (I.hok.fresh (Nat.le_refl _))⟩
 exact ⟨Nat.le_trans (Jlf xs lo hi) hz, _, 0, (r.drop (HT.sIx xs.length 0 lo)).take (HT.sIx xs.length xs.length hi - HT.sIx xs.length 0 lo), Heap.get?_push_size _ rfl⟩
theorem Jfd : Jq5 X (.type "list") (fun xs H Q => ∃ p ys, xs = [.ref p] /\ (SqL X.K H p ys ∨ SqT X.K H p ys) /\ ∀ l, H l = none -> Q (.ref l) (upd H l (.lst ys))) := by
 intro pins s σ H xs us Q I r h
 obtain ⟨p, ys, rfl, hq, q⟩ := h
 obtain ⟨u, rfl, rx⟩ := Jiz r
 cases rx
 have fin : ∀ (its : List Value), Vals ys its -> ys.length <= sizeLine -> ∀ (h' : Heap) (c' : Nat), (∀ b o', s.heap.get? b = some o' -> h'.get? b = some o') ->
   h'.get? s.heap.objs.size = some { cls := .type "list", dict := none, data := .seq its.toArray c', slots := #[] } -> EP X pins σ Q (.ref s.heap.objs.size) { s with heap := h' } := fun its r' hz h' c' kp e =>
  ⟨.ref s.heap.objs.size, _, I.laid (t' := s.toks) kp (Nat.le_refl _) (show Jdl X.prog X.w _ h' _ (.lst ys) from ⟨hz, its, c', r', e⟩), rfl, q _ (I.hok.fresh (Nat.le_refl _))⟩
 rcases hq with hq | hq
 ·obtain ⟨its, r', pl, hz⟩ := I.list hq
  have hlen := r'.length
  obtain ⟨o, ho, hc, n, hd⟩ := pl.isList
  exact call_list_seq p (.inl rfl) ho hc hd (fun h' c' kp e => fin its r' hz h' c' kp e) (by simp only [List.size_toArray] <;> omega)
 ·obtain ⟨its, r', pl, hz⟩ := I.tuple hq
  have hlen := r'.length
  obtain ⟨o, ho, hc, n, hd⟩ := pl
  exact call_list_seq p (.inr rfl) ho hc hd (fun h' c' kp e => fin its r' hz h' c' kp e) (by simp only [List.size_toArray] <;> omega)
theorem Jit : Jq5 X (.type "tuple") (fun xs H Q => ∃ p ys, xs = [.ref p] /\ ((SqL X.K H p ys /\ ∀ l, H l = none -> Q (.ref l) (upd H l (.tup ys))) ∨ (SqT X.K H p ys /\ Q (.ref p) H))) := by
 intro pins s σ H xs us Q I r h
 obtain ⟨p, ys, rfl, h⟩ := h
 obtain ⟨u, rfl, rx⟩ := Jiz r
 cases rx
 rcases h with ⟨hq, q⟩ | ⟨hq, q⟩
 ·obtain ⟨its, r', pl, hz⟩ := I.list hq
  have hlen := r'.length
  refine call_tuple_list pl.isList (fun h' kp => ?_) (by simp only [List.size_toArray] <;> omega)
  have I1 : Inv X pins σ H { s with heap := h' } := I.kept (t' := s.toks) kp
  have I2 : Inv X pins σ (upd H h'.objs.size (.tup ys)) { s with heap := h'.push { cls := .type "tuple", data := .seq its.toArray } } :=
   I1.laid (t' := s.toks) (fun b o e => Heap.get?_push_of_some _ e) (Nat.le_refl _) (show Jdl X.prog X.w _ _ _ (.tup ys) from ⟨hz, its, r', IsTup.new _ _⟩)
  exact ⟨.ref h'.objs.size, _, I2, rfl, q _ (I1.hok.fresh (Nat.le_refl _))⟩
 ·obtain ⟨its, r', pl, hz⟩ := I.tuple hq
  exact call_tuple_same pl ⟨.ref p, H, I, rfl, q⟩
noncomputable def tyV (K : W.Frag) (T : String) (x : V) (H : Hp) : Prop := match x with
 | .str _ => T = "str"
 | .int _ => T = "int"
 | .ref p => (T = "list" /\ ∃ xs, SqL K H p xs) ∨ (T = "tuple" /\ ∃ o, K.lookup p = some o /\ o.cls = .type "tuple" /\ o.dict = none) ∨
   (T = "dict" /\ ((∃ kvs, H p = some (.dK kvs)) ∨ ∃ kvs, H p = some (.dT kvs))) ∨ (T = "set" /\ ∃ S n, H p = some (.set S n))
 | _ => False
theorem Jz1 {pins : List (Addr × Obj)} {σ : St} {H : Hp} {s : Shared} {T : String} {x : V} {v : Value} (I : Inv X pins σ H s) (r : RelV x v) (ty : tyV X.K T x H) :
  s.TypeIs v T /\ ∀ a, v = .ref a -> ∃ ob, s.heap.get? a = some ob /\ ob.dict = none := by
 cases x with
 | str z =>
  obtain ⟨t, rfl⟩ := r
  cases (show T = "str" from ty)
  exact ⟨typeIs_str s z t, fun _ e => nomatch e⟩
 | int i =>
  obtain ⟨t, rfl⟩ := r
  cases (show T = "int" from ty)
  exact ⟨typeIs_int s i t, fun _ e => nomatch e⟩
 | ref p =>
  cases r
  rcases ty with ⟨rfl, xs, hq⟩ | ⟨rfl, o, hk, hc, hd⟩ | ⟨rfl, hk⟩ | ⟨rfl, S, n, hk⟩
  ·obtain ⟨its, _, pl, _⟩ := I.list hq
   refine ⟨pl.isList.typeIs, fun a e => ?_⟩
   cases e
   obtain ⟨o, n, e, c, hd, _⟩ := pl
   exact ⟨o, e, hd⟩
  ·refine ⟨⟨o, I.kIn p o hk, hc⟩, fun a e => ?_⟩
   cases e
   exact ⟨o, I.kIn _ o hk, hd⟩
  ·have z : ∃ o, s.heap.get? p = some o /\ o.ExactDict := by
    rcases hk with ⟨kvs, hk⟩ | ⟨kvs, hk⟩
    ·obtain ⟨_, _, _, _, o, _, _, e, ex, _⟩ := I.hok p _ hk
     exact ⟨o, e, ex⟩
    ·obtain ⟨_, _, _, _, o, _, _, e, ex, _⟩ := I.hok p _ hk
     exact ⟨o, e, ex⟩
   obtain ⟨o, e, ex⟩ := z
   refine ⟨⟨o, e, ex.1⟩, fun a e2 => ?_⟩
   cases e2
   exact ⟨o, e, ex.2.1⟩
  ·obtain ⟨o, _, _, _, e, ex, _⟩ := I.hok p _ hk
   refine ⟨⟨o, e, ex.1⟩, fun a e2 => ?_⟩
   cases e2
   exact ⟨o, e, ex.2.1⟩
 | _ => exact False.elim ty
variable {o e : Expr} {es : List Expr} {to : TE} {t : TA} {name : Str} {apos cpos : Pos} {T id : String} {r : V -> List V -> Hp -> VK -> Prop}
end
end L2
namespace L2
open PySem PySem.Spec PyProof.Rows
noncomputable def MtM (X : Cx) (id : String) (r : V -> List V -> Hp -> VK -> Prop) : Prop :=
 ∀ (pins : List (Addr × Obj)) (s : Shared) (σ : St) (H : Hp) (x : V) (xs : List V) (v : Value) (us : List Value) (Q : VK), Inv X pins σ H s -> RelV x v -> Vals xs us -> r x xs H Q ->
  wpAny (model X.prog X.w) X.A (call (.builtin id) (v :: us)) (EP X pins σ Q) X.xe s
theorem Vals.one : ∀ {x : V} {us : List Value}, Vals [x] us -> ∃ u, us = [u] /\ RelV x u
 | _, _, .cons r .nil => ⟨_, rfl, r⟩
theorem Vals.two : ∀ {x y : V} {us : List Value}, Vals [x, y] us -> ∃ u v, us = [u, v] /\ RelV x u /\ RelV y v
 | _, _, _, .cons r (.cons q .nil) => ⟨_, _, rfl, r, q⟩
theorem Vals.zero : ∀ {us : List Value}, Vals [] us -> us = []
 | _, .nil => rfl
theorem Vals.dropLast {xs : List V} {us : List Value} (h : Vals xs us) : Vals xs.dropLast us.dropLast := by
 induction h with
 | nil => exact .nil
 | cons r t ih =>
  cases t with
  | nil => exact .nil
  | cons q t' => exact .cons r ih
theorem Vals.eraseIdx : ∀ {xs : List V} {us : List Value} (i : Nat), Vals xs us -> Vals (xs.eraseIdx i) (us.eraseIdx i)
 | _, _, _, .nil => .nil
 | _, _, 0, .cons _ t => t
 | _, _, i + 1, .cons r t => .cons r (Vals.eraseIdx i t)
theorem Vals.reverse {xs : List V} {us : List Value} (h : Vals xs us) : Vals xs.reverse us.reverse := by
 induction h with
 | nil => exact .nil
 | cons r t ih => rw [List.reverse_cons, List.reverse_cons]; exact Vals.append ih (.cons r .nil)
theorem Vals.rep {xs : List V} {us : List Value} (h : Vals xs us) : ∀ k : Nat, Vals (List.replicate k xs).flatten (List.replicate k us).flatten
 | 0 => .nil
 | k + 1 => by
  rw [List.replicate_succ, List.replicate_succ, List.flatten_cons, List.flatten_cons]
  exact Vals.append h (Vals.rep h k)
theorem Jt0 {α : Type} (l : List α) : l.eraseIdx (l.length - 1) = l.dropLast := by
 induction l with
 | nil => rfl
 | cons a r ih =>
  cases r with
  | nil => rfl
  | cons b r =>
   have e : (a :: b :: r).length - 1 = ((b :: r).length - 1) + 1 := by
    have h1 : (a :: b :: r).length = r.length + 2 := rfl
    have h2 : (b :: r).length = r.length + 1 := rfl
    omega
   rw [e, List.eraseIdx_cons_succ, ih]
   all_goals rfl
theorem Jqx {α : Type} : ∀ (l : List α) (i : Nat), (l.eraseIdx i).length <= l.length
 | [], _ => Nat.le_refl _
 | _ :: _, 0 => Nat.le_succ _
 | _ :: r, i + 1 => Nat.succ_le_succ (Jqx r i)
theorem Jpt (its : List Value) : ∀ (k : Nat) (acc : List Value),
  List.foldl (fun x1 x2 => x1 ++ x2) acc.toArray (List.replicate k its.toArray) = (acc ++ (List.replicate k its).flatten).toArray
 | 0, acc => by simp
 | k + 1, acc => by
  have e : acc.toArray ++ its.toArray = (acc ++ its).toArray := by simp
  have e2 : (acc ++ its) ++ (List.replicate k its).flatten = acc ++ (List.replicate (k + 1) its).flatten := by
   rw [List.replicate_succ, List.flatten_cons, List.append_assoc]
  rw [<- e2, <- Jpt its k (acc ++ its), <- e, List.replicate_succ, List.foldl_cons]
section
variable {X : Cx} {pins : List (Addr × Obj)} {σ : St} {H : Hp} {s : Shared} {l b : Addr} {xs ys zs : List V}
theorem Inv.lset {its its' : List Value} {n : Nat} {f : Array Value -> Array Value} {t' : Nat} (I : Inv X pins σ H s) (hH : H l = some (.lst xs))
  (e : s.heap.get? l = some { cls := .type "list", data := .seq its.toArray n }) (hf : f its.toArray = its'.toArray) (hv : Vals ys its') (hz : ys.length <= sizeLine) :
  Inv X pins σ (upd H l (.lst ys)) { s with heap := s.heap.update l (Obj.mapSeq f), toks := t' } := by
 have q := PySem.IsL.update e f
 rw [hf] at q
 refine I.write (x := l) (e := l) (by rw [hH]; exact trivial) (.inl rfl) (fun b' u hb hu => (Heap.get?_update_other s.heap (Obj.mapSeq f) (Ne.symm hb)).trans hu) ⟨_, q⟩ ?_
 exact ⟨hz, its', _, hv, q⟩
theorem Inv.lnew {its : List Value} {t' : Nat} (I : Inv X pins σ H s) (hv : Vals ys its) (hz : ys.length <= sizeLine) :
  Inv X pins σ (upd H s.heap.objs.size (.lst ys)) { s with heap := s.heap.push { cls := .type "list", data := .seq its.toArray }, toks := t' } :=
 I.laid (fun _ _ q => Heap.get?_push_of_some _ q) (Nat.le_refl _) ⟨hz, its, 0, hv, Heap.get?_push_size _ rfl⟩
theorem Inv.fresh (I : Inv X pins σ H s) : H s.heap.objs.size = none := I.hok.fresh (Nat.le_refl _)
theorem Inv.lstM (I : Inv X pins σ H s) (hH : H l = some (.lst xs)) : xs.length <= sizeLine /\ ∃ (its : List Value) (n : Nat), Vals xs its /\ xs.length = its.length /\ s.heap.get? l = some { cls := .type "list", data := .seq its.toArray n } := by
 obtain ⟨z, its, n, r, e⟩ := I.hok l _ hH
 exact ⟨z, its, n, r, r.length, e⟩
theorem Jsb {n : Nat} (h : n <= sizeLine) : Builtin.List.listTooLong n = false := by
 unfold Builtin.List.listTooLong
 exact decide_eq_false (by omega)
end
section
variable {X : Cx}
noncomputable def J00 : V -> List V -> Hp -> VK -> Prop := fun x vs H Q => ∃ l xs y, x = .ref l /\ vs = [y] /\ H l = some (.lst xs) /\ xs.length < sizeLine /\ Q .non (upd H l (.lst (xs ++ [y])))
theorem Jpg : MtM X "list.append" J00 := by
 intro pins s σ H x vs v us Q I rx rv h
 obtain ⟨l, xs, y, rfl, rfl, hH, hz, q⟩ := h
 cases rx
 obtain ⟨u, rfl, ru⟩ := rv.one
 obtain ⟨z, its, n, r, hl, e⟩ := I.lstM hH
 refine call_meets F.slot_list_append ⟨_, e, rfl⟩ F.entry_list_append (F.args_list_append_2 _ _) (PySem.list_append l its.toArray n u (by rw [List.size_toArray]; omega)) ⟨e, ?_⟩
 refine ⟨.non, _, I.lset (its' := its ++ [u]) hH e (by simp) (r.append (.cons ru .nil)) ?_, rfl, q⟩
 rw [List.length_append, List.length_singleton]
 omega
noncomputable def J10 : V -> List V -> Hp -> VK -> Prop := fun x vs H Q => ∃ l b xs zs, x = .ref l /\ vs = [.ref b] /\ H l = some (.lst xs) /\ H b = some (.lst zs) /\ xs.length + zs.length <= sizeLine /\ Q .non (upd H l (.lst (xs ++ zs)))
theorem Jw1 : MtM X "list.extend" J10 := by
 intro pins s σ H x vs v us Q I rx rv h
 obtain ⟨l, b, xs, zs, rfl, rfl, hH, hB, hz, q⟩ := h
 cases rx
 obtain ⟨u, rfl, ru⟩ := rv.one
 cases ru
 obtain ⟨z, its, n, r, hl, e⟩ := I.lstM hH
 obtain ⟨z2, its2, n2, r2, hl2, e2⟩ := I.lstM hB
 have hsz : its.toArray.size + its2.toArray.size <= sizeLine := by rw [List.size_toArray, List.size_toArray]; omega
 have hlong : ¬ (!its.toArray.isEmpty && Builtin.List.listTooLong (its.toArray.size + its2.toArray.size)) = true := by
  rw [Jsb hsz, Bool.and_false]
  exact Bool.false_ne_true
 refine call_meets F.slot_list_extend ⟨_, e, rfl⟩ F.entry_list_extend (F.args_list_extend_2 _ _)
  (AutoSeq1.list_extend_list_list_0 l its.toArray n b its2.toArray n2 hlong (by rw [List.size_toArray]; omega) (by omega)) ⟨e, e2, ?_⟩
 refine ⟨.non, _, I.lset (its' := its ++ its2) hH e (by simp) (r.append r2) ?_, rfl, q⟩
 rw [List.length_append]
 omega
noncomputable def rPop : V -> List V -> Hp -> VK -> Prop := fun x vs H Q => ∃ l xs y, x = .ref l /\ vs = [] /\ H l = some (.lst xs) /\ xs[xs.length - 1]? = some y /\ Q y (upd H l (.lst xs.dropLast))
theorem mt_pop : MtM X "list.pop" rPop := by
 intro pins s σ H x vs v us Q I rx rv h
 obtain ⟨l, xs, y, rfl, rfl, hH, hy, q⟩ := h
 cases rx
 have hus := rv.zero
 subst hus
 obtain ⟨z, its, n, r, hl, e⟩ := I.lstM hH
 obtain ⟨u, hu, ru⟩ := r.get hy
 have hy' : its.toArray[its.toArray.size - 1]? = some u := by
  show its.toArray[its.length - 1]? = some u
  rw [<- Array.getElem?_toList, <- hl]
  exact hu
 refine call_meets F.slot_list_pop ⟨_, e, rfl⟩ F.entry_list_pop (F.args_list_pop_1 _) (MeetsSeq.list_pop_last l its.toArray n u hy' (by rw [List.size_toArray]; omega)) ⟨e, ?_⟩
 refine ⟨y, _, I.lset (its' := its.dropLast) hH e ?_ r.dropLast ?_, ru, q⟩
 ·show its.toArray.eraseIdxIfInBounds (its.toArray.size - 1) = its.dropLast.toArray
  rw [List.size_toArray, List.eraseIdxIfInBounds_toArray, Jt0]
 ·rw [List.length_dropLast]
  omega
noncomputable def J5l : V -> List V -> Hp -> VK -> Prop := fun x vs H Q => ∃ l xs i k y, x = .ref l /\ vs = [.int i] /\ H l = some (.lst xs) /\ -(2 ^ 63) <= i /\ i < 2 ^ 63 /\ seqIndex? i xs.length = some k /\ xs[k]? = some y /\ Q y (upd H l (.lst (xs.eraseIdx k)))
theorem Jzk : MtM X "list.pop" J5l := by
 intro pins s σ H x vs v us Q I rx rv h
 obtain ⟨l, xs, i, k, y, rfl, rfl, hH, h1, h2, hk, hy, q⟩ := h
 cases rx
 obtain ⟨u, rfl, ru⟩ := rv.one
 obtain ⟨t, rfl⟩ := ru
 obtain ⟨z, its, n, r, hl, e⟩ := I.lstM hH
 obtain ⟨w, hw, rw'⟩ := r.get hy
 refine call_meets F.slot_list_pop ⟨_, e, rfl⟩ F.entry_list_pop (F.args_list_pop_2 _ _)
  (MeetsSeq.list_pop_at l its.toArray n i t k w (fitsIndex_both h1 h2) (by rw [List.size_toArray, <- hl]; exact hk) (by rw [<- Array.getElem?_toList]; exact hw) (by rw [List.size_toArray]; omega)) ⟨e, ?_⟩
 refine ⟨y, _, I.lset (its' := its.eraseIdx k) hH e ?_ (r.eraseIdx k) ?_, rw', q⟩
 ·show its.toArray.eraseIdxIfInBounds k = (its.eraseIdx k).toArray
  rw [List.eraseIdxIfInBounds_toArray]
 ·have := Jqx xs k
  omega
noncomputable def Jx9 : V -> List V -> Hp -> VK -> Prop := fun x vs H Q => ∃ l xs, x = .ref l /\ vs = [] /\ H l = some (.lst xs) /\ Q .non (upd H l (.lst xs.reverse))
theorem Jtr : MtM X "list.reverse" Jx9 := by
 intro pins s σ H x vs v us Q I rx rv h
 obtain ⟨l, xs, rfl, rfl, hH, q⟩ := h
 cases rx
 have hus := rv.zero
 subst hus
 obtain ⟨z, its, n, r, hl, e⟩ := I.lstM hH
 refine call_meets F.slot_list_reverse ⟨_, e, rfl⟩ F.entry_list_reverse (F.args_list_reverse_1 _) (AutoSeq1.list_reverse_list_0 l its.toArray n (by rw [List.size_toArray]; omega)) ⟨e, ?_⟩
 refine ⟨.non, _, I.lset (its' := its.reverse) hH e (by simp) r.reverse ?_, rfl, q⟩
 rw [List.length_reverse]
 omega
noncomputable def J5b : V -> List V -> Hp -> VK -> Prop := fun x vs H Q => ∃ l xs, x = .ref l /\ vs = [] /\ H l = some (.lst xs) /\ Q .non (upd H l (.lst []))
theorem Jyh : MtM X "list.clear" J5b := by
 intro pins s σ H x vs v us Q I rx rv h
 obtain ⟨l, xs, rfl, rfl, hH, q⟩ := h
 cases rx
 have hus := rv.zero
 subst hus
 obtain ⟨z, its, n, r, hl, e⟩ := I.lstM hH
 refine call_meets F.slot_list_clear ⟨_, e, rfl⟩ F.entry_list_clear (F.args_list_clear_1 _) (AutoSeq1.list_clear_list_0 l its.toArray n (by rw [List.size_toArray]; omega)) ⟨e, ?_⟩
 exact ⟨.non, _, I.lset (its' := []) (ys := []) hH e rfl .nil (Nat.zero_le _), rfl, q⟩
noncomputable def rCat : R2 := fun x y H Q => ∃ l b xs zs, x = .ref l /\ y = .ref b /\ H l = some (.lst xs) /\ H b = some (.lst zs) /\ xs.length + zs.length <= sizeLine /\ ∀ p, H p = none -> Q (.ref p) (upd H p (.lst (xs ++ zs)))
theorem J49 : OpR X (binaryOp .Add) rCat := by
 intro pins s σ H x y v u Q I rx ry h
 obtain ⟨l, b, xs, zs, rfl, rfl, hH, hB, hz, q⟩ := h
 cases rx
 cases ry
 obtain ⟨z, its, n, r, hl, e⟩ := I.lstM hH
 obtain ⟨z2, its2, n2, r2, hl2, e2⟩ := I.lstM hB
 refine PySem.P.add_list e e2 ?_ (by rw [List.size_toArray, List.size_toArray]; omega)
 have ea : its.toArray ++ its2.toArray = (its ++ its2).toArray := by simp
 rw [ea]
 exact ⟨.ref _, _, I.lnew (t' := s.toks) (r.append r2) (by rw [List.length_append]; omega), rfl, q _ I.fresh⟩
noncomputable def rRep : R2 := fun x y H Q => ∃ l k xs, x = .ref l /\ y = .int k /\ H l = some (.lst xs) /\ -(2 ^ 63) <= k /\ k < 2 ^ 63 /\ xs.length * k.toNat <= sizeLine /\
 ∀ p, H p = none -> Q (.ref p) (upd H p (.lst (List.replicate k.toNat xs).flatten))
theorem J1c {α : Type} (xs : List α) (k : Nat) : (List.replicate k xs).flatten.length = k * xs.length := by
 induction k with
 | zero => simp
 | succ k ih => rw [List.replicate_succ, List.flatten_cons, List.length_append, ih, Nat.succ_mul, Nat.add_comm]
theorem J24 : OpR X (binaryOp .Mult) rRep := by
 intro pins s σ H x y v u Q I rx ry h
 obtain ⟨l, k, xs, rfl, rfl, hH, h1, h2, hz, q⟩ := h
 cases rx
 obtain ⟨t, rfl⟩ := ry
 obtain ⟨z, its, n, r, hl, e⟩ := I.lstM hH
 have hlen : its.toArray.size * k.toNat <= sizeLine := by rw [List.size_toArray, <- hl]; exact hz
 have hcap : ¬ its.toArray.size * k.toNat > (2 ^ 63 - 1) / 8 := by
  have : (sizeLine : Nat) <= (2 ^ 63 - 1) / 8 := by decide
  omega
 have hfit : ¬ (!Builtin.List.listFitsIndex k) = true := by
  rw [fitsIndex_both h1 h2]
  exact Bool.false_ne_true
 have hlong : ¬ Builtin.List.listTooLong (its.toArray.size * k.toNat) = true := by
  rw [Jsb hlen]
  exact Bool.false_ne_true
 have hnew : List.foldl (fun x1 x2 => x1 ++ x2) #[] (List.replicate (if its.toArray.isEmpty = true then 0 else k.toNat) its.toArray) = (List.replicate k.toNat its).flatten.toArray := by
  have f0 : ∀ m : Nat, List.foldl (fun x1 x2 => x1 ++ x2) #[] (List.replicate m its.toArray) = (List.replicate m its).flatten.toArray := fun m => by
   have := Jpt its m []
   rw [List.nil_append] at this
   exact this
  rw [f0]
  cases its with
  | nil => simp
  | cons a r' => rw [if_neg (by simp)]
 refine wpAny_binaryOp_repeat_ref (T := "list") (U := "int") (by decide) ⟨_, e, rfl⟩ (fun s' => typeIs_int s' k t) noFill_list_mul F.fills_int_mul F.slot_int_rmul repeat_list F.slot_int_index.lookup
  (call_meets F.slot_int_rmul (typeIs_int s k t) F.entry_int_rmul (F.args_int_rmul_2 _ _) (int___rmul___int_list k t l its.toArray n)
   ⟨e, rfl, ⟨_, e, rfl⟩, call_meets F.slot_list_mul ⟨_, e, rfl⟩ F.entry_list_mul (F.args_list_mul_2 _ _) (AutoListH.list___mul___list_int_3 l its.toArray n k t hfit hcap hlong) ⟨e, ?_⟩⟩)
 rw [hnew]
 exact ⟨.ref _, _, I.lnew (t' := s.toks) (r.rep k.toNat) (by rw [J1c, Nat.mul_comm]; exact hz), rfl, q _ I.fresh⟩
end
section
variable {prog : Program} {w : World} {A : Around} {E : Value -> Shared -> Prop} {s : Shared}
end
section
variable {X : Cx}
end
end L2
namespace L2
open PySem PySem.Spec PyProof.Rows
section
variable {κ : Type} [DecidableEq κ]
noncomputable def valV (kvs : List (κ × V)) (k : κ) : Option V := (kvs.find? fun kv => decide (kv.1 = k)).map (·.2)
noncomputable def putK (kvs : List (κ × V)) (k : κ) (v : V) : List (κ × V) :=
 if (kvs.any fun kv => decide (kv.1 = k)) = true then kvs.map (fun kv => if kv.1 = k then (kv.1, v) else kv) else kvs ++ [(k, v)]
noncomputable def J32 (kvs : List (κ × V)) (k : κ) : List (κ × V) := kvs.filter fun kv => decide (kv.1 ≠ k)
theorem Jn2 {p : κ × V} {r : List (κ × V)} {k : κ} (e : p.1 = k) : valV (p :: r) k = some p.2 := by simp [valV, List.find?_cons, e]
theorem Jn7 {p : κ × V} {r : List (κ × V)} {k : κ} (e : ¬ p.1 = k) : valV (p :: r) k = valV r k := by simp [valV, List.find?_cons, e]
theorem Jof (k : κ) : ∀ kvs : List (κ × V), (kvs.any fun kv => decide (kv.1 = k)) = (valV kvs k).isSome
 | [] => rfl
 | p :: r => by
  rw [List.any_cons]
  by_cases e : p.1 = k
  ·simp only [Jn2 e, decide_eq_true e, Bool.true_or, Option.isSome_some]
  ·rw [Jn7 e, decide_eq_false e, Bool.false_or]; exact Jof k r
theorem Jkz (kvs : List (κ × V)) (k : κ) (v : V) : (putK kvs k v).length <= kvs.length + 1 := by
 unfold putK
 split
 ·rw [List.length_map]; omega
 ·rw [List.length_append, List.length_cons, List.length_nil]; omega
theorem Jn5 {kvs : List (κ × V)} {k : κ} (v : V) (h : valV kvs k = none) : putK kvs k v = kvs ++ [(k, v)] := by
 unfold putK
 rw [Jof, h]
 exact if_neg (by decide)
theorem RelO.getD {o : Option V} {u : Option Value} {d : V} {d' : Value} (r : RelO o u) (rd : RelV d d') : RelV (o.getD d) (u.getD d') := by
 cases o with
 | none => cases u with
  | none => exact rd
  | some _ => exact Zf r
 | some _ => cases u with
  | none => exact Zf r
  | some _ => exact r
theorem KV.val {kvs : List (κ × V)} {vs : List (κ × Value)} (r : KV kvs vs) (k : κ) : RelO (valV kvs k) (valueAt vs k) := by
 unfold KV at r
 induction r with
 | nil => exact True.intro
 | @cons p q ps qs h t ih =>
  obtain ⟨h1, h2⟩ := h
  by_cases e : p.1 = k
  ·have e' : q.1 = k := h1.symm.trans e
   have b : valueAt (q :: qs) k = some q.2 := by simp [valueAt, List.find?_cons, e']
   rw [Jn2 e, b]; exact h2
  ·have e' : ¬ q.1 = k := fun z => e (h1.trans z)
   have b : valueAt (q :: qs) k = valueAt qs k := by simp [valueAt, List.find?_cons, e']
   rw [Jn7 e, b]; exact ih
theorem KV.any {kvs : List (κ × V)} {vs : List (κ × Value)} (r : KV kvs vs) (k : κ) : (kvs.any fun kv => decide (kv.1 = k)) = vs.any fun kv => decide (kv.1 = k) := by
 unfold KV at r
 induction r with
 | nil => rfl
 | cons h t ih => rw [List.any_cons, List.any_cons, ih, h.1]
theorem KV.repl {kvs : List (κ × V)} {vs : List (κ × Value)} (r : KV kvs vs) (k : κ) {y : V} {u : Value} (ry : RelV y u) :
  KV (kvs.map fun kv => if kv.1 = k then (kv.1, y) else kv) (vs.map fun kv => if kv.1 = k then (kv.1, u) else kv) := by
 unfold KV at r ⊢
 induction r with
 | nil => exact .nil
 | @cons p q ps qs h t ih =>
  rw [List.map_cons, List.map_cons]
  refine .cons ?_ ih
  obtain ⟨h1, h2⟩ := h
  by_cases e : p.1 = k
  ·rw [if_pos e, if_pos (h1.symm.trans e)]; exact ⟨h1, ry⟩
  ·rw [if_neg e, if_neg (fun z => e (h1.trans z))]; exact ⟨h1, h2⟩
theorem KV.put {kvs : List (κ × V)} {vs : List (κ × Value)} (r : KV kvs vs) (k : κ) {y : V} {u : Value} (ry : RelV y u) : KV (putK kvs k y) (stored vs k u) := by
 unfold putK stored
 rw [r.any k]
 by_cases e : (vs.any fun kv => decide (kv.1 = k)) = true
 ·rw [if_pos e, if_pos e]; exact r.repl k ry
 ·rw [if_neg e, if_neg e]; exact Paired.snoc r ⟨rfl, ry⟩
theorem KV.drop {kvs : List (κ × V)} {vs : List (κ × Value)} (r : KV kvs vs) (k : κ) : KV (J32 kvs k) (without vs k) := by
 unfold KV at r ⊢
 unfold J32 without
 induction r with
 | nil => exact .nil
 | @cons p q ps qs h t ih =>
  obtain ⟨h1, h2⟩ := h
  rw [List.filter_cons, List.filter_cons]
  by_cases e : p.1 = k
  ·have a : ¬ decide (p.1 ≠ k) = true := by simp [e]
   have b : ¬ decide (q.1 ≠ k) = true := by simp [h1.symm.trans e]
   rw [if_neg a, if_neg b]; exact ih
  ·have e' : ¬ q.1 = k := fun z => e (h1.trans z)
   have a : decide (p.1 ≠ k) = true := by simp [e]
   have b : decide (q.1 ≠ k) = true := by simp [e']
   rw [if_pos a, if_pos b]; exact .cons ⟨h1, h2⟩ ih
theorem KV.keys {kvs : List (κ × V)} {vs : List (κ × Value)} (r : KV kvs vs) : kvs.map (·.1) = vs.map (·.1) := by
 unfold KV at r
 induction r with
 | nil => rfl
 | cons h t ih => rw [List.map_cons, List.map_cons, ih, h.1]
theorem KV.length {kvs : List (κ × V)} {vs : List (κ × Value)} (r : KV kvs vs) : kvs.length = vs.length := Paired.length r
end
theorem Ju9 {P : Program} {w : World} {k : Key} {u : Value} (r : RelV (kV k) u) : (Jbu P w).is k u = true := by
 cases k with
 | inl i => obtain ⟨t, e⟩ := (show ∃ t, u = Value.int i t from r); subst e; exact Jrn P w i t
 | inr x => obtain ⟨t, e⟩ := (show ∃ t, u = Value.str x t from r); subst e; exact Jq4 P w x t
noncomputable abbrev KT (H : Hp) : List (List Key × V) -> List (List Key × Addr × Value) -> Prop := Paired fun p q => p.1 = q.1 /\ H q.2.1 = some (.tup (p.1.map kV)) /\ RelV p.2 q.2.2
theorem KT.keeps {H H' : Hp} {kvs : List (List Key × V)} {xs : List (List Key × Addr × Value)} (r : KT H kvs xs) (ht : ∀ b ys, H b = some (.tup ys) -> H' b = some (.tup ys)) : KT H' kvs xs :=
 Paired.mapP r fun _ _ z => ⟨z.1, ht _ _ z.2.1, z.2.2⟩
section
variable {P : Program} {w : World} {H : Hp} {h : Heap} {a : Addr}
theorem rd_of {u : HO} (ok : HOk P w H h) (e : Rd H a u) : Jdl P w H h a u := e.ok ok
theorem dk_rd {kvs : List (Key × V)} (ok : HOk P w H h) (e : Rd H a (.dK kvs)) : kvs.length <= sizeLine /\ (a == sysModules) = false /\ ∃ vs, KV kvs vs /\ h.DictOf (Jbu P w) a vs :=
 show Jdl P w H h a (.dK kvs) from rd_of ok e
theorem Jxu {kvs : List (Key × V)} (ok : HOk P w H h) (e : H a = some (.dK kvs)) : kvs.length <= sizeLine /\ (a == sysModules) = false /\ ∃ vs, KV kvs vs /\ h.DictOf (Jbu P w) a vs := dk_rd ok (.inl e)
end
noncomputable def DGet (H : Hp) (a : Addr) (y : V) (r : Option V) : Prop :=
 (∃ kvs k, Rd H a (.dK kvs) /\ y = kV k /\ r = valV kvs k) ∨ ∃ kvs k b, Rd H a (.dT kvs) /\ y = .ref b /\ H b = some (.tup (k.map kV)) /\ r = valV kvs k
noncomputable def DPut (H : Hp) (a : Addr) (y v : V) (H' : Hp) : Prop :=
 (∃ kvs k, H a = some (.dK kvs) /\ y = kV k /\ kvs.length < sizeLine /\ H' = upd H a (.dK (putK kvs k v))) ∨
 ∃ kvs k b, H a = some (.dT kvs) /\ y = .ref b /\ H b = some (.tup (k.map kV)) /\ kvs.length < sizeLine /\ H' = upd H a (.dT (putK kvs k v))
theorem DGet.k {H : Hp} {a : Addr} {kvs : List (Key × V)} {k : Key} (e : H a = some (.dK kvs)) : DGet H a (kV k) (valV kvs k) := .inl ⟨kvs, k, .inl e, rfl, rfl⟩
theorem DGet.t {H : Hp} {a b : Addr} {kvs : List (List Key × V)} {k : List Key} (e : H a = some (.dT kvs)) (eb : H b = some (.tup (k.map kV))) : DGet H a (.ref b) (valV kvs k) := .inr ⟨kvs, k, b, .inl e, rfl, eb, rfl⟩
theorem DPut.k {H : Hp} {a : Addr} {kvs : List (Key × V)} {k : Key} {v : V} (e : H a = some (.dK kvs)) (hl : kvs.length < sizeLine) : DPut H a (kV k) v (upd H a (.dK (putK kvs k v))) := .inl ⟨kvs, k, e, rfl, hl, rfl⟩
theorem DPut.t {H : Hp} {a b : Addr} {kvs : List (List Key × V)} {k : List Key} {v : V} (e : H a = some (.dT kvs)) (eb : H b = some (.tup (k.map kV))) (hl : kvs.length < sizeLine) :
  DPut H a (.ref b) v (upd H a (.dT (putK kvs k v))) := .inr ⟨kvs, k, b, e, rfl, eb, hl, rfl⟩
section
variable {X : Cx} {pins : List (Addr × Obj)} {σ : St} {H : Hp} {s : Shared} {a : Addr} {y v : V} {u r : Value} {o : Option V} {A : Around} {E : Value -> Shared -> Prop}
theorem Inv.big (I : Inv X pins σ H s) : sysModules < s.heap.objs.size := by
 have h : mainGlobals < s.heap.objs.size := (I.mod.glob.keeps I.bk).lt
 exact Nat.lt_trans (by decide) h
theorem Jq6 {h' : Heap} {t' : Nat} {ob : HO} (I : Inv X pins σ H s) (mu : Mut (H a)) (hs : Heap.SameBut a s.heap h') (he : ∃ q, h'.get? a = some q) (new : Jdl X.prog X.w (upd H a ob) h' a ob) :
  Inv X pins σ (upd H a ob) { s with heap := h', toks := t' } :=
 I.write (x := a) (e := a) mu (.inl rfl) (fun b q hb z => (hs.2 b hb).trans z) he new
theorem Jwl {P : Program} {w : World} {H' : Hp} {h' : Heap} {kvs : List (Key × V)} {vs : List (Key × Value)} (z : kvs.length <= sizeLine) (hd : (a == sysModules) = false) (rel : KV kvs vs) (dd : h'.DictOf (Jbu P w) a vs) :
  Jdl P w H' h' a (.dK kvs) := ⟨z, hd, vs, rel, dd⟩
end
section
variable {X : Cx} {pins : List (Addr × Obj)} {σ : St} {H : Hp} {s : Shared} {a : Addr} {kvs : List (Key × V)} {k : Key} {u : Value} {A : Around} {E : Value -> Shared -> Prop}
end
section
variable {X : Cx} {o i e value : Expr} {pos pos' tpos : Pos} {td ty tv : TE}
end
theorem Jsd {P : Program} {w : World} {H : Hp} (h : Heap) (hb : sysModules < h.objs.size) : Jdl P w H (h.push { cls := .type "dict", data := .dict #[] }) h.objs.size (.dK []) :=
 ⟨Nat.zero_le _, beq_eq_false_iff_ne.mpr (Ne.symm (Nat.ne_of_lt hb)), [], .nil, Heap.DictOf.new h⟩
section
variable {X : Cx} {pos : Pos}
end
noncomputable abbrev VV : List (V × V) -> List (Value × Value) -> Prop := Paired fun p q => RelV p.1 q.1 /\ RelV p.2 q.2
noncomputable def Jm3 (kvs more : List (Key × V)) : List (Key × V) := more.foldl (fun acc kv => putK acc kv.1 kv.2) kvs
theorem KV.merge : ∀ {more : List (Key × V)} {rs : List (Key × Value)} {kvs : List (Key × V)} {vs : List (Key × Value)}, KV more rs -> KV kvs vs -> KV (Jm3 kvs more) (merged vs rs) := by
 intro more rs kvs vs r
 unfold KV at r
 induction r generalizing kvs vs with
 | nil => intro q; exact q
 | @cons p q ps qs h t ih =>
  intro r0
  have e : KV (putK kvs p.1 p.2) (stored vs q.1 q.2) := by
   have := r0.put p.1 h.2
   rw [<- h.1]; exact this
  exact ih e
theorem Jh8 : ∀ (more kvs : List (Key × V)), (Jm3 kvs more).length <= kvs.length + more.length
 | [], kvs => by show kvs.length <= kvs.length + 0; omega
 | p :: r, kvs => by
  have h1 := Jh8 r (putK kvs p.1 p.2)
  have h2 := Jkz kvs p.1 p.2
  show (Jm3 (putK kvs p.1 p.2) r).length <= _
  rw [List.length_cons]; omega
theorem Jm5 {P : Program} {w : World} : ∀ {kvs : List (Key × V)} {ws : List (Value × Value)}, VV (kvs.map fun kv => (kV kv.1, kv.2)) ws -> ∃ rs, Carries (Jbu P w) ws rs /\ KV kvs rs
 | [], _, r => by rw [List.map_nil] at r; cases r; exact ⟨[], True.intro, .nil⟩
 | p :: kvs, _, r => by
  rw [List.map_cons] at r
  cases r with
  | @cons a b as bs h t =>
   obtain ⟨rs, c, q⟩ := Jm5 (P := P) (w := w) t
   obtain ⟨b1, b2⟩ := b
   exact ⟨(p.1, b2) :: rs, ⟨Ju9 h.1, rfl, c⟩, .cons ⟨rfl, h.2⟩ q⟩
structure M1 (X : Cx) (o : Expr) (m : Str) (apos : Pos) (e : Expr) (cpos : Pos) : Prop where
 base : attributeBase o m X.env (eval o X.env) = eval o X.env
 few : ((backTo cpos (starEach [e] X.env)).all (fun x => !x.1) && (backToKw cpos (keywordEach [] X.env)).all (fun x => x.1.isSome)
  && decide (([e] : List Expr).length + ([] : List Keyword).length + (if ([] : List Keyword).isEmpty then 0 else 1) < 30)) = true
 line : (apos.endLine == cpos.line) = true
 trees : backTo cpos (starEach [e] X.env) = [(false, eval e X.env)]
structure M2 (X : Cx) (o : Expr) (m : Str) (apos : Pos) (e f : Expr) (cpos : Pos) : Prop where
 base : attributeBase o m X.env (eval o X.env) = eval o X.env
 few : ((backTo cpos (starEach [e, f] X.env)).all (fun x => !x.1) && (backToKw cpos (keywordEach [] X.env)).all (fun x => x.1.isSome)
  && decide (([e, f] : List Expr).length + ([] : List Keyword).length + (if ([] : List Keyword).isEmpty then 0 else 1) < 30)) = true
 line : (apos.endLine == cpos.line) = true
 trees : backTo cpos (starEach [e, f] X.env) = [(false, eval e X.env), (false, eval f X.env)]
section
variable {X : Cx} {pins : List (Addr × Obj)} {σ : St} {H : Hp} {s : Shared} {a : Addr} {y d : V} {u r : Value} {o : Option V} {A : Around} {E : Value -> Shared -> Prop}
end
section
variable {X : Cx} {o e f : Expr} {apos cpos : Pos} {td ty tx : TE}
end
section
variable {X : Cx} {pins : List (Addr × Obj)} {σ : St} {H : Hp} {s : Shared} {a : Addr} {kvs : List (Key × V)} {A : Around} {E : Value -> Shared -> Prop}
end
end L2
namespace Att
open PySem PySem.W PySem.Calls PyProof.Rows
theorem Jlq {P : Params} {h : Heap} : ∀ (ns : List Int) (vs : List Value), WellAll P h vs (ns.map WData.int) -> IntsAre vs ns := by
 intro ns
 induction ns with
 | nil =>
  intro vs w
  rw [List.map_nil] at w
  cases w
  exact .nil
 | cons n ns ih =>
  intro vs w
  rw [List.map_cons] at w
  cases w with
  | cons a b =>
   cases a
   exact .cons _ _ (ih _ b)
theorem Jvf {l : OpenLaw} {n : Nat} (hn : l.most = some n) {P : Params} {h : Heap} {args : List WData} {vals : List Value}
  (hpre : l.row.toRowW.claim.pre args = true) (hwl : WellAll P h vals args) :
  ∃ a vs ns, vals = [Value.ref a] /\ args = [WData.list (ns.map WData.int)] /\ h.get? a = some { cls := .type "list", data := .seq vs.toArray } /\ IntsAre vs ns /\ ns.length <= n := by
 have hsh : WShape.hasAll [] args [.list .int] = true := (pre_splitW hpre).1
 have hc : l.pre.holds [] { args := args } = true := (pre_splitW hpre).2
 obtain ⟨d, r, rfl, h1, h2⟩ := hasAllW_cons hsh
 obtain rfl := hasAllW_nil h2
 obtain ⟨xs, rfl, h3⟩ := hasW_list h1
 obtain ⟨ns, rfl⟩ := items_int h3
 have hlen : ns.length <= n := by
  unfold OpenLaw.pre at hc
  have h4 : (WTm.not (.lt (.lit (.int (n : Int))) (.len (.arg 0)))).holds [] { args := [.list (ns.map .int)] } = true := by
   have h4 := (holds_andW hc).1
   rw [hn] at h4
   exact h4
  have h5 := condW_of h4 (w_not (w_lt w_lit (w_len_list (w_arg rfl))))
  rw [List.length_map] at h5
  refine Nat.le_of_not_lt fun q => ?_
  have q' : (n : Int) < ((ns.length : Nat) : Int) := by omega
  first
   | (rw [decide_eq_true q'] at h5; exact absurd h5 (by decide))
   | (simp at h5; omega)
 cases hwl with
 | cons w1 w2 =>
  cases w2
  cases w1 with
  | list ho hall => exact ⟨_, _, ns, rfl, rfl, ho, Jlq ns _ hall, hlen⟩
theorem Jwo (l : OpenLaw) (args : List WData) : l.row.toRowW.claim.post args (.bool true) args = true :=
 postW_of (r := l.row.toRowW) (X := (true == true))
  (show WShape.has [] (.bool true) .bool = true by first | rfl | decide | simp [WShape.has, WShape.arms, WShape.armsAll])
  (show (WTm.eq .res (.lit (.bool true))).value [] { args := args, res := some (.bool true), after := args } = some (.bool (true == true)) from w_eq_bool (w_res rfl) w_lit) rfl
theorem attach_call {l : OpenLaw} {n : Nat} {q : Program} {loose : List Str} {XP : (Str -> Option Value) -> Heap -> Prop} {YP : World -> Heap -> Prop} {d : DefRec}
  (hn : l.most = some n) (hdf : d.params.defaults = [])
  (call : ∀ (w : World) (s₀ s₁ : Shared) (mg mb : Str -> Option Value) (fa : Addr) (o : Obj) (pm cd doc : Value) (a : Addr) (vs : List Value) (ns : List Int),
   Ground q loose [] XP w s₀ mg mb s₁.heap -> YP w s₁.heap ->
   s₁.heap.get? fa = some o -> o.data = .func (docDef d.name d.params d.body d.scope pm cd doc) -> s₁.heap.CodeRec cd d.name -> mg d.name = some (.ref fa) ->
   s₁.heap.get? a = some { cls := .type "list", data := .seq vs.toArray } -> IntsAre vs ns -> ns.length <= n -> s₁.gens = #[] ->
   codeAny (model l.prog w) callerA (.call (.ref fa) ⟨[.ref a], []⟩) (fun r s' => r = .ok (.ret (.bool true)) /\ OldK s₁.heap s'.heap /\ s'.os = s₁.os /\ AllBare s'.gens) s₁) :
  WalkO q loose XP YP l.row.toRowW d [] (fun f vs => PySem.call f vs) := by
 intro w s₀ s₁ mg mb G Y fa o pm cd doc dV kV ho hd hcd hD hmg hg args vals as hpre hlay hrd hwl hlo
 obtain rfl : dV = .none := Dflts.none hD hdf
 obtain rfl : kV = .none := Dflts.noKw hD
 obtain ⟨a, vs, ns, rfl, rfl, hobj, hints, hlen⟩ := Jvf hn hpre hwl
 refine enter_call (codeAny_mono (call w s₀ s₁ mg mb fa o pm cd doc a vs ns G Y ho (fd_plain hd) hcd hmg hobj hints hlen hg) fun r s' hq => ?_)
 obtain ⟨rfl, h2, h3, h4⟩ := hq
 exact ⟨.inl ⟨.bool true, .bool true, [], rfl, fun _ => rfl, .bool true, Jwo l _, fun _ => ⟨List.Pairwise.nil, fun _ hm => (nomatch hm)⟩⟩, h2, h3, h4⟩
section
variable {prog : Program} {w : World} {A : Around} {E : Value -> Shared -> Prop} {s : Shared} {K : Frag}
end
end Att
namespace L2
open PySem PySem.Spec PyProof.Rows
theorem Jd0 : ∀ {vs : List Value} {ns : List Int}, IntsAre vs ns -> Vals (ns.map V.int) vs
 | _, _, .nil => .nil
 | _, _, .cons n t h => .cons ⟨t, rfl⟩ (Jd0 h)
end L2
namespace L2
open PySem PySem.Spec PyProof.Rows
end L2
namespace L2
open PySem PySem.Spec PyProof.Rows
noncomputable def Jfs (s : Stmt) (j : Nat) : Stmt := match s with
 | .ClassDef _ _ _ body _ _ _ _ _ _ _ => body.getD j (.Pass ⟨0, 0, 0, 0⟩)
 | _ => .Pass ⟨0, 0, 0, 0⟩
noncomputable def Ji (s : Stmt) : Arguments := match s with
 | .FunctionDef _ a _ _ _ _ _ _ _ _ => a
 | _ => { posonlyargs := [], args := [], vararg := none, kwonlyargs := [], kw_defaults := [], kwarg := none, defaults := [] }
noncomputable def Jg (s : Stmt) : List Stmt := match s with
 | .FunctionDef _ _ b _ _ _ _ _ _ _ => b
 | _ => []
noncomputable def Jb (s : Stmt) : Scope := match s with
 | .FunctionDef _ _ _ _ _ _ sc _ _ _ => sc
 | _ => { kind := .function, names := [], isGenerator := false, isCoroutine := false }
noncomputable abbrev CX0 : CXT := fun _ _ _ _ _ _ => False
noncomputable abbrev E0 : XK := fun _ _ _ => False
structure Fun (K : W.Frag) (x qual : Str) (st : Stmt) (f : Addr) (fd : FuncData) : Prop where
 ex : ∃ (oc : Value) (od : Option Addr) (kV doc pm : Value) (an : Option Addr) (cdv ct : Value) (osl : Array (Option Value)),
  fd = W.fnOf x qual (Ji st) (Jg st) (Jb st) .none kV doc pm an cdv ct /\ K.lookup f = some ⟨oc, od, .func fd, osl⟩ /\ W.codeIn K cdv qual = true
 kp : W.keepIn K (.ref f) = true
section
variable {P : Program} {w : World} {K : W.Frag} {mg : Str -> Option Value} {base : Heap}
theorem Fun.ok {x qual : Str} {st : Stmt} {f : Addr} {fd : FuncData} {N ps : List Str} {k : Nat} {sp : Sp} (F : Fun K x qual st f fd) (S : FnScope N ps (Jb st)) (len : ∀ vs H Q E, sp vs H Q E -> vs.length = ps.length)
  (hbody : ∀ (cdv : Value) (A : Around) (outer : List Env) (s : Shared) (H : Hp) (vs : List V) (Q : VK) (E : XK), Room k (A.deeper (envOfC qual (Jb st) s.heap.objs.size f cdv)) -> sp vs H Q E ->
   ∃ t, PSs (cxOf CX0 P w K mg base N qual (Jb st) f cdv A outer s H E).nox (Jg st) t /\ t { nx := fun _ H' => Q .non H', rt := Q } (start N vs) H) : FnOk P w K mg base CX0 (k + 1) f fd ps sp := by
 obtain ⟨oc, od, kV, doc, pm, an, cdv, ct, osl, rfl, lk, hcd⟩ := F.ex
 refine J4v lk hcd S len fun A outer s H vs Q E hr hsp => ?_
 obtain ⟨t, h, q⟩ := hbody cdv A outer s H vs Q E hr hsp
 exact ⟨t, h.nox, q⟩
theorem Fun.binds {x qual : Str} {st : Stmt} {f : Addr} {fd : FuncData} {ps : List Str} (F : Fun K x qual st f fd)
  (h : ∀ (kV doc pm : Value) (an : Option Addr) (cdv ct : Value) (us : List Value), us.length = ps.length -> bindArgs (W.fnOf x qual (Ji st) (Jg st) (Jb st) .none kV doc pm an cdv ct) ⟨us, []⟩ = pure (ps.zip us)) : Jhh K fd ps [] := by
 obtain ⟨oc, od, kV, doc, pm, an, cdv, ct, osl, rfl, lk, hcd⟩ := F.ex
 exact .all (h kV doc pm an cdv ct)
end
section
variable {X : Cx}
end
noncomputable def Same (H H' : Hp) : Prop := ∀ b o, H b = some o -> H' b = some o
theorem Same.refl (H : Hp) : Same H H := fun _ _ h => h
theorem Same.trans {H H1 H2 : Hp} (a : Same H H1) (b : Same H1 H2) : Same H H2 := fun c o h => b c o (a c o h)
theorem Same.free {H H' : Hp} (e : Same H H') {l : Addr} (h : H' l = Option.none) : H l = Option.none := by
 cases q : H l with
 | none => rfl
 | some o =>
  rw [e l o q] at h
  cases h
theorem Same.seq {K : W.Frag} {H H' : Hp} {a : Addr} {xs : List V} (e : Same H H') (h : SqL K H a xs) : SqL K H' a xs := by
 rcases h with (h | ⟨o, h⟩) | h
 ·exact .inl (.inl (e _ _ h))
 ·exact .inl (.inr ⟨o, e _ _ h⟩)
 ·exact .inr h
end L2
set_option maxHeartbeats 4000000
namespace L3
open PySem PySem.Spec PyProof.Rows L2
inductive IV where
 | non | bl (b : Bool) | int (i : Int) | str (x : Str) | tup (xs : List IV) | rol (xs : List IV) | ref (i : Nat)
inductive IO where
 | lst (xs : List IV)
 | ins (c : Str) (fs : List (Str × IV))
 | dct (kvs : List (Key × IV))
 | exc (c : Str) (fs : List (Str × IV))
 | tab (q : Str)
noncomputable abbrev IH := List IO
noncomputable abbrev ISt := List (Option IV)
inductive Res (α : Type) where
 | ok (a : α) (h : IH) | exc (n : Nat) (h : IH) | stuck
noncomputable def Res.bind {α β : Type} : Res α -> (α -> IH -> Res β) -> Res β
 | .ok a h, f => f a h
 | .exc n h, _ => .exc n h
 | .stuck, _ => .stuck
inductive SRes where
 | next (σ : ISt) (h : IH) | ret (v : IV) (h : IH) | brk (σ : ISt) (h : IH) | cont (σ : ISt) (h : IH) | exc (n : Nat) (σ : ISt) (h : IH) | stuck
noncomputable def SqR (K : W.Frag) (H : Hp) (a : Addr) (xs : List V) : Prop :=
 (∃ o, H a = some (.frz o (.lst xs))) ∨
  ∃ (o : Obj) (its : Array Value) (n : Nat), K.lookup a = some o /\ o.cls = .type "list" /\ o.dict = none /\ o.data = .seq its n /\ its.size <= sizeLine /\ Vals xs its.toList
theorem SqR.sq {K : W.Frag} {H : Hp} {a : Addr} {xs : List V} (h : SqR K H a xs) : SqL K H a xs := by
 rcases h with ⟨o, h⟩ | h
 ·exact .inl (.inr ⟨o, h⟩)
 ·exact .inr h
mutual
noncomputable def RV (K : W.Frag) (ι : List Addr) (H : Hp) : IV -> V -> Prop
 | .non, v => v = .non
 | .bl b, v => v = .bl b
 | .int i, v => v = .int i
 | .str x, v => v = .str x
 | .tup xs, v => ∃ a vs, v = .ref a /\ SqT K H a vs /\ RVs K ι H xs vs
 | .rol xs, v => ∃ a vs, v = .ref a /\ SqR K H a vs /\ RVs K ι H xs vs
 | .ref i, v => ∃ a, v = .ref a /\ ι[i]? = some a
noncomputable def RVs (K : W.Frag) (ι : List Addr) (H : Hp) : List IV -> List V -> Prop
 | [], vs => vs = []
 | x :: xs, vs => ∃ v r, vs = v :: r /\ RV K ι H x v /\ RVs K ι H xs r
end
structure Ext (H H' : Hp) : Prop where
 tups : ∀ b xs, H b = some (.tup xs) -> H' b = some (.tup xs)
 frzs : ∀ b o u, H b = some (.frz o u) -> H' b = some (.frz o u)
structure Nxt (ι : List Addr) (H : Hp) (ι' : List Addr) (H' : Hp) : Prop where
 pre : ∃ m, ι' = ι ++ m
 ext : Ext H H'
theorem Nxt.refl {ι : List Addr} {H : Hp} : Nxt ι H ι H := ⟨⟨[], by simp⟩, ⟨fun _ _ h => h, fun _ _ _ h => h⟩⟩
theorem Nxt.trans {ι ι1 ι2 : List Addr} {H H1 H2 : Hp} (a : Nxt ι H ι1 H1) (b : Nxt ι1 H1 ι2 H2) : Nxt ι H ι2 H2 := by
 obtain ⟨⟨m, e⟩, x⟩ := a
 obtain ⟨⟨m', e'⟩, y⟩ := b
 exact ⟨⟨m ++ m', by rw [e', e, List.append_assoc]⟩, ⟨fun b xs h => y.tups b xs (x.tups b xs h), fun b o u h => y.frzs b o u (x.frzs b o u h)⟩⟩
theorem Nxt.at {ι ι' : List Addr} {H H' : Hp} (n : Nxt ι H ι' H') {i : Nat} {a : Addr} (h : ι[i]? = some a) : ι'[i]? = some a := by
 obtain ⟨⟨m, e⟩, _⟩ := n
 subst e
 rw [List.getElem?_append_left (List.getElem?_eq_some_iff.mp h).1]
 exact h
theorem Ext.rd {H H' : Hp} (x : Ext H H') {a : Addr} {xs : List V} (h : Rd H a (.tup xs)) : Rd H' a (.tup xs) := by
 rcases h with h | ⟨o, h⟩
 ·exact .inl (x.tups _ _ h)
 ·exact .inr ⟨o, x.frzs _ _ _ h⟩
theorem Ext.sqT {K : W.Frag} {H H' : Hp} (x : Ext H H') {a : Addr} {xs : List V} (h : SqT K H a xs) : SqT K H' a xs := by
 rcases h with h | h
 ·exact .inl (x.rd h)
 ·exact .inr h
theorem Ext.sqR {K : W.Frag} {H H' : Hp} (x : Ext H H') {a : Addr} {xs : List V} (h : SqR K H a xs) : SqR K H' a xs := by
 rcases h with ⟨o, h⟩ | h
 ·exact .inl ⟨o, x.frzs _ _ _ h⟩
 ·exact .inr h
mutual
theorem RV.mono {K : W.Frag} {ι ι' : List Addr} {H H' : Hp} (n : Nxt ι H ι' H') : ∀ (x : IV) (v : V), RV K ι H x v -> RV K ι' H' x v
 | .non, _, h => h
 | .bl _, _, h => h
 | .int _, _, h => h
 | .str _, _, h => h
 | .tup xs, _, h => by
  obtain ⟨a, vs, e, q, r⟩ := h
  exact ⟨a, vs, e, n.ext.sqT q, RVs.mono n xs vs r⟩
 | .rol xs, _, h => by
  obtain ⟨a, vs, e, q, r⟩ := h
  exact ⟨a, vs, e, n.ext.sqR q, RVs.mono n xs vs r⟩
 | .ref i, _, h => by
  obtain ⟨a, e, q⟩ := h
  exact ⟨a, e, n.at q⟩
theorem RVs.mono {K : W.Frag} {ι ι' : List Addr} {H H' : Hp} (n : Nxt ι H ι' H') : ∀ (xs : List IV) (vs : List V), RVs K ι H xs vs -> RVs K ι' H' xs vs
 | [], _, h => h
 | x :: xs, _, h => by
  obtain ⟨v, r, e, q, t⟩ := h
  exact ⟨v, r, e, RV.mono n x v q, RVs.mono n xs r t⟩
end
theorem RVs.length {K : W.Frag} {ι : List Addr} {H : Hp} : ∀ {xs : List IV} {vs : List V}, RVs K ι H xs vs -> vs.length = xs.length
 | [], _, h => by
  have e : _ = [] := h
  subst e
  rfl
 | x :: xs, _, h => by
  obtain ⟨v, r, e, _, t⟩ := h
  subst e
  simp [RVs.length t]
theorem RVs.get {K : W.Frag} {ι : List Addr} {H : Hp} : ∀ {xs : List IV} {vs : List V} {i : Nat} {x : IV}, RVs K ι H xs vs -> xs[i]? = some x -> ∃ v, vs[i]? = some v /\ RV K ι H x v
 | [], _, _, _, _, e => by simp at e
 | x :: xs, _, 0, y, h, e => by
  obtain ⟨v, r, e1, q, t⟩ := h
  subst e1
  simp at e
  subst e
  exact ⟨v, rfl, q⟩
 | x :: xs, _, i + 1, y, h, e => by
  obtain ⟨v, r, e1, q, t⟩ := h
  subst e1
  obtain ⟨u, h1, h2⟩ := RVs.get (i := i) (x := y) t (by simpa using e)
  exact ⟨u, by simpa using h1, h2⟩
theorem RVs.get' {K : W.Frag} {ι : List Addr} {H : Hp} {xs : List IV} {vs : List V} {i : Nat} {v : V} (h : RVs K ι H xs vs) (e : vs[i]? = some v) : ∃ x, xs[i]? = some x /\ RV K ι H x v := by
 have hl := h.length
 have hi : i < vs.length := (List.getElem?_eq_some_iff.mp e).1
 have hx : xs[i]? = some xs[i] := List.getElem?_eq_getElem (by omega)
 obtain ⟨u, h1, h2⟩ := h.get hx
 rw [e] at h1
 cases h1
 exact ⟨_, hx, h2⟩
theorem RVs.append {K : W.Frag} {ι : List Addr} {H : Hp} : ∀ {xs ys : List IV} {vs us : List V}, RVs K ι H xs vs -> RVs K ι H ys us -> RVs K ι H (xs ++ ys) (vs ++ us)
 | [], _, _, _, h, g => by
  have e : _ = [] := h
  subst e
  exact g
 | x :: xs, _, _, _, h, g => by
  obtain ⟨v, r, e, q, t⟩ := h
  subst e
  exact ⟨v, _, rfl, q, RVs.append t g⟩
theorem RVs.take {K : W.Frag} {ι : List Addr} {H : Hp} : ∀ {xs : List IV} {vs : List V} (n : Nat), RVs K ι H xs vs -> RVs K ι H (xs.take n) (vs.take n)
 | _, _, 0, _ => by simp; exact rfl
 | [], _, n + 1, h => by
  have e : _ = [] := h
  subst e
  exact rfl
 | x :: xs, _, n + 1, h => by
  obtain ⟨v, r, e, q, t⟩ := h
  subst e
  exact ⟨v, r.take n, rfl, q, RVs.take n t⟩
theorem RVs.drop {K : W.Frag} {ι : List Addr} {H : Hp} : ∀ {xs : List IV} {vs : List V} (n : Nat), RVs K ι H xs vs -> RVs K ι H (xs.drop n) (vs.drop n)
 | _, _, 0, h => h
 | [], _, n + 1, h => by
  have e : _ = [] := h
  subst e
  exact rfl
 | x :: xs, _, n + 1, h => by
  obtain ⟨v, r, e, q, t⟩ := h
  subst e
  exact RVs.drop n t
theorem RVs.set {K : W.Frag} {ι : List Addr} {H : Hp} {x : IV} {v : V} (q : RV K ι H x v) : ∀ {xs : List IV} {vs : List V} (i : Nat), RVs K ι H xs vs -> RVs K ι H (xs.set i x) (vs.set i v)
 | [], _, _, h => by
  have e : _ = [] := h
  subst e
  exact rfl
 | y :: xs, _, 0, h => by
  obtain ⟨u, r, e, _, t⟩ := h
  subst e
  exact ⟨v, r, rfl, q, t⟩
 | y :: xs, _, i + 1, h => by
  obtain ⟨u, r, e, p, t⟩ := h
  subst e
  exact ⟨u, r.set i v, rfl, p, RVs.set q i t⟩
theorem RVs.one {K : W.Frag} {ι : List Addr} {H : Hp} {x : IV} {v : V} (q : RV K ι H x v) : RVs K ι H [x] [v] := ⟨v, [], rfl, q, rfl⟩
theorem RVs.rev {K : W.Frag} {ι : List Addr} {H : Hp} : ∀ {xs : List IV} {vs : List V}, RVs K ι H xs vs -> RVs K ι H xs.reverse vs.reverse
 | [], _, h => by
  have e : _ = [] := h
  subst e
  exact rfl
 | x :: xs, _, h => by
  obtain ⟨v, r, e, q, t⟩ := h
  subst e
  rw [List.reverse_cons, List.reverse_cons]
  exact RVs.append (RVs.rev t) (RVs.one q)
theorem RVs.eraseIdx {K : W.Frag} {ι : List Addr} {H : Hp} : ∀ {xs : List IV} {vs : List V} (i : Nat), RVs K ι H xs vs -> RVs K ι H (xs.eraseIdx i) (vs.eraseIdx i)
 | [], _, _, h => by
  have e : _ = [] := h
  subst e
  exact rfl
 | x :: xs, _, 0, h => by
  obtain ⟨v, r, e, q, t⟩ := h
  subst e
  exact t
 | x :: xs, _, i + 1, h => by
  obtain ⟨v, r, e, q, t⟩ := h
  subst e
  exact ⟨v, r.eraseIdx i, rfl, q, RVs.eraseIdx i t⟩
theorem RVs.ints {K : W.Frag} {ι : List Addr} {H : Hp} : ∀ (ns : List Int), RVs K ι H (ns.map IV.int) (ns.map V.int)
 | [] => rfl
 | _ :: ns => ⟨_, _, rfl, rfl, RVs.ints ns⟩
noncomputable def RPs {κ : Type} (K : W.Frag) (ι : List Addr) (H : Hp) : List (κ × IV) -> List (κ × V) -> Prop
 | [], vs => vs = []
 | x :: xs, vs => ∃ v r, vs = (x.1, v) :: r /\ RV K ι H x.2 v /\ RPs K ι H xs r
theorem RPs.mono {κ : Type} {K : W.Frag} {ι ι' : List Addr} {H H' : Hp} (n : Nxt ι H ι' H') : ∀ (xs : List (κ × IV)) (vs : List (κ × V)), RPs K ι H xs vs -> RPs K ι' H' xs vs
 | [], _, h => h
 | x :: xs, _, h => by
  obtain ⟨v, r, e, q, t⟩ := h
  exact ⟨v, r, e, RV.mono n _ v q, RPs.mono n xs r t⟩
theorem RPs.length {κ : Type} {K : W.Frag} {ι : List Addr} {H : Hp} : ∀ {xs : List (κ × IV)} {vs : List (κ × V)}, RPs K ι H xs vs -> vs.length = xs.length
 | [], _, h => by
  have e : _ = [] := h
  subst e
  rfl
 | x :: xs, _, h => by
  obtain ⟨v, r, e, _, t⟩ := h
  subst e
  simp [RPs.length t]
theorem RPs.lookup {κ : Type} [BEq κ] {K : W.Frag} {ι : List Addr} {H : Hp} {f : κ} : ∀ {xs : List (κ × IV)} {vs : List (κ × V)}, RPs K ι H xs vs ->
  (∀ x, xs.lookup f = some x -> ∃ v, vs.lookup f = some v /\ RV K ι H x v) /\ (xs.lookup f = none -> vs.lookup f = none)
 | [], _, h => by
  have e : _ = [] := h
  subst e
  exact ⟨fun x e => by simp at e, fun _ => rfl⟩
 | (k, x) :: xs, _, h => by
  obtain ⟨v, r, e, q, t⟩ := h
  subst e
  have ih := RPs.lookup (f := f) t
  simp only [List.lookup_cons]
  cases hb : f == k with
  | true => exact ⟨fun y e => by cases e; exact ⟨v, rfl, q⟩, fun e => by cases e⟩
  | false => exact ih
noncomputable def Jdq (H : Hp) (q : Str) (cv : Value) : Prop := ∃ c oc vs t, cv = .ref c /\ H c = some (.frz oc (.own 0)) /\ oc.data = .fields vs /\ vs[1]? = some (.str (q ++ ".<locals>." ++ "<lambda>") t)
noncomputable def TabO (K : W.Frag) (H : Hp) (q : Str) (a : Addr) : Prop := (∀ cdv, W.codeIn K cdv q = true -> ∃ c, cdv = .ref c /\ W.codeHdIn K c a = true) /\
 ∃ ps, H a = some (.tbl ps) /\ TriplesOk ps.toList /\ ∀ pos cv, codeAmong pos ps.toList = some cv -> Jdq H q cv
theorem TabO.mono {K : W.Frag} {H H' : Hp} {q : Str} {a : Addr} (fz : ∀ b o u, H b = some (.frz o u) -> H' b = some (.frz o u)) (k : ∀ u, H a = some u -> H' a = some u) (h : TabO K H q a) : TabO K H' q a := by
 obtain ⟨h1, ps, e, ht, hc⟩ := h
 refine ⟨h1, ps, k _ e, ht, fun pos cv q => ?_⟩
 obtain ⟨c, oc, vs, t, e1, e2, r⟩ := hc pos cv q
 exact ⟨c, oc, vs, t, e1, fz _ _ _ e2, r⟩
noncomputable def RO (ce : Str -> Option Addr) (K : W.Frag) (ι : List Addr) (H : Hp) (a : Addr) : IO -> Prop
 | .lst xs => ∃ vs, H a = some (.lst vs) /\ RVs K ι H xs vs
 | .ins c fs => ∃ C dx vs, ce c = some C /\ H a = some (.ins C dx vs) /\ RPs K ι H fs vs
 | .dct kvs => ∃ vs, H a = some (.dK vs) /\ RPs K ι H kvs vs
 | .exc _ _ => False
 | .tab q => TabO K H q a
theorem RO.some {ce : Str -> Option Addr} {K : W.Frag} {ι : List Addr} {H : Hp} {a : Addr} {o : IO} (h : RO ce K ι H a o) : ∃ u, H a = some u := by
 cases o with
 | lst xs => obtain ⟨vs, e, _⟩ := h; exact ⟨_, e⟩
 | ins c fs => obtain ⟨_, _, vs, _, e, _⟩ := h; exact ⟨_, e⟩
 | dct kvs => obtain ⟨vs, e, _⟩ := h; exact ⟨_, e⟩
 | exc c fs => exact Zf h
 | tab q => obtain ⟨_, ps, e, _⟩ := h; exact ⟨_, e⟩
theorem RO.mono {ce : Str -> Option Addr} {K : W.Frag} {ι ι' : List Addr} {H H' : Hp} {a : Addr} {o : IO} (n : Nxt ι H ι' H') (k : ∀ u, H a = Option.some u -> H' a = Option.some u) (h : RO ce K ι H a o) : RO ce K ι' H' a o := by
 cases o with
 | lst xs => obtain ⟨vs, e, r⟩ := h; exact ⟨vs, k _ e, RVs.mono n _ _ r⟩
 | ins c fs => obtain ⟨C, dx, vs, c1, e, r⟩ := h; exact ⟨C, dx, vs, c1, k _ e, RPs.mono n _ _ r⟩
 | dct kvs => obtain ⟨vs, e, r⟩ := h; exact ⟨vs, k _ e, RPs.mono n _ _ r⟩
 | exc c fs => exact Zf h
 | tab q => exact TabO.mono n.ext.frzs k h
structure Rel (ce : Str -> Option Addr) (K : W.Frag) (ι : List Addr) (h : IH) (H : Hp) : Prop where
 len : ι.length = h.length
 nd : ι.Nodup
 at_ : ∀ (i : Nat) (o : IO), h[i]? = some o -> ∃ a, ι[i]? = some a /\ RO ce K ι H a o
section
variable {ce : Str -> Option Addr} {K : W.Frag} {ι : List Addr} {h : IH} {H : Hp}
theorem Rel.some (R : Rel ce K ι h H) {i : Nat} {a : Addr} (e : ι[i]? = some a) : ∃ u, H a = Option.some u := by
 have hi : i < h.length := by rw [<- R.len]; exact (List.getElem?_eq_some_iff.mp e).1
 obtain ⟨b, e', r⟩ := R.at_ i _ (List.getElem?_eq_getElem hi)
 rw [e] at e'
 cases e'
 exact r.some
theorem Rel.notin (R : Rel ce K ι h H) {l : Addr} (e : H l = none) : l ∉ ι := fun hl => by
 obtain ⟨i, hi, q⟩ := List.mem_iff_getElem.mp hl
 obtain ⟨u, hu⟩ := R.some (i := i) (a := l) (by rw [List.getElem?_eq_getElem hi, q])
 rw [e] at hu
 cases hu
theorem Ext.upd_new {l : Addr} {o : HO} (e : H l = none) : Ext H (upd H l o) :=
 ⟨fun b xs q => by rw [Jp (Jaq q e)]; exact q, fun b o u q => by rw [Jp (Jaq q e)]; exact q⟩
theorem Rel.grow {l : Addr} {o : HO} (R : Rel ce K ι h H) (e : H l = none) : Rel ce K ι h (upd H l o) /\ Nxt ι H ι (upd H l o) := by
 have n : Nxt ι H ι (upd H l o) := ⟨⟨[], by simp⟩, Ext.upd_new e⟩
 refine ⟨⟨R.len, R.nd, fun i u q => ?_⟩, n⟩
 obtain ⟨a, e1, r⟩ := R.at_ i u q
 exact ⟨a, e1, r.mono n fun w hw => by rw [Jp (Jaq hw e)]; exact hw⟩
theorem Rel.alloc {l : Addr} {o : HO} {io : IO} (R : Rel ce K ι h H) (e : H l = none) (r : RO ce K (ι ++ [l]) (upd H l o) l io) : Rel ce K (ι ++ [l]) (h ++ [io]) (upd H l o) /\ Nxt ι H (ι ++ [l]) (upd H l o) := by
 have n : Nxt ι H (ι ++ [l]) (upd H l o) := ⟨⟨[l], rfl⟩, Ext.upd_new e⟩
 refine ⟨⟨by simp [R.len], ?_, fun i u q => ?_⟩, n⟩
 ·rw [List.nodup_append]
  refine ⟨R.nd, by simp, fun a ha b hb => ?_⟩
  have : b = l := by simpa using hb
  subst this
  rintro rfl
  exact R.notin e ha
 ·by_cases hi : i < h.length
  ·rw [List.getElem?_append_left hi] at q
   obtain ⟨a, e1, r1⟩ := R.at_ i u q
   exact ⟨a, n.at e1, r1.mono n fun w hw => by rw [Jp (Jaq hw e)]; exact hw⟩
  ·have hi2 : i = h.length := by
    have := (List.getElem?_eq_some_iff.mp q).1
    simp at this
    omega
   subst hi2
   rw [List.getElem?_append_right (Nat.le_refl _)] at q
   simp at q
   subst q
   refine ⟨l, ?_, r⟩
   rw [<- R.len, List.getElem?_append_right (Nat.le_refl _)]
   simp
theorem Rel.inj (R : Rel ce K ι h H) {i j : Nat} {a : Addr} (e1 : ι[i]? = Option.some a) (e2 : ι[j]? = Option.some a) : i = j := by
 obtain ⟨h1, q1⟩ := List.getElem?_eq_some_iff.mp e1
 obtain ⟨h2, q2⟩ := List.getElem?_eq_some_iff.mp e2
 exact (List.getElem_inj R.nd).mp (q1.trans q2.symm)
theorem Ext.upd_mut {l : Addr} {o u : HO} (e : H l = Option.some u) (m : Mut (H l)) : Ext H (upd H l o) := by
 refine ⟨fun b xs q => ?_, fun b ob w q => ?_⟩
 ·by_cases hb : b = l
  ·subst hb
   rw [q] at m
   exact Zf m
  ·rw [Jp hb]; exact q
 ·by_cases hb : b = l
  ·subst hb
   rw [q] at m
   exact Zf m
  ·rw [Jp hb]; exact q
theorem Rel.write {i : Nat} {a : Addr} {o u : HO} {io : IO} (R : Rel ce K ι h H) (e : ι[i]? = Option.some a) (ha : H a = Option.some u) (m : Mut (H a)) (r : RO ce K ι (upd H a o) a io) : Rel ce K ι (h.set i io) (upd H a o) /\ Nxt ι H ι (upd H a o) := by
 have n : Nxt ι H ι (upd H a o) := ⟨⟨[], by simp⟩, Ext.upd_mut ha m⟩
 refine ⟨⟨by simp [R.len], R.nd, fun j w q => ?_⟩, n⟩
 by_cases hj : j = i
 ·subst hj
  have hl : j < h.length := by
   have := (List.getElem?_eq_some_iff.mp q).1
   simpa using this
  rw [List.getElem?_set_self hl] at q
  cases q
  exact ⟨a, e, r⟩
 ·rw [List.getElem?_set_ne (Ne.symm hj)] at q
  obtain ⟨b, e1, r1⟩ := R.at_ j w q
  refine ⟨b, e1, r1.mono n fun v hv => ?_⟩
  have : b ≠ a := by
   rintro rfl
   exact hj (R.inj e1 e)
  rw [Jp this]
  exact hv
end
end L3
namespace L3
open PySem PySem.Spec PyProof.Rows L2
structure RSt (K : W.Frag) (ι : List Addr) (H : Hp) (σi : ISt) (σ : L2.St) : Prop where
 len : σi.length = σ.length
 at_ : ∀ (j : Nat) (v : IV), σi[j]? = some (some v) -> ∃ u, σ[j]? = some (some u) /\ RV K ι H v u
theorem RSt.mono {K : W.Frag} {ι ι' : List Addr} {H H' : Hp} {σi : ISt} {σ : L2.St} (n : Nxt ι H ι' H') (r : RSt K ι H σi σ) : RSt K ι' H' σi σ :=
 ⟨r.len, fun j v e => let ⟨u, e1, q⟩ := r.at_ j v e; ⟨u, e1, RV.mono n _ _ q⟩⟩
theorem RSt.set {K : W.Frag} {ι : List Addr} {H : Hp} {σi : ISt} {σ : L2.St} (r : RSt K ι H σi σ) (i : Nat) {x : IV} {v : V} (q : RV K ι H x v) : RSt K ι H (σi.set i (some x)) (σ.set i (some v)) := by
 refine ⟨by simp [r.len], fun j w e => ?_⟩
 by_cases hj : j = i
 ·subst hj
  have hl : j < σi.length := by
   have := (List.getElem?_eq_some_iff.mp e).1
   simpa using this
  rw [List.getElem?_set_self hl] at e
  cases e
  exact ⟨v, by rw [List.getElem?_set_self (by rw [<- r.len]; exact hl)], q⟩
 ·rw [List.getElem?_set_ne (Ne.symm hj)] at e
  obtain ⟨u, e1, q1⟩ := r.at_ j w e
  exact ⟨u, by rw [List.getElem?_set_ne (Ne.symm hj)]; exact e1, q1⟩
structure Now (ce : Str -> Option Addr) (X : Cx) (pins : List (Addr × Obj)) (ι : List Addr) (σi : ISt) (h : IH) (σ : L2.St) (H : Hp) (s : Shared) : Prop where
 inv : Inv X pins σ H s
 rel : Rel ce X.K ι h H
 st : RSt X.K ι H σi σ
noncomputable def RU (K : W.Frag) (ι : List Addr) (H : Hp) (v : IV) (u : Value) : Prop := ∃ x, RelV x u /\ RV K ι H v x
theorem RU.mono {K : W.Frag} {ι ι' : List Addr} {H H' : Hp} {v : IV} {u : Value} (n : Nxt ι H ι' H') (r : RU K ι H v u) : RU K ι' H' v u :=
 let ⟨x, a, b⟩ := r; ⟨x, a, RV.mono n _ _ b⟩
noncomputable def RUs (K : W.Frag) (ι : List Addr) (H : Hp) (vs : List IV) (us : List Value) : Prop := ∃ xs, Vals xs us /\ RVs K ι H vs xs
theorem RUs.mono {K : W.Frag} {ι ι' : List Addr} {H H' : Hp} {v : List IV} {u : List Value} (n : Nxt ι H ι' H') (r : RUs K ι H v u) : RUs K ι' H' v u :=
 let ⟨x, a, b⟩ := r; ⟨x, a, RVs.mono n _ _ b⟩
noncomputable abbrev REL (α β : Type) := W.Frag -> List Addr -> Hp -> α -> β -> Prop
noncomputable def RB : REL Bool Bool := fun _ _ _ b c => c = b
section
variable {α β γ δ : Type}
noncomputable def Kont (ce : Str -> Option Addr) (X : Cx) (R : REL α β) (pins : List (Addr × Obj)) (ι : List Addr) (σi : ISt) (σ : L2.St) (H : Hp) (r : Res α) (Q : β -> Shared -> Prop) (E : Value -> Shared -> Prop) : Prop :=
 match r with
 | .ok v h' => ∀ u s' H' ι', Now ce X pins ι' σi h' σ H' s' -> Nxt ι H ι' H' -> R X.K ι' H' v u -> Q u s'
 | .exc n h' => ∀ pl a s' H' ι', Now ce X (pins ++ pl) ι' σi h' σ H' s' -> Nxt ι H ι' H' -> ι'[n]? = some a -> E (.ref a) s'
 | .stuck => False
variable {ce : Str -> Option Addr} {X : Cx} {R : REL α β} {R' : REL γ δ} {pins : List (Addr × Obj)} {ι ι' : List Addr} {σi : ISt} {σ : L2.St} {H H' : Hp}
theorem Kont.mono {r : Res α} {Q : β -> Shared -> Prop} {E : Value -> Shared -> Prop} (k : Kont ce X R pins ι σi σ H r Q E) (n : Nxt ι H ι' H') : Kont ce X R pins ι' σi σ H' r Q E := by
 cases r with
 | ok v h' => exact fun u s' H2 ι2 N n2 q => k u s' H2 ι2 N (n.trans n2) q
 | exc m h' => exact fun pl a s' H2 ι2 N n2 q => k pl a s' H2 ι2 N (n.trans n2) q
 | stuck => exact k
noncomputable def PX (ce : Str -> Option Addr) (X : Cx) (R : REL α β) (t : Sem β) (m : ISt -> IH -> Res α) : Prop :=
 ∀ (pins : List (Addr × Obj)) (s : Shared) (σ : L2.St) (H : Hp) (ι : List Addr) (σi : ISt) (h : IH) (Q : β -> Shared -> Prop) (E : Value -> Shared -> Prop), Now ce X pins ι σi h σ H s -> Kont ce X R pins ι σi σ H (m σi h) Q E ->
  wpAny (model X.prog X.w) X.A t Q E s
theorem PX.run {t : Sem β} {m : ISt -> IH -> Res α} (p : PX ce X R t m) {s : Shared} {h : IH} (N : Now ce X pins ι σi h σ H s) {g : α -> IH -> Res γ} {Q : δ -> Shared -> Prop} {E : Value -> Shared -> Prop} {Q1 : β -> Shared -> Prop}
  (K : Kont ce X R' pins ι σi σ H ((m σi h).bind g) Q E)
  (step : ∀ x h1 u s1 H1 ι1, Now ce X pins ι1 σi h1 σ H1 s1 -> Nxt ι H ι1 H1 -> R X.K ι1 H1 x u -> Kont ce X R' pins ι1 σi σ H1 (g x h1) Q E -> Q1 u s1) : wpAny (model X.prog X.w) X.A t Q1 E s := by
 refine p pins s σ H ι σi h Q1 E N ?_
 cases e : m σi h with
 | ok v h' =>
  rw [e] at K
  exact fun u s' H' ι' N' n' r => step v h' u s' H' ι' N' n' r (Kont.mono (r := g v h') K n')
 | exc n h' =>
  rw [e] at K
  exact K
 | stuck =>
  rw [e] at K
  exact K
end
noncomputable abbrev PEi (ce : Str -> Option Addr) (X : Cx) (e : Expr) (m : ISt -> IH -> Res IV) : Prop := PX ce X RU (eval e X.env) m
noncomputable abbrev PTi (ce : Str -> Option Addr) (X : Cx) (e : Expr) (m : ISt -> IH -> Res Bool) : Prop := PX ce X RB (isTrue e X.env (eval e X.env)) m
noncomputable def PWi (ce : Str -> Option Addr) (X : Cx) (e : Expr) (m : ISt -> IH -> Res Bool) : Prop := ∀ whole : Sem Value, PX ce X RB (isTrue e X.env whole) m
noncomputable def PAi (ce : Str -> Option Addr) (X : Cx) (es : List Expr) (m : ISt -> IH -> Res (List IV)) : Prop := ∀ pos : Pos, PX ce X RUs (spliced (backTo pos (starEach es X.env))) m
noncomputable abbrev E1 := ISt -> IH -> Res IV
noncomputable abbrev T1 := ISt -> IH -> Res Bool
noncomputable abbrev A1 := ISt -> IH -> Res (List IV)
noncomputable def eVar (i : Nat) : E1 := fun σ h => match σ[i]? with | some (some v) => .ok v h | _ => .stuck
noncomputable def eC (v : IV) : E1 := fun _ h => .ok v h
noncomputable def eBin (f : IV -> IV -> IH -> Res IV) (a b : E1) : E1 := fun σ h => (a σ h).bind fun x h1 => (b σ h1).bind fun y h2 => f x y h2
noncomputable def eUn (f : IV -> IH -> Res IV) (a : E1) : E1 := fun σ h => (a σ h).bind fun x h1 => f x h1
noncomputable def eAnd (a b : E1) (tr : IV -> IH -> Res Bool) : E1 := fun σ h => (a σ h).bind fun x h1 => (tr x h1).bind fun c h2 => if c then b σ h2 else .ok x h2
noncomputable def eOr (a b : E1) (tr : IV -> IH -> Res Bool) : E1 := fun σ h => (a σ h).bind fun x h1 => (tr x h1).bind fun c h2 => if c then .ok x h2 else b σ h2
noncomputable def eIf (t : T1) (a b : E1) : E1 := fun σ h => (t σ h).bind fun c h1 => if c then a σ h1 else b σ h1
noncomputable def Jxd (a b : T1) : T1 := fun σ h => (a σ h).bind fun c h1 => if c then b σ h1 else .ok false h1
noncomputable def tOrI (a b : T1) : T1 := fun σ h => (a σ h).bind fun c h1 => if c then .ok true h1 else b σ h1
noncomputable def Jc9 (a : T1) : T1 := fun σ h => (a σ h).bind fun c h1 => .ok (!c) h1
noncomputable def tOfB (tr : IV -> IH -> Res Bool) (a : E1) : T1 := fun σ h => (a σ h).bind fun x h1 => tr x h1
noncomputable def aNil : A1 := fun _ h => .ok [] h
noncomputable def Ja (a : E1) (r : A1) : A1 := fun σ h => (a σ h).bind fun x h1 => (r σ h1).bind fun xs h2 => .ok (x :: xs) h2
noncomputable def Jgd (f g : IV -> IV -> IH -> Res IV) (a b c : E1) : E1 := fun σ h => (a σ h).bind fun x h1 => (b σ h1).bind fun y h2 => (f x y h2).bind fun k h3 =>
 match k with
 | .bl true => (c σ h3).bind fun z h4 => g y z h4
 | .bl false => .ok (.bl false) h3
 | _ => .stuck
section
variable {ce : Str -> Option Addr} {X : Cx} {a b c : Expr} {ma mb mc : E1} {pos : Pos}
noncomputable def OpI (ce : Str -> Option Addr) (X : Cx) (f : Value -> Value -> Sem Value) (g : IV -> IV -> IH -> Res IV) : Prop :=
 ∀ (pins : List (Addr × Obj)) (s : Shared) (σ : L2.St) (H : Hp) (ι : List Addr) (σi : ISt) (h : IH) (x y : IV) (v u : Value) (Q : Value -> Shared -> Prop) (E : Value -> Shared -> Prop), Now ce X pins ι σi h σ H s -> RU X.K ι H x v -> RU X.K ι H y u ->
  Kont ce X RU pins ι σi σ H (g x y h) Q E -> wpAny (model X.prog X.w) X.A (f v u) Q E s
noncomputable def UnI (ce : Str -> Option Addr) (X : Cx) (f : Value -> Sem Value) (g : IV -> IH -> Res IV) : Prop :=
 ∀ (pins : List (Addr × Obj)) (s : Shared) (σ : L2.St) (H : Hp) (ι : List Addr) (σi : ISt) (h : IH) (x : IV) (v : Value) (Q : Value -> Shared -> Prop) (E : Value -> Shared -> Prop), Now ce X pins ι σi h σ H s -> RU X.K ι H x v ->
  Kont ce X RU pins ι σi σ H (g x h) Q E -> wpAny (model X.prog X.w) X.A (f v) Q E s
noncomputable def TrI (ce : Str -> Option Addr) (X : Cx) (g : IV -> IH -> Res Bool) : Prop :=
 ∀ (pins : List (Addr × Obj)) (s : Shared) (σ : L2.St) (H : Hp) (ι : List Addr) (σi : ISt) (h : IH) (x : IV) (v : Value) (Q : Bool -> Shared -> Prop) (E : Value -> Shared -> Prop), Now ce X pins ι σi h σ H s -> RU X.K ι H x v ->
  Kont ce X RB pins ι σi σ H (g x h) Q E -> wpAny (model X.prog X.w) X.A (truthy v) Q E s
noncomputable def Jkg (ce : Str -> Option Addr) (X : Cx) (f : Value) (g : List IV -> IH -> Res IV) : Prop :=
 ∀ (pins : List (Addr × Obj)) (s : Shared) (σ : L2.St) (H : Hp) (ι : List Addr) (σi : ISt) (h : IH) (xs : List IV) (us : List Value) (Q : Value -> Shared -> Prop) (E : Value -> Shared -> Prop), Now ce X pins ι σi h σ H s -> RUs X.K ι H xs us ->
  Kont ce X RU pins ι σi σ H (g xs h) Q E -> wpAny (model X.prog X.w) X.A (call f us) Q E s
theorem Jm1 {pins : List (Addr × Obj)} {s : Shared} {σ : L2.St} {H : Hp} {Q : Value -> Shared -> Prop} {E : Value -> Shared -> Prop} {e : Expr} {t : TE} (p : PE (X.wish E) e t) (I : Inv X pins σ H s)
  (k : t σ H fun z H' => ∀ u s', Inv X pins σ H' s' -> RelV z u -> Q u s') : wpAny (model X.prog X.w) X.A (eval e X.env) Q E s :=
 wpAny_mono (p pins s σ H _ (I.wish E) k) (fun u s' ⟨_, _, I', r, q⟩ => q u s' I'.unwish r) fun _ _ z => z
theorem Jbq {pins : List (Addr × Obj)} {s : Shared} {σ : L2.St} {H : Hp} {Q : Value -> Shared -> Prop} {E : Value -> Shared -> Prop} {f : Value -> Value -> Sem Value} {r : R2} {x y : V} {v u : Value} (p : OpR (X.wish E) f r) (I : Inv X pins σ H s) (rx : RelV x v) (ry : RelV y u)
  (k : r x y H fun z H' => ∀ u s', Inv X pins σ H' s' -> RelV z u -> Q u s') : wpAny (model X.prog X.w) X.A (f v u) Q E s :=
 wpAny_mono (p pins s σ H x y v u _ (I.wish E) rx ry k) (fun u s' ⟨_, _, I', r, q⟩ => q u s' I'.unwish r) fun _ _ z => z
theorem J3r {pins : List (Addr × Obj)} {s : Shared} {σ : L2.St} {H : Hp} {Q : Value -> Shared -> Prop} {E : Value -> Shared -> Prop} {f : Value -> Sem Value} {r : V -> Hp -> VK -> Prop} {x : V} {v : Value} (p : UnR (X.wish E) f r) (I : Inv X pins σ H s) (rx : RelV x v)
  (k : r x H fun z H' => ∀ u s', Inv X pins σ H' s' -> RelV z u -> Q u s') : wpAny (model X.prog X.w) X.A (f v) Q E s :=
 wpAny_mono (p pins s σ H x v _ (I.wish E) rx k) (fun u s' ⟨_, _, I', r, q⟩ => q u s' I'.unwish r) fun _ _ z => z
theorem Jf7 {pins : List (Addr × Obj)} {s : Shared} {σ : L2.St} {H : Hp} {Q : Bool -> Shared -> Prop} {E : Value -> Shared -> Prop} {r : V -> Hp -> (Bool -> Hp -> Prop) -> Prop} {x : V} {v : Value} (p : TruR (X.wish E) r) (I : Inv X pins σ H s) (rx : RelV x v)
  (k : r x H fun z H' => ∀ s', Inv X pins σ H' s' -> Q z s') : wpAny (model X.prog X.w) X.A (truthy v) Q E s :=
 wpAny_mono (p pins s σ H x v _ (I.wish E) rx k) (fun _ s' ⟨_, I', q⟩ => q s' I'.unwish) fun _ _ z => z
theorem Ja6 {pins : List (Addr × Obj)} {s : Shared} {σ : L2.St} {H : Hp} {Q : Value -> Shared -> Prop} {E : Value -> Shared -> Prop} {f : Value} {r : List V -> Hp -> VK -> Prop} {xs : List V} {us : List Value} (p : Jq5 (X.wish E) f r) (I : Inv X pins σ H s) (rx : Vals xs us)
  (k : r xs H fun z H' => ∀ u s', Inv X pins σ H' s' -> RelV z u -> Q u s') : wpAny (model X.prog X.w) X.A (call f us) Q E s :=
 wpAny_mono (p pins s σ H xs us _ (I.wish E) rx k) (fun u s' ⟨_, _, I', r, q⟩ => q u s' I'.unwish r) fun _ _ z => z
theorem i_var (i : Nat) {x : Str} {pos : Pos} (hN : X.N[i]? = some x := by rfl) (hv : Vis X.env.scope x := by assumption) (hd : (x == ("__debug__" : Str)) = false := by decide)
  (hcd : (x == ("__classdict__" : Str)) = false := by decide) : PEi ce X (.Name x pos) (eVar i) := by
 intro pins s σ H ι σi h Q E N K
 unfold eVar at K
 cases e : σi[i]? with
 | none =>
  rw [e] at K
  exact Zf K
 | some o =>
  cases o with
  | none =>
   rw [e] at K
   exact Zf K
  | some v =>
   rw [e] at K
   obtain ⟨u, e1, q⟩ := N.st.at_ i v e
   exact Jm1 (J3d (X := X.wish E) hN hv hd hcd) N.inv ⟨u, e1, fun u' s' I' r' => K u' s' H ι ⟨I', N.rel, N.st⟩ .refl ⟨u, r', q⟩⟩
theorem i_int {i j pos} : PEi ce X (.Constant (.int i) j pos) (eC (.int i)) := fun _ _ _ H ι _ _ _ E N K => Jm1 (J3q (X := X.wish E)) N.inv fun u' s' I' r' => K u' s' H ι ⟨I', N.rel, N.st⟩ .refl ⟨_, r', rfl⟩
theorem i_bl {i j pos} : PEi ce X (.Constant (.bool i) j pos) (eC (.bl i)) := fun _ _ _ H ι _ _ _ E N K => Jm1 (pe_bl (X := X.wish E)) N.inv fun u' s' I' r' => K u' s' H ι ⟨I', N.rel, N.st⟩ .refl ⟨_, r', rfl⟩
theorem i_non {j pos} : PEi ce X (.Constant .none j pos) (eC .non) := fun _ _ _ H ι _ _ _ E N K => Jm1 (J4h (X := X.wish E)) N.inv fun u' s' I' r' => K u' s' H ι ⟨I', N.rel, N.st⟩ .refl ⟨_, r', rfl⟩
theorem i_str {i j pos} : PEi ce X (.Constant (.str i) j pos) (eC (.str i)) := fun _ _ _ H ι _ _ _ E N K => Jm1 (J4c (X := X.wish E)) N.inv fun u' s' I' r' => K u' s' H ι ⟨I', N.rel, N.st⟩ .refl ⟨_, r', rfl⟩
theorem J3n {x : Str} {v : V} {iv : IV} {u : Value} {pos : Pos} (hg : Gl X x) (hm : X.mg x = some u) (r : RelV v u) (q : ∀ ι H, RV X.K ι H iv v) (hd : (x == ("__debug__" : Str)) = false := by decide) : PEi ce X (.Name x pos) (eC iv) :=
 fun _ _ _ H ι _ _ _ E N K => Jm1 (J1i (X := X.wish E) hg hm r hd) N.inv fun u' s' I' r' => K u' s' H ι ⟨I', N.rel, N.st⟩ .refl ⟨_, r', q _ _⟩
theorem i_bin {op : Operator} {f : IV -> IV -> IH -> Res IV} (ho : OpI ce X (binaryOp op) f) (ha : PEi ce X a ma) (hb : PEi ce X b mb) : PEi ce X (.BinOp a op b pos) (eBin f ma mb) :=
 fun pins s σ H ι σi h Q E N K => wpAny_BinOp (ha.run N K fun x h1 u s1 H1 ι1 N1 n1 r1 K1 => hb.run N1 K1 fun y h2 w s2 H2 ι2 N2 n2 r2 K2 => ho pins s2 σ H2 ι2 σi h2 x y u w Q E N2 (r1.mono n2) r2 K2)
theorem i_un {op : UnaryOp} {f : IV -> IH -> Res IV} (ho : UnI ce X (unaryOp op) f) (ha : PEi ce X a ma) : PEi ce X (.UnaryOp op a pos) (eUn f ma) :=
 fun pins s σ H ι σi h Q E N K => UnaryOp_ (ha.run N K fun x h1 u s1 H1 ι1 N1 n1 r1 K1 => ho pins s1 σ H1 ι1 σi h1 x u Q E N1 r1 K1)
theorem i_cmp {op : CmpOp} {f : IV -> IV -> IH -> Res IV} (ho : OpI ce X (compareOp op) f) (ha : PEi ce X a ma) (hb : PEi ce X b mb) (hm : behindInMarks op b = false := by assumption) : PEi ce X (.Compare a [op] [b] pos) (eBin f ma mb) :=
 fun pins s σ H ι σi h Q E N K => wpAny_Compare1 (ha.run N K fun x h1 u s1 H1 ι1 N1 n1 r1 K1 => hb.run N1 K1 fun y h2 w s2 H2 ι2 N2 n2 r2 K2 => ho pins s2 σ H2 ι2 σi h2 x y u w Q E N2 (r1.mono n2) r2 K2) hm
noncomputable def asB : IV -> IH -> Res Bool
 | .bl b, h => .ok b h
 | _, _ => .stuck
theorem Kont.asB {pins : List (Addr × Obj)} {σ : L2.St} {H : Hp} {ι : List Addr} {σi : ISt} {r : Res IV} {Q : Bool -> Shared -> Prop} {E : Value -> Shared -> Prop} (K : Kont ce X RB pins ι σi σ H (r.bind asB) Q E) :
  Kont ce X RU pins ι σi σ H r (fun v s => wpAny (model X.prog X.w) X.A (truthy v) Q E s) E := by
 cases r with
 | exc n h => exact K
 | stuck => exact K
 | ok v h =>
  intro u s' H' ι' N n q
  obtain ⟨x, rx, q⟩ := q
  cases v with
  | bl b =>
   have e : x = .bl b := q
   subst e
   cases rx
   exact wpAny_truthy_bool (K b s' H' ι' N n rfl)
  | _ => exact Zf K
theorem Res.bind_bind {α β γ : Type} (r : Res α) (f : α -> IH -> Res β) (g : β -> IH -> Res γ) : (r.bind f).bind g = r.bind fun x h => (f x h).bind g := by
 cases r <;> rfl
theorem t_cmp {op : CmpOp} {f : IV -> IV -> IH -> Res IV} (ho : OpI ce X (compareOp op) f) (ha : PEi ce X a ma) (hb : PEi ce X b mb) (hm : behindInMarks op b = false := by assumption) : PTi ce X (.Compare a [op] [b] pos) (tOfB asB (eBin f ma mb)) :=
 fun pins s σ H ι σi h Q E N K => by
  have K' : Kont ce X RB pins ι σi σ H ((ma σi h).bind fun x h1 => (mb σi h1).bind fun y h2 => (f x y h2).bind asB) Q E := by
   unfold tOfB eBin at K
   rw [Res.bind_bind] at K
   simp only [Res.bind_bind] at K
   exact K
  exact wpAny_isTrue_Compare1 (ha.run N K' fun x h1 u s1 H1 ι1 N1 n1 r1 K1 => hb.run N1 K1 fun y h2 w s2 H2 ι2 N2 n2 r2 K2 => ho pins s2 σ H2 ι2 σi h2 x y u w _ E N2 (r1.mono n2) r2 (Kont.asB K2)) hm
theorem J34 {tr : IV -> IH -> Res Bool} (ht : TrI ce X tr) (ha : PEi ce X a ma) (he : ∀ whole, isTrue a X.env whole = (do let v <- whole; standAt a.pos; holding [v] (truthy v)) := by intro _; rfl) : PTi ce X a (tOfB tr ma) :=
 fun pins s σ H ι σi h Q E N K => isTrue_plain (ha.run N K fun x h1 u s1 H1 ι1 N1 n1 r1 K1 => ht pins s1 σ H1 ι1 σi h1 x u Q E N1 r1 K1) (he _)
variable {rest : List Expr} {ta tb : T1}
theorem J2t (ha : PTi ce X a ta) : PWi ce X (.BoolOp .And [a] pos) ta := fun wh pins s σ H ι σi h Q E N K => by
 refine isTrue_and (ha pins s σ H ι σi h _ E N ?_)
 cases e : ta σi h with
 | ok v h' =>
  rw [e] at K
  intro u s' H' ι' N' n' r
  have r' : u = v := r
  subst r'
  cases u with
  | true => exact isTrue_and_nil (K true s' H' ι' N' n' rfl)
  | false => exact K false s' H' ι' N' n' rfl
 | exc n h' => rw [e] at K; exact K
 | stuck => rw [e] at K; exact K
theorem J5n (ha : PTi ce X a ta) : PWi ce X (.BoolOp .Or [a] pos) ta := fun wh pins s σ H ι σi h Q E N K => by
 refine isTrue_or (ha pins s σ H ι σi h _ E N ?_)
 cases e : ta σi h with
 | ok v h' =>
  rw [e] at K
  intro u s' H' ι' N' n' r
  have r' : u = v := r
  subst r'
  cases u with
  | false => exact isTrue_or_nil (K false s' H' ι' N' n' rfl)
  | true => exact K true s' H' ι' N' n' rfl
 | exc n h' => rw [e] at K; exact K
 | stuck => rw [e] at K; exact K
theorem J40 (ha : PTi ce X a ta) (hb : PWi ce X (.BoolOp .And (b :: rest) pos) tb) : PWi ce X (.BoolOp .And (a :: b :: rest) pos) (Jxd ta tb) := fun wh pins s σ H ι σi h Q E N K =>
 isTrue_and (ha.run N K fun c h1 u s1 H1 ι1 N1 n1 r1 K1 => by
  have r' : u = c := r1
  subst r'
  cases u with
  | true => exact hb wh pins s1 σ H1 ι1 σi h1 Q E N1 K1
  | false => exact K1 false s1 H1 ι1 N1 .refl rfl)
theorem tw_or (ha : PTi ce X a ta) (hb : PWi ce X (.BoolOp .Or (b :: rest) pos) tb) : PWi ce X (.BoolOp .Or (a :: b :: rest) pos) (tOrI ta tb) := fun wh pins s σ H ι σi h Q E N K =>
 isTrue_or (ha.run N K fun c h1 u s1 H1 ι1 N1 n1 r1 K1 => by
  have r' : u = c := r1
  subst r'
  cases u with
  | false => exact hb wh pins s1 σ H1 ι1 σi h1 Q E N1 K1
  | true => exact K1 true s1 H1 ι1 N1 .refl rfl)
theorem PWi.t (h : PWi ce X a ta) : PTi ce X a ta := h _
theorem t_not (ha : PTi ce X a ta) : PTi ce X (.UnaryOp .Not a pos) (Jc9 ta) := fun pins s σ H ι σi h Q E N K =>
 isTrue_not (ha.run N K fun c h1 u s1 H1 ι1 N1 n1 r1 K1 => by
  have r' : u = c := r1
  subst r'
  exact K1 (!u) s1 H1 ι1 N1 .refl rfl)
theorem J36 {op} (h : PEi ce X a ma) : PEi ce X (.BoolOp op [a] pos) ma := fun pins s σ H ι σi h' Q E N K => BoolOp_one (h pins s σ H ι σi h' Q E N K)
theorem i_and {tr : IV -> IH -> Res Bool} (ht : TrI ce X tr) (ha : PEi ce X a ma) (hb : PEi ce X (.BoolOp .And (b :: rest) pos) mb) : PEi ce X (.BoolOp .And (a :: b :: rest) pos) (eAnd ma mb tr) := fun pins s σ H ι σi h Q E N K =>
 BoolOp_and (ha.run N K fun x h1 u s1 H1 ι1 N1 n1 r1 K1 => by
  refine ht pins s1 σ H1 ι1 σi h1 x u _ E N1 r1 ?_
  cases e : tr x h1 with
  | ok c h2 =>
   rw [e] at K1
   intro d s2 H2 ι2 N2 n2 r2
   have r' : d = c := r2
   subst r'
   have K2 := Kont.mono (r := if d = true then mb σi h2 else .ok x h2) K1 n2
   cases d with
   | true => exact hb pins s2 σ H2 ι2 σi h2 Q E N2 K2
   | false => exact K2 u s2 H2 ι2 N2 .refl (r1.mono n2)
  | exc n h' => rw [e] at K1; exact K1
  | stuck => rw [e] at K1; exact K1)
theorem i_or {tr : IV -> IH -> Res Bool} (ht : TrI ce X tr) (ha : PEi ce X a ma) (hb : PEi ce X (.BoolOp .Or (b :: rest) pos) mb) : PEi ce X (.BoolOp .Or (a :: b :: rest) pos) (eOr ma mb tr) := fun pins s σ H ι σi h Q E N K =>
 BoolOp_or (ha.run N K fun x h1 u s1 H1 ι1 N1 n1 r1 K1 => by
  refine ht pins s1 σ H1 ι1 σi h1 x u _ E N1 r1 ?_
  cases e : tr x h1 with
  | ok c h2 =>
   rw [e] at K1
   intro d s2 H2 ι2 N2 n2 r2
   have r' : d = c := r2
   subst r'
   have K2 := Kont.mono (r := if d = true then .ok x h2 else mb σi h2) K1 n2
   cases d with
   | false => exact hb pins s2 σ H2 ι2 σi h2 Q E N2 K2
   | true => exact K2 u s2 H2 ι2 N2 .refl (r1.mono n2)
  | exc n h' => rw [e] at K1; exact K1
  | stuck => rw [e] at K1; exact K1)
noncomputable def Jtx (tr : IV -> IH -> Res Bool) : IV -> IH -> Res IV := fun x h => (tr x h).bind fun c h1 => .ok (.bl (!c)) h1
theorem J1n {tr : IV -> IH -> Res Bool} (ht : TrI ce X tr) : UnI ce X (unaryOp .Not) (Jtx tr) := fun pins s σ H ι σi h x v Q E N r K => by
 refine not_of (ht pins s σ H ι σi h x v _ E N r ?_)
 unfold Jtx at K
 cases e : tr x h with
 | ok c h2 =>
  rw [e] at K
  intro d s2 H2 ι2 N2 n2 r2
  have r' : d = c := r2
  subst r'
  exact K _ s2 H2 ι2 N2 n2 ⟨.bl (!d), rfl, rfl⟩
 | exc n h' => rw [e] at K; exact K
 | stuck => rw [e] at K; exact K
theorem J1q {t : Expr} {mt : T1} (ht : PTi ce X t mt) (ha : PEi ce X a ma) (hb : PEi ce X b mb) : PEi ce X (.IfExp t a b pos) (eIf mt ma mb) := fun pins s σ H ι σi h Q E N K =>
 wpAny_IfExp (ht.run N K fun c h1 u s1 H1 ι1 N1 n1 r1 K1 => by
  have r' : u = c := r1
  subst r'
  cases u with
  | true => exact ha pins s1 σ H1 ι1 σi h1 Q E N1 K1
  | false => exact hb pins s1 σ H1 ι1 σi h1 Q E N1 K1)
theorem J11 {op op' : CmpOp} {f g : IV -> IV -> IH -> Res IV} (ho : OpI ce X (compareOp op) f) (ho' : OpI ce X (compareOp op') g) (ha : PEi ce X a ma) (hb : PEi ce X b mb) (hc : PEi ce X c mc)
  (hm : lastMarks [op, op'] [b, c] = false := by with_unfolding_all rfl) : PEi ce X (.Compare a [op, op'] [b, c] pos) (Jgd f g ma mb mc) := fun pins s σ H ι σi h Q E N K =>
 Compare_chain (ha.run N K fun x h1 u s1 H1 ι1 N1 n1 r1 K1 => chain_link (hb.run N1 K1 fun y h2 w s2 H2 ι2 N2 n2 r2 K2 => by
  refine ho pins s2 σ H2 ι2 σi h2 x y u w _ E N2 (r1.mono n2) r2 ?_
  cases e : f x y h2 with
  | exc n h' => rw [e] at K2; exact K2
  | stuck => rw [e] at K2; exact K2
  | ok k h3 =>
   rw [e] at K2
   intro d s3 H3 ι3 N3 n3 r3
   obtain ⟨z, rz, q⟩ := r3
   cases k with
   | bl k =>
    have e' : z = .bl k := q
    subst e'
    cases rz
    refine wpAny_truthy_bool ?_
    have K3 := Kont.mono (r := match IV.bl k with | .bl true => (mc σi h3).bind fun z h4 => g y z h4 | .bl false => .ok (.bl false) h3 | _ => .stuck) K2 n3
    cases k with
    | false => exact ite_ff (K3 _ s3 H3 ι3 N3 .refl ⟨.bl false, rfl, rfl⟩)
    | true => exact ite_tt (chain_last (hc.run N3 K3 fun z h4 w' s4 H4 ι4 N4 n4 r4 K4 => ho' pins s4 σ H4 ι4 σi h4 y z w w' Q E N4 ((r2.mono n3).mono n4) r4 K4))
   | _ => exact Zf K2)) hm
theorem J2w {op op' : CmpOp} {f g : IV -> IV -> IH -> Res IV} (ho : OpI ce X (compareOp op) f) (ho' : OpI ce X (compareOp op') g) (ha : PEi ce X a ma) (hb : PEi ce X b mb) (hc : PEi ce X c mc)
  (hm : lastMarks [op, op'] [b, c] = false := by with_unfolding_all rfl) : PTi ce X (.Compare a [op, op'] [b, c] pos) (tOfB asB (Jgd f g ma mb mc)) := fun pins s σ H ι σi h Q E N K => by
 have K' : Kont ce X RB pins ι σi σ H ((ma σi h).bind fun x h1 => (mb σi h1).bind fun y h2 => (f x y h2).bind fun k h3 => (match k with | .bl true => (mc σi h3).bind fun z h4 => g y z h4 | .bl false => .ok (.bl false) h3 | _ => .stuck : Res IV).bind asB) Q E := by
  unfold tOfB Jgd at K
  rw [Res.bind_bind] at K
  simp only [Res.bind_bind] at K
  exact K
 refine isTrue_chain (ha.run N K' fun x h1 u s1 H1 ι1 N1 n1 r1 K1 => test_link (hb.run N1 K1 fun y h2 w s2 H2 ι2 N2 n2 r2 K2 => ?_)) hm
 refine ho pins s2 σ H2 ι2 σi h2 x y u w _ E N2 (r1.mono n2) r2 ?_
 cases e : f x y h2 with
 | exc n h' => rw [e] at K2; exact K2
 | stuck => rw [e] at K2; exact K2
 | ok k h3 =>
  rw [e] at K2
  intro d s3 H3 ι3 N3 n3 r3
  obtain ⟨z, rz, q⟩ := r3
  cases k with
  | bl k =>
   have e' : z = .bl k := q
   subst e'
   cases rz
   refine wpAny_truthy_bool ?_
   have K3 := Kont.mono (r := (match IV.bl k with | .bl true => (mc σi h3).bind fun z h4 => g y z h4 | .bl false => .ok (.bl false) h3 | _ => .stuck : Res IV).bind asB) K2 n3
   cases k with
   | false => exact ite_ff (K3 _ s3 H3 ι3 N3 .refl rfl)
   | true =>
    have K3' : Kont ce X RB pins ι3 σi σ H3 ((mc σi h3).bind fun z h4 => (g y z h4).bind asB) Q E := by
     have := K3
     dsimp only at this
     rw [Res.bind_bind] at this
     exact this
    exact ite_tt (test_last (hc.run N3 K3' fun z h4 w' s4 H4 ι4 N4 n4 r4 K4 => ho' pins s4 σ H4 ι4 σi h4 y z w w' _ E N4 ((r2.mono n3).mono n4) r4 (Kont.asB K4)))
  | _ => exact Zf K2
variable {es : List Expr} {mr : A1}
theorem RUs.nil {K : W.Frag} {ι : List Addr} {H : Hp} : RUs K ι H [] [] := ⟨[], .nil, rfl⟩
theorem RUs.cons {K : W.Frag} {ι : List Addr} {H : Hp} {x : IV} {u : Value} {xs : List IV} {us : List Value} (a : RU K ι H x u) (b : RUs K ι H xs us) : RUs K ι H (x :: xs) (u :: us) :=
 let ⟨v, r, q⟩ := a; let ⟨vs, rs, qs⟩ := b; ⟨v :: vs, .cons r rs, v, vs, rfl, q, qs⟩
theorem Jnp : PAi ce X [] aNil := fun _ pins s σ H ι σi h Q E N K => Calls.spliced_nil (K [] s H ι N .refl .nil)
theorem Jg4 (ha : PEi ce X a ma) (hr : PAi ce X es mr) (hs : starEach (a :: es) X.env = (false, eval a X.env) :: starEach es X.env := by rfl) : PAi ce X (a :: es) (Ja ma mr) := by
 intro pos pins s σ H ι σi h Q E N K
 rw [hs]
 show wpAny _ _ (spliced ((false, eval a X.env) :: backTo pos (starEach es X.env))) _ _ s
 exact Calls.spliced_cons (ha.run N K fun x h1 u s1 H1 ι1 N1 n1 r1 K1 => (hr pos).run N1 K1 fun xs h2 us s2 H2 ι2 N2 n2 r2 K2 => K2 _ s2 H2 ι2 N2 .refl (.cons (r1.mono n2) r2))
end
end L3
namespace L3
open PySem PySem.Spec PyProof.Rows L2
noncomputable def Jal : IV -> IV -> IH -> Res IV
 | .int i, .int j, h => .ok (.int (i + j)) h
 | .str x, .str y, h => if x.length + y.length <= sizeLine then .ok (.str (x ++ y)) h else .stuck
 | .ref i, .ref j, h => match h[i]?, h[j]? with
  | some (.lst xs), some (.lst ys) => if xs.length + ys.length <= sizeLine then .ok (.ref h.length) (h ++ [.lst (xs ++ ys)]) else .stuck
  | _, _ => .stuck
 | .tup xs, .tup ys, h => if xs ≠ [] /\ ys ≠ [] /\ xs.length + ys.length <= sizeLine then .ok (.tup (xs ++ ys)) h else .stuck
 | _, _, _ => .stuck
noncomputable def Jl6 : IV -> IV -> IH -> Res IV
 | .int i, .int j, h => .ok (.int (i - j)) h
 | _, _, _ => .stuck
noncomputable def Jat (i j : Int) : Prop := i.natAbs < 2 ^ 64 ∨ j.natAbs < 2 ^ 64 ∨ (i.natAbs.log2 < 1048576 /\ j.natAbs.log2 < 1048576)
noncomputable instance (i j : Int) : Decidable (Jat i j) := by unfold Jat; exact inferInstance
noncomputable def Jua : IV -> IV -> IH -> Res IV
 | .int i, .int j, h => if Jat i j then .ok (.int (i * j)) h else .stuck
 | .ref i, .int k, h => match h[i]? with
  | some (.lst xs) => if -(2 ^ 63) <= k /\ k < 2 ^ 63 /\ xs.length * k.toNat <= sizeLine then .ok (.ref h.length) (h ++ [.lst (List.replicate k.toNat xs).flatten]) else .stuck
  | _ => .stuck
 | _, _, _ => .stuck
noncomputable def Ja8 : IV -> IV -> IH -> Res IV
 | .int i, .int j, h => if 0 < j /\ j.natAbs.log2 < 9000 then .ok (.int (i / j)) h else .stuck
 | _, _, _ => .stuck
noncomputable def Jbf : IV -> IV -> IH -> Res IV
 | .int i, .int j, h => if 0 < j then .ok (.int (i % j)) h else .stuck
 | _, _, _ => .stuck
noncomputable def Jph : IV -> IV -> IH -> Res IV
 | .int i, .int j, h => if 0 <= j /\ j <= 1000000 /\ i.natAbs < 2 ^ 64 then .ok (.int (i ^ j.toNat)) h else .stuck
 | _, _, _ => .stuck
noncomputable def J2q : IV -> IH -> Res IV
 | .int i, h => .ok (.int (-i)) h
 | _, _ => .stuck
section
variable {ce : Str -> Option Addr} {X : Cx}
theorem fin0 {pins : List (Addr × Obj)} {s : Shared} {σ : L2.St} {H : Hp} {ι : List Addr} {σi : ISt} {h : IH} {v : IV} {w : V} {Q : Value -> Shared -> Prop} {E : Value -> Shared -> Prop} (N : Now ce X pins ι σi h σ H s) (K : Kont ce X RU pins ι σi σ H (.ok v h) Q E)
  (q : RV X.K ι H v w) : ∀ u s', Inv X pins σ H s' -> RelV w u -> Q u s' := fun u s' I r => K u s' H ι ⟨I, N.rel, N.st⟩ .refl ⟨w, r, q⟩
theorem finA {pins : List (Addr × Obj)} {s : Shared} {σ : L2.St} {H : Hp} {ι : List Addr} {σi : ISt} {h : IH} {io : IO} {o : HO} {Q : Value -> Shared -> Prop} {E : Value -> Shared -> Prop} (N : Now ce X pins ι σi h σ H s)
  (K : Kont ce X RU pins ι σi σ H (.ok (.ref h.length) (h ++ [io])) Q E) (l : Addr) (e : H l = none) (r : RO ce X.K (ι ++ [l]) (upd H l o) l io) : ∀ u s', Inv X pins σ (upd H l o) s' -> RelV (.ref l) u -> Q u s' := fun u s' I ru => by
 obtain ⟨R, n⟩ := N.rel.alloc e r
 refine K u s' _ _ ⟨I, R, N.st.mono n⟩ n ⟨.ref l, ru, l, rfl, ?_⟩
 rw [<- N.rel.len, List.getElem?_append_right (Nat.le_refl _)]
 simp
theorem finT {pins : List (Addr × Obj)} {s : Shared} {σ : L2.St} {H : Hp} {ι : List Addr} {σi : ISt} {h : IH} {xs : List IV} {vs : List V} {Q : Value -> Shared -> Prop} {E : Value -> Shared -> Prop} (N : Now ce X pins ι σi h σ H s)
  (K : Kont ce X RU pins ι σi σ H (.ok (.tup xs) h) Q E) (l : Addr) (e : H l = none) (r : RVs X.K ι H xs vs) : ∀ u s', Inv X pins σ (upd H l (.tup vs)) s' -> RelV (.ref l) u -> Q u s' := fun u s' I ru => by
 obtain ⟨R, n⟩ := N.rel.grow (o := .tup vs) e
 exact K u s' _ _ ⟨I, R, N.st.mono n⟩ n ⟨.ref l, ru, l, vs, rfl, SqT.of Jk, RVs.mono n _ _ r⟩
theorem RVs.new {K : W.Frag} {ι : List Addr} {H : Hp} {l : Addr} {o : HO} (e : H l = none) {xs : List IV} {vs : List V} (r : RVs K ι H xs vs) : RVs K (ι ++ [l]) (upd H l o) xs vs := RVs.mono ⟨⟨[l], rfl⟩, Ext.upd_new e⟩ _ _ r
theorem Now.at {pins : List (Addr × Obj)} {s : Shared} {σ : L2.St} {H : Hp} {ι : List Addr} {σi : ISt} {h : IH} (N : Now ce X pins ι σi h σ H s) {i : Nat} {o : IO} (e : h[i]? = some o) {a : Addr} (ha : ι[i]? = some a) : RO ce X.K ι H a o := by
 obtain ⟨b, e1, r⟩ := N.rel.at_ i o e
 rw [ha] at e1
 cases e1
 exact r
theorem o_add : OpI ce X (binaryOp .Add) Jal := by
 intro pins s σ H ι σi h x y v u Q E N rx ry K
 obtain ⟨xv, rx, qx⟩ := rx
 obtain ⟨yv, ry, qy⟩ := ry
 cases x with
 | int i =>
  cases y with
  | int j =>
   have e1 : xv = .int i := qx
   have e2 : yv = .int j := qy
   subst e1 e2
   exact Jbq (J4m (X := X.wish E)) N.inv rx ry ⟨i, j, rfl, rfl, fin0 N K rfl⟩
  | _ => exact Zf K
 | str i =>
  cases y with
  | str j =>
   have e1 : xv = .str i := qx
   have e2 : yv = .str j := qy
   subst e1 e2
   dsimp only [Jal] at K
   split at K
   ·rename_i hz
    exact Jbq (Jun (X := X.wish E)) N.inv rx ry ⟨i, j, rfl, rfl, hz, fin0 N K rfl⟩
   ·exact Zf K
  | _ => exact Zf K
 | tup xs =>
  cases y with
  | tup ys =>
   obtain ⟨a, vs, e1, sa, ra⟩ := qx
   obtain ⟨b, ws, e2, sb, rb⟩ := qy
   subst e1 e2
   dsimp only [Jal] at K
   split at K
   ·rename_i hz
    obtain ⟨h1, h2, h3⟩ := hz
    have n1 : vs ≠ [] := fun z => h1 (by have := ra.length; rw [z] at this; exact List.eq_nil_of_length_eq_zero this.symm)
    have n2 : ws ≠ [] := fun z => h2 (by have := rb.length; rw [z] at this; exact List.eq_nil_of_length_eq_zero this.symm)
    exact Jbq (J2a (X := X.wish E)) N.inv rx ry ⟨a, b, vs, ws, rfl, rfl, sa, sb, n1, by rw [ra.length, rb.length]; exact h3, fun z => absurd z n2, fun _ p hp => finT N K p hp (ra.append rb)⟩
   ·exact Zf K
  | _ => exact Zf K
 | ref i =>
  cases y with
  | ref j =>
   obtain ⟨a, e1, ha⟩ := qx
   obtain ⟨b, e2, hb⟩ := qy
   subst e1 e2
   dsimp only [Jal] at K
   cases hi : h[i]? with
   | none => rw [hi] at K; exact Zf K
   | some oi =>
    cases hj : h[j]? with
    | none => rw [hi, hj] at K; cases oi <;> exact Zf K
    | some oj =>
     rw [hi, hj] at K
     cases oi with
     | lst xs =>
      cases oj with
      | lst ys =>
       dsimp only at K
       split at K
       ·rename_i hz
        obtain ⟨vs, e1, r1⟩ := N.at hi ha
        obtain ⟨ws, e2, r2⟩ := N.at hj hb
        exact Jbq (J49 (X := X.wish E)) N.inv rx ry ⟨a, b, vs, ws, rfl, rfl, e1, e2, by rw [r1.length, r2.length]; exact hz, fun p hp => finA N K p hp ⟨_, Jk, RVs.new hp (r1.append r2)⟩⟩
       ·exact Zf K
      | _ => exact Zf K
     | _ => exact Zf K
  | _ => exact Zf K
 | _ => cases y <;> exact Zf K
theorem o_sub : OpI ce X (binaryOp .Sub) Jl6 := by
 intro pins s σ H ι σi h x y v u Q E N rx ry K
 obtain ⟨xv, rx, qx⟩ := rx
 obtain ⟨yv, ry, qy⟩ := ry
 cases x with
 | int i =>
  cases y with
  | int j =>
   have e1 : xv = .int i := qx
   have e2 : yv = .int j := qy
   subst e1 e2
   exact Jbq (J4j (X := X.wish E)) N.inv rx ry ⟨i, j, rfl, rfl, fin0 N K rfl⟩
  | _ => exact Zf K
 | _ => cases y <;> exact Zf K
theorem Jat.ok {i j : Int} (h : Jat i j) : IntMulOk i j := by
 rcases h with h | h | ⟨h1, h2⟩
 ·exact .of_left (intBits_le_64 (by omega) (by omega))
 ·exact .of_right (intBits_le_64 (by omega) (by omega))
 ·refine .of_bits ?_ ?_
  ·unfold Builtin.Int.intBits
   split
   ·exact Nat.zero_le _
   ·have : (2 : Nat) ^ 20 = 1048576 := by decide
    omega
  ·unfold Builtin.Int.intBits
   split
   ·exact Nat.zero_le _
   ·have : (2 : Nat) ^ 20 = 1048576 := by decide
    omega
theorem J2l : OpR X (binaryOp .Mult) (rI Jat fun i j => .int (i * j)) := opI fun _ _ _ _ _ _ _ hc q => mul_int q hc.ok
theorem o_mul : OpI ce X (binaryOp .Mult) Jua := by
 intro pins s σ H ι σi h x y v u Q E N rx ry K
 obtain ⟨xv, rx, qx⟩ := rx
 obtain ⟨yv, ry, qy⟩ := ry
 cases x with
 | int i =>
  cases y with
  | int j =>
   have e1 : xv = .int i := qx
   have e2 : yv = .int j := qy
   subst e1 e2
   dsimp only [Jua] at K
   split at K
   ·rename_i hz
    exact Jbq (J2l (X := X.wish E)) N.inv rx ry ⟨i, j, rfl, rfl, hz, fin0 N K rfl⟩
   ·exact Zf K
  | _ => exact Zf K
 | ref i =>
  cases y with
  | int k =>
   obtain ⟨a, e1, ha⟩ := qx
   have e2 : yv = .int k := qy
   subst e1 e2
   dsimp only [Jua] at K
   cases hi : h[i]? with
   | none => rw [hi] at K; exact Zf K
   | some oi =>
    rw [hi] at K
    cases oi with
    | lst xs =>
     dsimp only at K
     split at K
     ·rename_i hz
      obtain ⟨vs, e1, r1⟩ := N.at hi ha
      have rr : ∀ n : Nat, RVs X.K ι H (List.replicate n xs).flatten (List.replicate n vs).flatten := fun n => by
       induction n with
       | zero => exact rfl
       | succ n ih =>
        rw [List.replicate_succ, List.replicate_succ, List.flatten_cons, List.flatten_cons]
        exact r1.append ih
      exact Jbq (J24 (X := X.wish E)) N.inv rx ry ⟨a, k, vs, rfl, rfl, e1, hz.1, hz.2.1, by rw [r1.length]; exact hz.2.2, fun p hp => finA N K p hp ⟨_, Jk, RVs.new hp (rr _)⟩⟩
     ·exact Zf K
    | _ => exact Zf K
  | _ => exact Zf K
 | _ => cases y <;> exact Zf K
theorem Jyn : OpR X (binaryOp .FloorDiv) (rI (fun _ j => 0 < j /\ j.natAbs.log2 < 9000) fun i j => .int (i / j)) := opI fun i j _ _ _ _ _ hc q => by
 have h1 : (0 : Int) < j := hc.1
 exact floordiv_int (by omega) (by rw [Int.fdiv_eq_ediv_of_nonneg i (by omega)]; exact q) (.inl (PyProof.noPylong_of_log2 hc.2))
theorem J20 : OpI ce X (binaryOp .FloorDiv) Ja8 := by
 intro pins s σ H ι σi h x y v u Q E N rx ry K
 obtain ⟨xv, rx, qx⟩ := rx
 obtain ⟨yv, ry, qy⟩ := ry
 cases x with
 | int i =>
  cases y with
  | int j =>
   have e1 : xv = .int i := qx
   have e2 : yv = .int j := qy
   subst e1 e2
   dsimp only [Ja8] at K
   split at K
   ·rename_i hz
    exact Jbq (Jyn (X := X.wish E)) N.inv rx ry ⟨i, j, rfl, rfl, hz, fin0 N K rfl⟩
   ·exact Zf K
  | _ => exact Zf K
 | _ => cases y <;> exact Zf K
theorem o_mod : OpI ce X (binaryOp .Mod) Jbf := by
 intro pins s σ H ι σi h x y v u Q E N rx ry K
 obtain ⟨xv, rx, qx⟩ := rx
 obtain ⟨yv, ry, qy⟩ := ry
 cases x with
 | int i =>
  cases y with
  | int j =>
   have e1 : xv = .int i := qx
   have e2 : yv = .int j := qy
   subst e1 e2
   dsimp only [Jbf] at K
   split at K
   ·rename_i hz
    exact Jbq (J4e (X := X.wish E)) N.inv rx ry ⟨i, j, rfl, rfl, hz, fin0 N K rfl⟩
   ·exact Zf K
  | _ => exact Zf K
 | _ => cases y <;> exact Zf K
theorem o_pow : OpI ce X (binaryOp .Pow) Jph := by
 intro pins s σ H ι σi h x y v u Q E N rx ry K
 obtain ⟨xv, rx, qx⟩ := rx
 obtain ⟨yv, ry, qy⟩ := ry
 cases x with
 | int i =>
  cases y with
  | int j =>
   have e1 : xv = .int i := qx
   have e2 : yv = .int j := qy
   subst e1 e2
   dsimp only [Jph] at K
   split at K
   ·rename_i hz
    exact Jbq (J3w (X := X.wish E)) N.inv rx ry ⟨i, j, rfl, rfl, hz, fin0 N K rfl⟩
   ·exact Zf K
  | _ => exact Zf K
 | _ => cases y <;> exact Zf K
theorem u_neg : UnI ce X (unaryOp .USub) J2q := by
 intro pins s σ H ι σi h x v Q E N rx K
 obtain ⟨xv, rx, qx⟩ := rx
 cases x with
 | int i =>
  have e1 : xv = .int i := qx
  subst e1
  exact J3r (J5i (X := X.wish E)) N.inv rx ⟨i, rfl, fin0 N K rfl⟩
 | _ => exact Zf K
noncomputable def cLt : IV -> IV -> IH -> Res IV
 | .int i, .int j, h => .ok (.bl (decide (i < j))) h
 | .str x, .str y, h => .ok (.bl (decide (x.cps.toList < y.cps.toList))) h
 | _, _, _ => .stuck
noncomputable def cLe : IV -> IV -> IH -> Res IV
 | .int i, .int j, h => .ok (.bl (decide (i <= j))) h
 | .str x, .str y, h => .ok (.bl (!decide (y.cps.toList < x.cps.toList))) h
 | _, _, _ => .stuck
noncomputable def cGt : IV -> IV -> IH -> Res IV
 | .int i, .int j, h => .ok (.bl (decide (j < i))) h
 | _, _, _ => .stuck
noncomputable def cGe : IV -> IV -> IH -> Res IV
 | .int i, .int j, h => .ok (.bl (decide (j <= i))) h
 | _, _, _ => .stuck
theorem o_lt : OpI ce X (compareOp .Lt) cLt := by
 intro pins s σ H ι σi h x y v u Q E N rx ry K
 obtain ⟨xv, rx, qx⟩ := rx
 obtain ⟨yv, ry, qy⟩ := ry
 cases x with
 | int i =>
  cases y with
  | int j =>
   have e1 : xv = .int i := qx
   have e2 : yv = .int j := qy
   subst e1 e2
   exact Jbq (op_lt (X := X.wish E)) N.inv rx ry ⟨i, j, rfl, rfl, fin0 N K rfl⟩
  | _ => exact Zf K
 | str i =>
  cases y with
  | str j =>
   have e1 : xv = .str i := qx
   have e2 : yv = .str j := qy
   subst e1 e2
   exact Jbq (Jwc (X := X.wish E)) N.inv rx ry ⟨i, j, rfl, rfl, fin0 N K rfl⟩
  | _ => exact Zf K
 | _ => cases y <;> exact Zf K
theorem o_le : OpI ce X (compareOp .LtE) cLe := by
 intro pins s σ H ι σi h x y v u Q E N rx ry K
 obtain ⟨xv, rx, qx⟩ := rx
 obtain ⟨yv, ry, qy⟩ := ry
 cases x with
 | int i =>
  cases y with
  | int j =>
   have e1 : xv = .int i := qx
   have e2 : yv = .int j := qy
   subst e1 e2
   exact Jbq (op_le (X := X.wish E)) N.inv rx ry ⟨i, j, rfl, rfl, fin0 N K rfl⟩
  | _ => exact Zf K
 | str i =>
  cases y with
  | str j =>
   have e1 : xv = .str i := qx
   have e2 : yv = .str j := qy
   subst e1 e2
   obtain ⟨t, rfl⟩ := rx
   obtain ⟨t', rfl⟩ := ry
   exact PySem.P.le_str (fin0 N K rfl _ s N.inv rfl)
  | _ => exact Zf K
 | _ => cases y <;> exact Zf K
theorem o_gt : OpI ce X (compareOp .Gt) cGt := by
 intro pins s σ H ι σi h x y v u Q E N rx ry K
 obtain ⟨xv, rx, qx⟩ := rx
 obtain ⟨yv, ry, qy⟩ := ry
 cases x with
 | int i =>
  cases y with
  | int j =>
   have e1 : xv = .int i := qx
   have e2 : yv = .int j := qy
   subst e1 e2
   exact Jbq (op_gt (X := X.wish E)) N.inv rx ry ⟨i, j, rfl, rfl, fin0 N K rfl⟩
  | _ => exact Zf K
 | _ => cases y <;> exact Zf K
theorem o_ge : OpI ce X (compareOp .GtE) cGe := by
 intro pins s σ H ι σi h x y v u Q E N rx ry K
 obtain ⟨xv, rx, qx⟩ := rx
 obtain ⟨yv, ry, qy⟩ := ry
 cases x with
 | int i =>
  cases y with
  | int j =>
   have e1 : xv = .int i := qx
   have e2 : yv = .int j := qy
   subst e1 e2
   exact Jbq (op_ge (X := X.wish E)) N.inv rx ry ⟨i, j, rfl, rfl, fin0 N K rfl⟩
  | _ => exact Zf K
 | _ => cases y <;> exact Zf K
noncomputable def tru : IV -> IH -> Res Bool
 | .non, h => .ok false h
 | .bl b, h => .ok b h
 | .int i, h => .ok (i != 0) h
 | .str x, h => if x.length <= sizeLine then .ok ((x.length : Int) != 0) h else .stuck
 | .tup xs, h => .ok (!xs.isEmpty) h
 | .rol xs, h => .ok (!xs.isEmpty) h
 | .ref i, h => match h[i]? with
  | some (.lst xs) => .ok (!xs.isEmpty) h
  | some (.dct kvs) => .ok (!kvs.isEmpty) h
  | _ => .stuck
theorem RVs.empty {K : W.Frag} {ι : List Addr} {H : Hp} {xs : List IV} {vs : List V} (r : RVs K ι H xs vs) : vs.isEmpty = xs.isEmpty := by
 have := r.length
 cases xs <;> cases vs <;> simp_all
theorem RPs.empty {κ : Type} {K : W.Frag} {ι : List Addr} {H : Hp} {xs : List (κ × IV)} {vs : List (κ × V)} (r : RPs K ι H xs vs) : vs.isEmpty = xs.isEmpty := by
 have := r.length
 cases xs <;> cases vs <;> simp_all
theorem finB {pins : List (Addr × Obj)} {s : Shared} {σ : L2.St} {H : Hp} {ι : List Addr} {σi : ISt} {h : IH} {c : Bool} {Q : Bool -> Shared -> Prop} {E : Value -> Shared -> Prop} (N : Now ce X pins ι σi h σ H s) (K : Kont ce X RB pins ι σi σ H (.ok c h) Q E) :
  ∀ s', Inv X pins σ H s' -> Q c s' := fun s' I => K c s' H ι ⟨I, N.rel, N.st⟩ .refl rfl
theorem Jqh : TrI ce X tru := by
 intro pins s σ H ι σi h x v Q E N rx K
 obtain ⟨xv, rx, qx⟩ := rx
 cases x with
 | non =>
  have e1 : xv = .non := qx
  subst e1
  exact Jf7 (Jjz (X := X.wish E)) N.inv rx ⟨_, rfl, finB N K⟩
 | bl b =>
  have e1 : xv = .bl b := qx
  subst e1
  exact Jf7 (Jjz (X := X.wish E)) N.inv rx ⟨_, rfl, finB N K⟩
 | int i =>
  have e1 : xv = .int i := qx
  subst e1
  exact Jf7 (Jjz (X := X.wish E)) N.inv rx ⟨_, rfl, finB N K⟩
 | str y =>
  have e1 : xv = .str y := qx
  subst e1
  dsimp only [tru] at K
  split at K
  ·rename_i hz
   exact Jf7 (Jjz (X := X.wish E)) N.inv rx ⟨_, ⟨hz, rfl⟩, finB N K⟩
  ·exact Zf K
 | tup xs =>
  obtain ⟨a, vs, e1, sa, ra⟩ := qx
  subst e1
  exact Jf7 (Jjz (X := X.wish E)) N.inv rx ⟨!xs.isEmpty, .inr (.inl ⟨vs, sa, by rw [ra.empty]⟩), finB N K⟩
 | rol xs =>
  obtain ⟨a, vs, e1, sa, ra⟩ := qx
  subst e1
  exact Jf7 (Jjz (X := X.wish E)) N.inv rx ⟨!xs.isEmpty, .inl ⟨vs, sa.sq, by rw [ra.empty]⟩, finB N K⟩
 | ref i =>
  obtain ⟨a, e1, ha⟩ := qx
  subst e1
  dsimp only [tru] at K
  cases hi : h[i]? with
  | none => rw [hi] at K; exact Zf K
  | some oi =>
   rw [hi] at K
   cases oi with
   | lst xs =>
    obtain ⟨vs, e1, r1⟩ := N.at hi ha
    exact Jf7 (Jjz (X := X.wish E)) N.inv rx ⟨!xs.isEmpty, .inl ⟨vs, SqL.of e1, by rw [r1.empty]⟩, finB N K⟩
   | dct kvs =>
    obtain ⟨vs, e1, r1⟩ := N.at hi ha
    exact Jf7 (Jjz (X := X.wish E)) N.inv rx ⟨!kvs.isEmpty, .inr (.inr ⟨vs, e1, by rw [r1.empty]⟩), finB N K⟩
   | _ => exact Zf K
noncomputable def eTup (a : A1) : E1 := fun σ h => (a σ h).bind fun xs h1 => if xs.length <= sizeLine then .ok (.tup xs) h1 else .stuck
noncomputable def eLst (a : A1) : E1 := fun σ h => (a σ h).bind fun xs h1 => if xs.length <= sizeLine then .ok (.ref h1.length) (h1 ++ [.lst xs]) else .stuck
variable {es : List Expr} {mr : A1} {pos : Pos}
theorem i_tup {x1} (hr : PAi ce X es mr) : PEi ce X (.Tuple es x1 pos) (eTup mr) := fun pins s σ H ι σi h Q E N K => by
 refine wpAny_Tuple_spliced ((hr pos).run N K fun xs h1 us s1 H1 ι1 N1 n1 r1 K1 => ?_)
 change Kont ce X RU pins ι1 σi σ H1 (if xs.length <= sizeLine then _ else _) Q E at K1
 split at K1
 ·rename_i hz
  obtain ⟨vs, rv, qs⟩ := r1
  have hl := rv.length
  have hl2 := qs.length
  have hf : H1 s1.heap.objs.size = none := N1.inv.hok.fresh (Nat.le_refl _)
  refine ⟨by rw [<- hl, hl2]; exact hz, ?_⟩
  exact finT N1 K1 s1.heap.objs.size hf qs _ _ (N1.inv.laid (t' := s1.toks) (fun b u e => Heap.get?_push_of_some _ e) (Nat.le_refl _) ⟨by rw [hl2]; exact hz, us, rv, ⟨_, Heap.get?_push_size _ rfl, rfl, _, rfl⟩⟩) rfl
 ·exact Zf K1
theorem i_lst (hr : PAi ce X es mr) : PEi ce X (.List es pos) (eLst mr) := fun pins s σ H ι σi h Q E N K => by
 refine wpAny_List_spliced ((hr pos).run N K fun xs h1 us s1 H1 ι1 N1 n1 r1 K1 => ?_)
 change Kont ce X RU pins ι1 σi σ H1 (if xs.length <= sizeLine then _ else _) Q E at K1
 split at K1
 ·rename_i hz
  obtain ⟨vs, rv, qs⟩ := r1
  have hl := rv.length
  have hl2 := qs.length
  have hf : H1 s1.heap.objs.size = none := N1.inv.hok.fresh (Nat.le_refl _)
  refine ⟨by rw [<- hl, hl2]; exact hz, ?_⟩
  exact finA N1 K1 s1.heap.objs.size hf ⟨_, Jk, RVs.new hf qs⟩ _ _ (N1.inv.laid (t' := s1.toks) (fun b u e => Heap.get?_push_of_some _ e) (Nat.le_refl _) ⟨by rw [hl2]; exact hz, us, 0, rv, Heap.get?_push_size _ rfl⟩) rfl
 ·exact Zf K1
end
end L3
namespace L3
open PySem PySem.Spec PyProof.Rows L2
noncomputable abbrev S1 := ISt -> IH -> SRes
noncomputable def Jdr (ce : Str -> Option Addr) (X : Cx) (pins : List (Addr × Obj)) (ι : List Addr) (H : Hp) (r : SRes) (Q : Flow -> Shared -> Prop) (E : Value -> Shared -> Prop) : Prop :=
 match r with
 | .next σi' h' => ∀ s' σ' H' ι', Now ce X pins ι' σi' h' σ' H' s' -> Nxt ι H ι' H' -> Q .next s'
 | .brk σi' h' => ∀ s' σ' H' ι', Now ce X pins ι' σi' h' σ' H' s' -> Nxt ι H ι' H' -> Q .brk s'
 | .cont σi' h' => ∀ s' σ' H' ι', Now ce X pins ι' σi' h' σ' H' s' -> Nxt ι H ι' H' -> Q .cont s'
 | .ret v h' => ∀ u s' σi' σ' H' ι', Now ce X pins ι' σi' h' σ' H' s' -> Nxt ι H ι' H' -> RU X.K ι' H' v u -> Q (.ret u) s'
 | .exc n σi' h' => ∀ pl a s' σ' H' ι', Now ce X (pins ++ pl) ι' σi' h' σ' H' s' -> Nxt ι H ι' H' -> ι'[n]? = some a -> E (.ref a) s'
 | .stuck => False
theorem Jdr.mono {ce : Str -> Option Addr} {X : Cx} {pins : List (Addr × Obj)} {ι ι' : List Addr} {H H' : Hp} {r : SRes} {Q : Flow -> Shared -> Prop} {E : Value -> Shared -> Prop} (k : Jdr ce X pins ι H r Q E) (n : Nxt ι H ι' H') : Jdr ce X pins ι' H' r Q E := by
 cases r with
 | next σ h => exact fun s' σ' H2 ι2 N n2 => k s' σ' H2 ι2 N (n.trans n2)
 | brk σ h => exact fun s' σ' H2 ι2 N n2 => k s' σ' H2 ι2 N (n.trans n2)
 | cont σ h => exact fun s' σ' H2 ι2 N n2 => k s' σ' H2 ι2 N (n.trans n2)
 | ret v h => exact fun u s' σi' σ' H2 ι2 N n2 => k u s' σi' σ' H2 ι2 N (n.trans n2)
 | exc m σ h => exact fun pl a s' σ' H2 ι2 N n2 => k pl a s' σ' H2 ι2 N (n.trans n2)
 | stuck => exact k
noncomputable def PSi (ce : Str -> Option Addr) (X : Cx) (t : Sem Flow) (m : S1) : Prop :=
 ∀ (pins : List (Addr × Obj)) (s : Shared) (σ : L2.St) (H : Hp) (ι : List Addr) (σi : ISt) (h : IH) (Q : Flow -> Shared -> Prop) (E : Value -> Shared -> Prop), Now ce X pins ι σi h σ H s -> Jdr ce X pins ι H (m σi h) Q E -> wpAny (model X.prog X.w) X.A t Q E s
noncomputable abbrev PS1 (ce : Str -> Option Addr) (X : Cx) (st : Stmt) (m : S1) : Prop := PSi ce X (exec st X.env) m
noncomputable abbrev PS2 (ce : Str -> Option Addr) (X : Cx) (sts : List Stmt) (m : S1) : Prop := PSi ce X (execs sts X.env) m
noncomputable def sNil : S1 := fun σ h => .next σ h
noncomputable def sSeq (a b : S1) : S1 := fun σ h => match a σ h with
 | .next σ' h' => b σ' h'
 | r => r
noncomputable def J2f : S1 := fun σ h => .next σ h
noncomputable def Jz9 : S1 := fun σ h => .brk σ h
noncomputable def J3p : S1 := fun σ h => .cont σ h
noncomputable def rS {α : Type} (σ : ISt) (r : Res α) (k : α -> IH -> SRes) : SRes := match r with
 | .ok a h => k a h
 | .exc n h => .exc n σ h
 | .stuck => .stuck
noncomputable def Jmi (e : E1) : S1 := fun σ h => rS σ (e σ h) fun _ h' => .next σ h'
noncomputable def sRet (e : E1) : S1 := fun σ h => rS σ (e σ h) fun v h' => .ret v h'
noncomputable def J2z : S1 := fun _ h => .ret .non h
noncomputable def sIf (t : T1) (a b : S1) : S1 := fun σ h => rS σ (t σ h) fun c h' => if c then a σ h' else b σ h'
noncomputable def sSet (i : Nat) (e : E1) : S1 := fun σ h => rS σ (e σ h) fun v h' => .next (σ.set i (some v)) h'
section
variable {ce : Str -> Option Addr} {X : Cx} {st : Stmt} {rest : List Stmt} {m m1 m2 : S1} {e : Expr} {me : E1} {pos : Pos}
theorem krun {α β : Type} {R : REL α β} {t : Sem β} {mm : ISt -> IH -> Res α} (p : PX ce X R t mm) {pins : List (Addr × Obj)} {s : Shared} {σ : L2.St} {H : Hp} {ι : List Addr} {σi : ISt} {h : IH} (N : Now ce X pins ι σi h σ H s) {g : α -> IH -> SRes} {Q : Flow -> Shared -> Prop} {E : Value -> Shared -> Prop} {Q1 : β -> Shared -> Prop}
  (K : Jdr ce X pins ι H (rS σi (mm σi h) g) Q E)
  (step : ∀ x h1 u s1 H1 ι1, Now ce X pins ι1 σi h1 σ H1 s1 -> Nxt ι H ι1 H1 -> R X.K ι1 H1 x u -> Jdr ce X pins ι1 H1 (g x h1) Q E -> Q1 u s1) : wpAny (model X.prog X.w) X.A t Q1 E s := by
 refine p pins s σ H ι σi h Q1 E N ?_
 cases e : mm σi h with
 | ok v h' =>
  rw [e] at K
  exact fun u s' H' ι' N' n' r => step v h' u s' H' ι' N' n' r (Jdr.mono (r := g v h') K n')
 | exc n h' =>
  rw [e] at K
  exact fun pl a s' H' ι' N' n' q => K pl a s' σ H' ι' N' n' q
 | stuck =>
  rw [e] at K
  exact K
theorem J28 : PS2 ce X [] sNil := fun _ s σ H ι _ _ _ _ N K => wpAny_execs_nil (K s σ H ι N .refl)
theorem J2j (h1 : PS1 ce X st m1) (h2 : PS2 ce X rest m2) : PS2 ce X (st :: rest) (sSeq m1 m2) := by
 intro pins s σ H ι σi h Q E N K
 refine wpAny_execs_cons (h1 pins s σ H ι σi h _ E N ?_)
 unfold sSeq at K
 cases e : m1 σi h with
 | next σ' h' =>
  rw [e] at K
  exact fun s' σ2 H' ι' N' n' => h2 pins s' σ2 H' ι' σ' h' Q E N' (Jdr.mono (r := m2 σ' h') K n')
 | brk σ' h' => rw [e] at K; exact K
 | cont σ' h' => rw [e] at K; exact K
 | ret v h' => rw [e] at K; exact K
 | exc n σ' h' => rw [e] at K; exact K
 | stuck => rw [e] at K; exact K
theorem J5d (h1 : PS1 ce X st m1) : PS2 ce X [st] m1 := by
 intro pins s σ H ι σi h Q E N K
 refine wpAny_execs_cons (h1 pins s σ H ι σi h _ E N ?_)
 cases e : m1 σi h with
 | next σ' h' =>
  rw [e] at K
  exact fun s' σ2 H' ι' N' n' => wpAny_execs_nil (K s' σ2 H' ι' N' n')
 | brk σ' h' => rw [e] at K; exact K
 | cont σ' h' => rw [e] at K; exact K
 | ret v h' => rw [e] at K; exact K
 | exc n σ' h' => rw [e] at K; exact K
 | stuck => rw [e] at K; exact K
theorem J4w : PS1 ce X (.Pass pos) J2f := fun _ s σ H ι _ _ _ _ N K => wpAny_Pass (K s σ H ι N .refl)
theorem J1e : PS1 ce X (.Break pos) Jz9 := fun _ s σ H ι _ _ _ _ N K => wpAny_Break (K s σ H ι N .refl)
theorem J45 : PS1 ce X (.Continue pos) J3p := fun _ s σ H ι _ _ _ _ N K => wpAny_Continue (K s σ H ι N .refl)
theorem J4y (he : PEi ce X e me) (hs : swapsWith e none pos.line X.env = pure false := by rfl) : PS1 ce X (.Expr e pos) (Jmi me) := fun pins s σ H ι σi h Q E N K =>
 wpAny_Expr_any (krun he N K fun x h1 u s1 H1 ι1 N1 n1 r1 K1 => K1 s1 σ H1 ι1 N1 .refl) N.inv.quiet hs
theorem s_ret (he : PEi ce X e me) : PS1 ce X (.Return (some e) pos) (sRet me) := fun pins s σ H ι σi h Q E N K =>
 wpAny_Return_some (krun he N K fun x h1 u s1 H1 ι1 N1 n1 r1 K1 => K1 u s1 σi σ H1 ι1 N1 .refl r1)
theorem J3f : PS1 ce X (.Return none pos) J2z := fun pins s σ H ι σi h Q E N K => wpAny_Return_none (K .none s σi σ H ι N .refl ⟨.non, rfl, rfl⟩)
theorem s_if {c : Expr} {a b : List Stmt} {mt : T1} (hc : PTi ce X c mt) (ha : PS2 ce X a m1) (hb : PS2 ce X b m2) : PS1 ce X (.If c a b pos) (sIf mt m1 m2) := fun pins s σ H ι σi h Q E N K =>
 wpAny_If (krun hc N K fun x h1 u s1 H1 ι1 N1 n1 r1 K1 => by
  have r' : u = x := r1
  subst r'
  cases u with
  | true => exact ha pins s1 σ H1 ι1 σi h1 Q E N1 K1
  | false => exact hb pins s1 σ H1 ι1 σi h1 Q E N1 K1)
theorem J3h {i : Nat} {x : Str} {pos' : Pos} (hN : X.N.Nodup) (he : PEi ce X e me) (hi : X.N[i]? = some x := by rfl) (hx : Loc X.env.scope x := by assumption) (hs : swapsWith e (some (.Name x pos')) pos.line X.env = pure false := by rfl)
  (hf : X.fn x = true ∨ X.env.scope.names.lookup x = some .local := by assumption) : PS1 ce X (.Assign [.Name x pos'] e pos) (sSet i me) := fun pins s σ H ι σi h Q E N K =>
 wpAny_Assign_Name (krun he N K fun v h1 u s1 H1 ι1 N1 n1 r1 K1 => by
  obtain ⟨w, rw', q⟩ := r1
  exact Joc N1.inv hN hi hx rw' (fun s2 I2 => K1 s2 _ H1 ι1 ⟨I2, N1.rel, N1.st.set i q⟩ .refl) hf) hs
noncomputable abbrev G1 := IV -> ISt -> IH -> SRes
noncomputable def PGi (ce : Str -> Option Addr) (X : Cx) (tg : Expr) (g : G1) : Prop :=
 ∀ (pins : List (Addr × Obj)) (s : Shared) (σ : L2.St) (H : Hp) (ι : List Addr) (σi : ISt) (h : IH) (v : IV) (u : Value) (Q : Flow -> Shared -> Prop) (E : Value -> Shared -> Prop), Now ce X pins ι σi h σ H s -> RU X.K ι H v u -> Jdr ce X pins ι H (g v σi h) Q E ->
  wpAny (model X.prog X.w) X.A (assign tg X.env u) (fun _ s' => Q .next s') E s
noncomputable def gNm (i : Nat) : G1 := fun v σ h => .next (σ.set i (some v)) h
theorem g_nm {i : Nat} {x : Str} (hN : X.N.Nodup) (hi : X.N[i]? = some x := by rfl) (hx : Loc X.env.scope x := by assumption) (hf : X.fn x = true ∨ X.env.scope.names.lookup x = some .local := by assumption) : PGi ce X (.Name x pos) (gNm i) := by
 intro pins s σ H ι σi h v u Q E N r K
 obtain ⟨w, rw', q⟩ := r
 exact wpAny_assign_Name (Joc N.inv hN hi hx rw' (fun s2 I2 => K s2 _ H ι ⟨I2, N.rel, N.st.set i q⟩ .refl) hf)
noncomputable def PGsi (ce : Str -> Option Addr) (X : Cx) (ts : List Expr) (g : List IV -> ISt -> IH -> SRes) : Prop :=
 ∀ (pins : List (Addr × Obj)) (s : Shared) (σ : L2.St) (H : Hp) (ι : List Addr) (σi : ISt) (h : IH) (vs : List IV) (us : List Value) (Q : Flow -> Shared -> Prop) (E : Value -> Shared -> Prop), Now ce X pins ι σi h σ H s -> RUs X.K ι H vs us -> Jdr ce X pins ι H (g vs σi h) Q E ->
  wpAny (model X.prog X.w) X.A (assignInOrder ((assignEach ts X.env).map (·.2)) us) (fun _ s' => Q .next s') E s
noncomputable def gN : List IV -> ISt -> IH -> SRes
 | [], σ, h => .next σ h
 | _ :: _, _, _ => .stuck
noncomputable def gC (g : G1) (r : List IV -> ISt -> IH -> SRes) : List IV -> ISt -> IH -> SRes
 | v :: vs, σ, h => match g v σ h with
  | .next σ' h' => r vs σ' h'
  | .exc n σ' h' => .exc n σ' h'
  | _ => .stuck
 | [], _, _ => .stuck
theorem J4q : PGsi ce X [] gN := by
 intro pins s σ H ι σi h vs us Q E N r K
 cases vs with
 | nil =>
  obtain ⟨xs, rv, q⟩ := r
  have e1 : xs = [] := q
  subst e1
  cases rv
  exact assignInOrder_nil (K s σ H ι N .refl)
 | cons v vs => exact Zf K
theorem J13 {tg : Expr} {ts : List Expr} {g : G1} {r : List IV -> ISt -> IH -> SRes} (h1 : PGi ce X tg g) (h2 : PGsi ce X ts r)
  (hs : (assignEach (tg :: ts) X.env).map (·.2) = assign tg X.env :: (assignEach ts X.env).map (·.2) := by rfl) : PGsi ce X (tg :: ts) (gC g r) := by
 intro pins s σ H ι σi h vs us Q E N ru K
 cases vs with
 | nil => exact Zf K
 | cons v vs =>
  obtain ⟨xs, rv, x, xr, e1, q, qs⟩ := ru
  subst e1
  cases rv with
  | cons r1 r2 =>
   rw [hs]
   refine assignInOrder_cons (h1 pins s σ H ι σi h v _ (fun f s' => wpAny (model X.prog X.w) X.A (assignInOrder ((assignEach ts X.env).map (·.2)) _) (fun _ s' => Q .next s') E s') E N ⟨x, r1, q⟩ ?_)
   have K' : Jdr ce X pins ι H (match g v σi h with | .next σ' h' => r vs σ' h' | .exc n σ' h' => .exc n σ' h' | _ => .stuck) Q E := K
   cases e : g v σi h with
   | next σ' h' =>
    rw [e] at K'
    exact fun s' σ2 H' ι' N' n' => h2 pins s' σ2 H' ι' σ' h' vs _ Q E N' ⟨xr, r2, RVs.mono n' _ _ qs⟩ (Jdr.mono (r := r vs σ' h') K' n')
   | exc n σ' h' => rw [e] at K'; exact K'
   | _ => rw [e] at K'; exact (show False from K').elim
noncomputable def gTp (n : Nat) (g : List IV -> ISt -> IH -> SRes) : G1 := fun v σ h => match v with
 | .tup xs => if xs.length = n then g xs σ h else .stuck
 | _ => .stuck
theorem g_tup {es : List Expr} {k n : Nat} {g : List IV -> ISt -> IH -> SRes} (hc : X.calm = true) (hg : PGsi ce X es g) (hn : (assignEach es X.env).length = n := by rfl) (hst : (assignEach es X.env).findIdx? (·.1) = none := by rfl) : PGi ce X (.Tuple es k pos) (gTp n g) := by
 intro pins s σ H ι σi h v u Q E N r K
 obtain ⟨w, rw', q⟩ := r
 cases v with
 | tup xs =>
  obtain ⟨a, vs, e1, sa, ra⟩ := q
  subst e1
  cases rw'
  unfold gTp at K
  dsimp only at K
  split at K
  ·rename_i hl
   obtain ⟨its, rv, ht, hz⟩ := N.inv.tuple sa
   have l1 := ra.length
   have l2 := rv.length
   refine assign_Tuple_tuple (N.inv.ok.hd hc) ht (by simp only [List.size_toArray]; omega) hst fun h' hx => ?_
   have I1 : Inv X pins σ H { s with heap := h' } := N.inv.kept (t' := s.toks) fun b o e => hx b o (Nat.ne_of_lt (Heap.lt_size e)) e
   exact hg pins _ σ H ι σi h xs _ Q E ⟨I1, N.rel, N.st⟩ ⟨vs, by simpa using rv, ra⟩ K
  ·exact Zf K
 | _ => exact Zf K
noncomputable def sAsg (e : E1) (g : G1) : S1 := fun σ h => rS σ (e σ h) fun v h' => g v σ h'
theorem s_asg {tg : Expr} {g : G1} (he : PEi ce X e me) (hg : PGi ce X tg g) (hs : swapsWithSole [tg] e pos.line X.env = pure false := by rfl) (hw : swappedStores [tg] e X.env = pure none := by rfl)
  (h1 : (assignEach [tg] X.env).map (·.2) = [assign tg X.env] := by rfl) : PS1 ce X (.Assign [tg] e pos) (sAsg me g) := fun pins s σ H ι σi h Q E N K =>
 wpAny_Assign_stores (krun he N K fun v h2 u s1 H1 ι1 N1 n1 r1 K1 => by
  rw [h1]
  exact hg pins s1 σ H1 ι1 σi h2 v u Q E N1 r1 K1) hs hw
end
end L3
namespace L3
open PySem PySem.Spec PyProof.Rows L2
structure ItI where
 xs : List IV
 chk : IH -> Prop
open Classical in
noncomputable def Jhg (chk : IH -> Prop) (g : G1) (b : S1) : List IV -> ISt -> IH -> SRes
 | [], σ, h => if chk h then .next σ h else .stuck
 | x :: xs, σ, h => if chk h then (match g x σ h with
   | .next σ1 h1 => (match b σ1 h1 with
    | .next σ2 h2 => Jhg chk g b xs σ2 h2
    | .cont σ2 h2 => Jhg chk g b xs σ2 h2
    | .brk σ2 h2 => .next σ2 h2
    | .ret v h2 => .ret v h2
    | _ => .stuck)
   | _ => .stuck) else .stuck
noncomputable abbrev I1 := ISt -> IH -> Res ItI
noncomputable def sFor (it : I1) (g : G1) (b : S1) : S1 := fun σ h => rS σ (it σ h) fun J h' => Jhg J.chk g b J.xs σ h'
structure ItOk (ce : Str -> Option Addr) (K : W.Frag) (ι : List Addr) (H₀ : Hp) (J : It) (I : ItI) : Prop where
 go : ∀ (k : Nat) (x : IV) (h : IH) (H : Hp) (ι' : List Addr), Nxt ι H₀ ι' H -> Rel ce K ι' h H -> I.chk h -> I.xs[k]? = some x ->
  J.go k H /\ ∀ y H', J.yld k H y H' -> Rel ce K ι' h H' /\ Nxt ι' H ι' H' /\ RV K ι' H' x y
 stop : ∀ (k : Nat) (h : IH) (H : Hp) (ι' : List Addr), Nxt ι H₀ ι' H -> Rel ce K ι' h H -> I.chk h -> I.xs.length <= k -> J.stop k H
theorem Rel.get {ce : Str -> Option Addr} {K : W.Frag} {ι : List Addr} {h : IH} {H : Hp} (R : Rel ce K ι h H) {i : Nat} {o : IO} (e : h[i]? = Option.some o) {a : Addr} (ha : ι[i]? = Option.some a) : RO ce K ι H a o := by
 obtain ⟨b, e1, r⟩ := R.at_ i o e
 rw [ha] at e1
 cases e1
 exact r
noncomputable def RIt (ce : Str -> Option Addr) (X : Cx) (tg : Expr) (pins : List (Addr × Obj)) (ι' : List Addr) (I : ItI) (itv : Value) (s2 : Shared) (H' : Hp) : Prop :=
 ∃ (it : Addr) (fp : List Addr) (tn : Nat -> Heap -> Prop) (J : It), itv = .ref it /\ Turn X.prog X.w X.K tg J fp it tn /\ tn 0 s2.heap /\ (∀ b ∈ fp, FpOk X pins H' b) /\ ItOk ce X.K ι' H' J I
noncomputable def PIi (ce : Str -> Option Addr) (X : Cx) (tg iter : Expr) (m : I1) : Prop :=
 ∀ (pins : List (Addr × Obj)) (s : Shared) (σ : L2.St) (H : Hp) (ι : List Addr) (σi : ISt) (h : IH) (Q : Value -> Shared -> Prop) (E : Value -> Shared -> Prop), Now ce X pins ι σi h σ H s ->
  (match m σi h with
   | .ok I h' => ∀ itv s' H' ι', Now ce X pins ι' σi h' σ H' s' -> Nxt ι H ι' H' -> RIt ce X tg pins ι' I itv s' H' -> Q itv s'
   | .exc n h' => ∀ pl a s' H' ι', Now ce X (pins ++ pl) ι' σi h' σ H' s' -> Nxt ι H ι' H' -> ι'[n]? = some a -> E (.ref a) s'
   | .stuck => False) ->
  wpAny (model X.prog X.w) X.A (eval iter X.env) (fun v s1 => wpAny (model X.prog X.w) X.A (pyIter v) Q E s1) E s
section
variable {ce : Str -> Option Addr} {X : Cx}
theorem nof {M : Model} {A : Around} {α : Type} {t : Sem α} {Q : α -> Shared -> Prop} {E : Value -> Shared -> Prop} {s : Shared} (h : wpAny M A t Q (fun _ _ => False) s) : wpAny M A t Q E s := wpAny_mono h (fun _ _ x => x) fun _ _ z => z.elim
theorem Now.pins {pins : List (Addr × Obj)} {pl : List (Addr × Obj)} {ι : List Addr} {σi : ISt} {h : IH} {σ : L2.St} {H : Hp} {s : Shared} (N : Now ce X (pins ++ pl) ι σi h σ H s) : Now ce X pins ι σi h σ H s := ⟨N.inv.unpinned, N.rel, N.st⟩
theorem s_for {tg iter : Expr} {body : List Stmt} {mi : I1} {g : G1} {mb : S1} {pos : Pos} (hc : X.calm = true) (hi : PIi ce X tg iter mi) (hg : PGi ce X tg g) (hb : PS2 ce X body mb)
  (hs : ∀ x, foldedSetIterable iter X.env x = pure x := by intro _; rfl) : PS1 ce X (.For tg iter body [] pos) (sFor mi g mb) := by
 intro pins s σ H ι σi h Q E N K
 refine wpAny_For (hi pins s σ H ι σi h _ E N ?_) hs
 unfold sFor at K
 cases e0 : mi σi h with
 | exc n h' => rw [e0] at K; exact fun pl a s' H' ι' N' n' q => K pl a s' σ H' ι' N' n' q
 | stuck => rw [e0] at K; exact K
 | ok I h' =>
  rw [e0] at K
  intro itv s2 H2 ι2 N2 n2 R
  obtain ⟨it, fp, tn, J, e, T, st2, f2, OK⟩ := R
  subst e
  have stat : ∀ {H' : Hp}, (∀ b ∈ fp, H' b = none) -> ∀ b ∈ fp, FpOk X pins H' b := fun hn b hb => ⟨hn b hb, (f2 b hb).2⟩
  have K2 : Jdr ce X pins ι2 H2 (Jhg I.chk g mb I.xs σi h') Q E := Jdr.mono (r := Jhg I.chk g mb I.xs σi h') K n2
  refine codeAny_forLoop_any (fun n s' => ∃ k ιk σk hk σ' H', Now ce X pins ιk σk hk σ' H' s' /\ Nxt ι2 H2 ιk H' /\ tn k s'.heap /\ (∀ b ∈ fp, H' b = none) /\ n = I.xs.length - k /\ k <= I.xs.length /\ Jdr ce X pins ιk H' (Jhg I.chk g mb (I.xs.drop k) σk hk) Q E) ?_ I.xs.length
   ⟨0, ι2, σi, h', σ, H2, N2, .refl, st2, fun b hb => (f2 b hb).1, by simp, Nat.zero_le _, by simpa using K2⟩
  rintro n s3 ⟨k, ιk, σk, hk, σ3, H3, N3, n3, st3, fr3, rfl, hkl, K3⟩
  by_cases hlt : k < I.xs.length
  ·-- a turn
   have hd : I.xs.drop k = I.xs[k] :: I.xs.drop (k + 1) := List.drop_eq_getElem_cons hlt
   rw [hd] at K3
   unfold Jhg at K3
   split at K3
   ·rename_i hck
    obtain ⟨go, yl⟩ := OK.go k I.xs[k] hk H3 ιk n3 N3.rel hck (List.getElem?_eq_getElem hlt)
    refine nof (thn (T.item X rfl rfl rfl hc k pins s3 σ3 H3 (fun _ _ => False) N3.inv (stat fr3) st3 go) fun r s4 ⟨u, hr, h4⟩ => ?_)
    subst hr
    refine nof (thn h4 fun _ s5 ⟨x, H5, I5, r5, y5, st5, fr5⟩ => ?_)
    obtain ⟨R5, n5, q5⟩ := yl x H5 y5
    have I5' := I5.pinned (stat fr5) (T.obj _ _ st5)
    have N5 : Now ce X (pins ++ Jgb fp s5.heap) ιk σk hk σ3 H5 s5 := ⟨I5', R5, N3.st.mono n5⟩
    cases eg : g I.xs[k] σk hk with
    | next σg hgg =>
     rw [eg] at K3
     dsimp only at K3
     refine nof (hg _ s5 σ3 H5 ιk σk hk _ u (fun _ s6 => wpAny (model X.prog X.w) X.A (execs body X.env) _ _ s6) (fun _ _ => False) N5 ⟨x, r5, q5⟩ ?_)
     rw [eg]
     intro s6 σ6 H6 ι6 N6 n6
     refine nof (hb _ s6 σ6 H6 ι6 σg hgg _ (fun _ _ => False) N6 ?_)
     have again : ∀ {σ7 : L2.St} {H7 : Hp} {s7 : Shared} {σ7i : ISt} {h7 : IH} {ι7 : List Addr}, Now ce X (pins ++ Jgb fp s5.heap) ι7 σ7i h7 σ7 H7 s7 -> Nxt ι6 H6 ι7 H7 -> Jdr ce X pins ιk H3 (Jhg I.chk g mb (I.xs.drop (k + 1)) σ7i h7) Q E ->
       ∃ m, m < I.xs.length - k /\ ∃ k ιk σk hk σ' H', Now ce X pins ιk σk hk σ' H' s7 /\ Nxt ι2 H2 ιk H' /\ tn k s7.heap /\ (∀ b ∈ fp, H' b = none) /\ m = I.xs.length - k /\ k <= I.xs.length /\ Jdr ce X pins ιk H' (Jhg I.chk g mb (I.xs.drop k) σk hk) Q E :=
      fun {σ7 H7 s7 σ7i h7 ι7} N7 n7 K7 => by
       have nn : Nxt ιk H3 ι7 H7 := (n5.trans n6).trans n7
       refine ⟨I.xs.length - (k + 1), by omega, k + 1, ι7, σ7i, h7, σ7, H7, N7.pins, n3.trans nn, T.keep _ _ _ st5 fun b hb o e => (N7.inv.pin (b, o) (List.mem_append_right _ (List.mem_append_right _ (Jd3 hb e)))).1, fun b hb => ?_, rfl, hlt, K7.mono nn⟩
       obtain ⟨o, e, d⟩ := T.obj _ _ st5 b hb
       exact (N7.inv.pin (b, o) (List.mem_append_right _ (List.mem_append_right _ (Jd3 hb e)))).2.1
     cases eb : mb σg hgg with
     | next σ7i h7 =>
      rw [eb] at K3
      exact fun s7 σ7 H7 ι7 N7 n7 => again N7 n7 K3
     | cont σ7i h7 =>
      rw [eb] at K3
      exact fun s7 σ7 H7 ι7 N7 n7 => again N7 n7 K3
     | brk σ7i h7 =>
      rw [eb] at K3
      exact fun s7 σ7 H7 ι7 N7 n7 => K3 s7 σ7 H7 ι7 N7.pins ((n5.trans n6).trans n7)
     | ret v h7 =>
      rw [eb] at K3
      exact fun u s7 σ7i σ7 H7 ι7 N7 n7 r => K3 u s7 σ7i σ7 H7 ι7 N7.pins ((n5.trans n6).trans n7) r
     | exc n σ7i h7 => rw [eb] at K3; exact Zf K3
     | stuck => rw [eb] at K3; exact Zf K3
    | _ => rw [eg] at K3; exact Zf K3
   ·exact Zf K3
  ·have hke : I.xs.drop k = [] := List.drop_eq_nil_of_le (by omega)
   rw [hke] at K3
   unfold Jhg at K3
   split at K3
   ·rename_i hck
    have stop := OK.stop k hk H3 ιk n3 N3.rel hck (by omega)
    refine nof (thn (T.done X rfl rfl rfl hc k pins s3 σ3 H3 (fun _ _ => False) N3.inv (stat fr3) st3 stop) fun r s4 ⟨hr, I4⟩ => ?_)
    subst hr
    exact wpAny_execs_nil (K3 s4 σ3 H3 ιk ⟨I4, N3.rel, N3.st⟩ .refl)
   ·exact Zf K3
noncomputable def itOf : IV -> IH -> Res ItI
 | .ref i, h => match h[i]? with
  | some (.lst xs) => .ok ⟨xs, fun h' => h'[i]? = some (.lst xs)⟩ h
  | _ => .stuck
 | .rol xs, h => .ok ⟨xs, fun _ => True⟩ h
 | .tup xs, h => .ok ⟨xs, fun _ => True⟩ h
 | _, _ => .stuck
noncomputable def iVal (e : E1) : I1 := fun σ h => (e σ h).bind itOf
variable {tg : Expr}
theorem J41 {a : Addr} {i : Nat} {xs : List IV} {ι : List Addr} {H₀ : Hp} (ha : ι[i]? = some a) : ItOk ce X.K ι H₀ (Itl X.K a) ⟨xs, fun h' => h'[i]? = some (.lst xs)⟩ := by
 refine ⟨fun k x h H ι' hp R hck hx => ?_, fun k h H ι' hp R hck hx => ?_⟩
 ·obtain ⟨vs, e1, r1⟩ := R.get hck (hp.at ha)
  obtain ⟨v, hv, qv⟩ := r1.get hx
  refine ⟨⟨vs, v, SqL.of e1, hv⟩, fun y H' hy => ?_⟩
  obtain ⟨rfl, hy⟩ := hy
  have := hy vs (SqL.of e1)
  rw [hv] at this
  cases this
  exact ⟨R, .refl, qv⟩
 ·obtain ⟨vs, e1, r1⟩ := R.get hck (hp.at ha)
  exact ⟨vs, SqL.of e1, by rw [r1.length]; exact hx⟩
theorem J5k {a : Addr} {xs : List IV} {vs : List V} {ι : List Addr} {H₀ : Hp} (sa : SqR X.K H₀ a vs) (ra : RVs X.K ι H₀ xs vs) : ItOk ce X.K ι H₀ (Itl X.K a) ⟨xs, fun _ => True⟩ := by
 refine ⟨fun k x h H ι' hp R hck hx => ?_, fun k h H ι' hp R hck hx => ?_⟩
 ·obtain ⟨v, hv, qv⟩ := ra.get hx
  have sq := (hp.ext.sqR sa).sq
  refine ⟨⟨vs, v, sq, hv⟩, fun y H' hy => ?_⟩
  obtain ⟨rfl, hy⟩ := hy
  have := hy vs sq
  rw [hv] at this
  cases this
  exact ⟨R, .refl, RV.mono hp _ _ qv⟩
 ·exact ⟨vs, (hp.ext.sqR sa).sq, by rw [ra.length]; exact hx⟩
theorem J3k {a : Addr} {xs : List IV} {vs : List V} {ι : List Addr} {H₀ : Hp} (sa : SqT X.K H₀ a vs) (ra : RVs X.K ι H₀ xs vs) : ItOk ce X.K ι H₀ (Itt X.K a) ⟨xs, fun _ => True⟩ := by
 refine ⟨fun k x h H ι' hp R hck hx => ?_, fun k h H ι' hp R hck hx => ?_⟩
 ·obtain ⟨v, hv, qv⟩ := ra.get hx
  have sq := hp.ext.sqT sa
  refine ⟨⟨vs, v, sq, hv⟩, fun y H' hy => ?_⟩
  obtain ⟨rfl, hy⟩ := hy
  have := hy vs sq
  rw [hv] at this
  cases this
  exact ⟨R, .refl, RV.mono hp _ _ qv⟩
 ·exact ⟨vs, hp.ext.sqT sa, by rw [ra.length]; exact hx⟩
theorem Jvg {l : Expr} {ml : E1} (hl : PEi ce X l ml) : PIi ce X tg l (iVal ml) := by
 intro pins s σ H ι σi h Q E N K
 refine hl pins s σ H ι σi h _ E N ?_
 unfold iVal at K
 cases e0 : ml σi h with
 | exc n h' => rw [e0] at K; exact K
 | stuck => rw [e0] at K; exact K
 | ok v h' =>
  rw [e0] at K
  intro u s1 H1 ι1 N1 n1 r1
  obtain ⟨w, rw', q⟩ := r1
  have fresh : ∀ b ∈ [s1.heap.objs.size], FpOk X pins H1 b := fun b hb => by
   have e : b = s1.heap.objs.size := by simpa using hb
   subst e
   exact N1.inv.fpOk (Nat.le_refl _) (N1.inv.hok.fresh (Nat.le_refl _))
  cases v with
  | ref i =>
   obtain ⟨a, e1, ha⟩ := q
   subst e1
   cases rw'
   cases hi : h'[i]? with
   | none => simp only [Res.bind, itOf, hi] at K
   | some o =>
    cases o with
    | lst xs =>
     simp only [Res.bind, itOf, hi] at K
     obtain ⟨vs, e1, r1⟩ := N1.at hi ha
     obtain ⟨its, rv, p, hz⟩ := N1.inv.list (SqL.of e1)
     refine wpAny_pyIter_list p.isList (K _ _ H1 ι1 ⟨N1.inv.kept (t' := s1.toks) fun b o e => Heap.get?_push_of_some _ e, N1.rel, N1.st⟩ n1 ?_)
     exact ⟨s1.heap.objs.size, [s1.heap.objs.size], _, Itl X.K a, rfl, Jov a _, ⟨_, Heap.get?_push_size _ rfl, rfl, rfl⟩, fresh, J41 ha⟩
    | _ => simp only [Res.bind, itOf, hi] at K
  | rol xs =>
   obtain ⟨a, vs, e1, sa, ra⟩ := q
   subst e1
   cases rw'
   simp only [Res.bind, itOf] at K
   obtain ⟨its, rv, p, hz⟩ := N1.inv.list sa.sq
   refine wpAny_pyIter_list p.isList (K _ _ H1 ι1 ⟨N1.inv.kept (t' := s1.toks) fun b o e => Heap.get?_push_of_some _ e, N1.rel, N1.st⟩ n1 ?_)
   exact ⟨s1.heap.objs.size, [s1.heap.objs.size], _, Itl X.K a, rfl, Jov a _, ⟨_, Heap.get?_push_size _ rfl, rfl, rfl⟩, fresh, J5k sa ra⟩
  | tup xs =>
   obtain ⟨a, vs, e1, sa, ra⟩ := q
   subst e1
   cases rw'
   simp only [Res.bind, itOf] at K
   obtain ⟨its, rv, p, hz⟩ := N1.inv.tuple sa
   refine wpAny_pyIter_tuple (show s1.heap.IsTuple a its.toArray from p) (K _ _ H1 ι1 ⟨N1.inv.kept (t' := s1.toks) fun b o e => Heap.get?_push_of_some _ e, N1.rel, N1.st⟩ n1 ?_)
   exact ⟨s1.heap.objs.size, [s1.heap.objs.size], _, Itt X.K a, rfl, Js9 a _, ⟨_, Heap.get?_push_size _ rfl, rfl, rfl⟩, fresh, J3k sa ra⟩
  | _ => simp only [Res.bind, itOf] at K
noncomputable def rngI (lo hi : Int) : List IV := (List.range (hi - lo).toNat).map fun k => .int (lo + (k : Nat))
noncomputable def Jbp : List IV -> IH -> Res ItI
 | [.int j], h => if -(2 ^ 62) <= j /\ j < 2 ^ 62 then .ok ⟨rngI 0 j, fun _ => True⟩ h else .stuck
 | _, _ => .stuck
noncomputable def Jj5 : List IV -> IH -> Res ItI
 | [.int i, .int j], h => if -(2 ^ 62) <= i /\ i < 2 ^ 62 /\ -(2 ^ 62) <= j /\ j < 2 ^ 62 then .ok ⟨rngI i j, fun _ => True⟩ h else .stuck
 | _, _ => .stuck
theorem Jor {vs : List IV} {h : IH} (hv : ¬ ∃ i j, vs = [.int i, .int j]) : Jj5 vs h = .stuck := by
 unfold Jj5
 split
 ·exact absurd ⟨_, _, rfl⟩ hv
 ·rfl
noncomputable def iRg (f : List IV -> IH -> Res ItI) (a : A1) : I1 := fun σ h => (a σ h).bind f
theorem J4f {lo hi : Int} {ι : List Addr} {H₀ : Hp} : ItOk ce X.K ι H₀ (Itr lo (hi - lo).toNat) ⟨rngI lo hi, fun _ => True⟩ := by
 refine ⟨fun k x h H ι' hp R hck hx => ?_, fun k h H ι' hp R hck hx => ?_⟩
 ·have hk : k < (hi - lo).toNat := by
   have := (List.getElem?_eq_some_iff.mp hx).1
   simpa [rngI] using this
  refine ⟨hk, fun y H' hy => ?_⟩
  obtain ⟨rfl, rfl⟩ := hy
  simp only [rngI, List.getElem?_map, List.getElem?_range hk] at hx
  cases hx
  exact ⟨R, .refl, rfl⟩
 ·have : (rngI lo hi).length = (hi - lo).toNat := by simp [rngI]
  show (hi - lo).toNat <= k
  rw [<- this]
  exact hx
theorem Jp2 {pins : List (Addr × Obj)} {σ : L2.St} {H : Hp} {ι : List Addr} {σi : ISt} {h : IH} {s : Shared} {Q : Value -> Shared -> Prop} {E : Value -> Shared -> Prop} {lo hi : Int} {t u v : Tok} {tk : Nat} (N : Now ce X pins ι σi h σ H s)
  (h1 : -(2 ^ 62) <= lo) (h2 : lo < 2 ^ 62) (h3 : -(2 ^ 62) <= hi) (h4 : hi < 2 ^ 62)
  (K : ∀ itv s' H' ι', Now ce X pins ι' σi h σ H' s' -> Nxt ι H ι' H' -> RIt ce X tg pins ι' ⟨rngI lo hi, fun _ => True⟩ itv s' H' -> Q itv s') :
  wpAny (model X.prog X.w) X.A (pyIter (.ref s.heap.objs.size)) Q E { s with heap := s.heap.push { cls := .type "range", data := .fields #[.int lo t, .int hi u, .int 1 v] }, toks := tk } := by
 have := Jzd (X := X) (tg := tg) (E := E) (R := fun J H' => J = Itr lo (hi - lo).toNat /\ H' = H) (t := t) (u := u) (v := v) (tk := tk) N.inv h1 h2 h3 h4 ⟨rfl, rfl⟩
 refine wpAny_mono this (fun itv s' hq => ?_) fun _ _ z => z
 obtain ⟨it, fp, tn, J, H', e, I', T, st, f, rfl, rfl⟩ := hq
 exact K itv s' _ ι ⟨I', N.rel, N.st⟩ .refl ⟨it, fp, tn, _, e, T, st, f, J4f⟩
theorem Jzq {a : Expr} {ma : A1} {p pos : Pos} (hg : Gl X "range") (hm : X.mg "range" = none) (ha : PAi ce X [a] ma) (hs : starEach [a] X.env = [(false, eval a X.env)] := by rfl) : PIi ce X tg (.Call (.Name "range" p) [a] [] pos) (iRg Jbp ma) := by
 intro pins s σ H ι σi h Q E N K
 refine Call_ (Jde N.inv hg hm boot_range (PyProof.Rows.callWith_type1 ?_ hs rfl))
 refine ha pos pins s σ H ι σi h _ E N ?_
 unfold iRg at K
 cases e0 : ma σi h with
 | exc n h' => rw [e0] at K; exact K
 | stuck => rw [e0] at K; exact K
 | ok vs h' =>
  rw [e0] at K
  intro us s1 H1 ι1 N1 n1 r1
  obtain ⟨xs, rv, qs⟩ := r1
  match vs, K with
  | [.int j], K =>
   obtain ⟨w, r, e1, q, q2⟩ := qs
   have e2 : r = [] := q2
   subst e1 e2
   have e3 : w = .int j := q
   subst e3
   cases rv with
   | cons r rr =>
    cases rr
    obtain ⟨t, rfl⟩ := r
    simp only [Res.bind, Jbp] at K
    by_cases hb : -(2 ^ 62) <= j /\ j < 2 ^ 62
    ·rw [if_pos hb] at K
     exact call_range_1 (Jp2 N1 (by omega) (by omega) hb.1 hb.2 fun itv s' H' ι' N' n' R => K itv s' H' ι' N' (n1.trans n') R)
    ·rw [if_neg hb] at K
     exact K.elim
  | [], K => exact Zf K
  | .non :: _, K => exact Zf K
  | .bl _ :: _, K => exact Zf K
  | .str _ :: _, K => exact Zf K
  | .tup _ :: _, K => exact Zf K
  | .rol _ :: _, K => exact Zf K
  | .ref _ :: _, K => exact Zf K
  | .int _ :: _ :: _, K => exact Zf K
theorem Jzw {a b : Expr} {ma : A1} {p pos : Pos} (hg : Gl X "range") (hm : X.mg "range" = none) (ha : PAi ce X [a, b] ma) (hs : starEach [a, b] X.env = [(false, eval a X.env), (false, eval b X.env)] := by rfl) (hs2 : starEach [b] X.env = [(false, eval b X.env)] := by rfl) :
  PIi ce X tg (.Call (.Name "range" p) [a, b] [] pos) (iRg Jj5 ma) := by
 intro pins s σ H ι σi h Q E N K
 refine Call_ (Jde N.inv hg hm boot_range (PyProof.Rows.callWith_type1 ?_ (by rw [hs, hs2]) (by rw [hs2]; rfl)))
 refine ha pos pins s σ H ι σi h _ E N ?_
 unfold iRg at K
 cases e0 : ma σi h with
 | exc n h' => rw [e0] at K; exact K
 | stuck => rw [e0] at K; exact K
 | ok vs h' =>
  rw [e0] at K
  intro us s1 H1 ι1 N1 n1 r1
  obtain ⟨xs, rv, qs⟩ := r1
  by_cases hv : ∃ i j, vs = [.int i, .int j]
  ·obtain ⟨i, j, rfl⟩ := hv
   obtain ⟨w, r, e1, q, w', r', e1', q', q2⟩ := qs
   have e2 : r' = [] := q2
   subst e1 e1' e2
   have e3 : w = .int i := q
   have e4 : w' = .int j := q'
   subst e3 e4
   cases rv with
   | cons r rr =>
    cases rr with
    | cons r' rr =>
     cases rr
     obtain ⟨t, rfl⟩ := r
     obtain ⟨t', rfl⟩ := r'
     simp only [Res.bind, Jj5] at K
     by_cases hb : -(2 ^ 62) <= i /\ i < 2 ^ 62 /\ -(2 ^ 62) <= j /\ j < 2 ^ 62
     ·rw [if_pos hb] at K
      exact call_range_2 (Jp2 N1 hb.1 hb.2.1 hb.2.2.1 hb.2.2.2 fun itv s' H' ι' N' n' R => K itv s' H' ι' N' (n1.trans n') R)
     ·rw [if_neg hb] at K
      exact K.elim
  ·simp only [Res.bind, Jor hv] at K
end
end L3
namespace L3
open PySem PySem.Spec PyProof.Rows L2
noncomputable def Jmu (n : Nat) (vs : List IV) : ISt := vs.map some ++ List.replicate (n - vs.length) none
noncomputable def fnI (n : Nat) (m : S1) : List IV -> IH -> Res IV := fun vs h => match m (Jmu n vs) h with
 | .next _ h' => .ok .non h'
 | .ret v h' => .ok v h'
 | _ => .stuck
noncomputable def spI (ce : Str -> Option Addr) (K : W.Frag) (ps : List Str) (f : List IV -> IH -> Res IV) : Sp := fun vs H Q _ =>
 vs.length = ps.length /\ ∃ ι h ivs, Rel ce K ι h H /\ RVs K ι H ivs vs /\
  match f ivs h with
  | .ok v h' => ∀ x H' ι', Rel ce K ι' h' H' -> Nxt ι H ι' H' -> RV K ι' H' v x -> Q x H'
  | _ => False
theorem RVs.start {K : W.Frag} {ι : List Addr} {H : Hp} {N : List Str} {ivs : List IV} {vs : List V} (r : RVs K ι H ivs vs) : RSt K ι H (Jmu N.length ivs) (L2.start N vs) := by
 have hl := r.length
 refine ⟨by simp [Jmu, L2.start, hl], fun j v e => ?_⟩
 unfold Jmu at e
 unfold L2.start
 by_cases hj : j < ivs.length
 ·rw [List.getElem?_append_left (by simpa using hj), List.getElem?_map] at e
  rw [List.getElem?_append_left (by simp; omega), List.getElem?_map]
  cases e1 : ivs[j]? with
  | none => rw [e1] at e; cases e
  | some w =>
   rw [e1] at e
   cases e
   obtain ⟨u, hu, q⟩ := r.get e1
   exact ⟨u, by rw [hu]; rfl, q⟩
 ·rw [List.getElem?_append_right (by simpa using hj), List.getElem?_replicate] at e
  split at e <;> cases e
structure FunD (K : W.Frag) (x qual : Str) (st : Stmt) (f : Addr) (fd : FuncData) (dV : Value) : Prop where
 ex : ∃ (oc : Value) (od : Option Addr) (kV doc pm : Value) (an : Option Addr) (cdv ct : Value) (osl : Array (Option Value)),
  fd = W.fnOf x qual (Ji st) (Jg st) (Jb st) dV kV doc pm an cdv ct /\ K.lookup f = some ⟨oc, od, .func fd, osl⟩ /\ W.codeIn K cdv qual = true
 kp : W.keepIn K (.ref f) = true
section
variable {P : Program} {w : World} {K : W.Frag} {mg : Str -> Option Value} {base : Heap} {ce : Str -> Option Addr}
theorem FunD.fn {x qual : Str} {st : Stmt} {f : Addr} {fd : FuncData} {dV : Value} {N ps : List Str} {k n : Nat} {m : S1} (F : FunD K x qual st f fd dV) (S : FnScope N ps (Jb st))
  (hbody : ∀ (cdv : Value) (A : Around) (outer : List Env) (s : Shared) (H : Hp) (E : XK), W.codeIn K cdv qual = true -> Room k (A.deeper (envOfC qual (Jb st) s.heap.objs.size f cdv)) -> PS2 ce (cxOf CX0 P w K mg base N qual (Jb st) f cdv A outer s H E).nox (Jg st) m) (hn : N.length = n := by rfl) :
  FnOk P w K mg base CX0 (k + 1) f fd ps (spI ce K ps (fnI n m)) := by
 subst hn
 obtain ⟨oc, od, kV, doc, pm, an, cdv, ct, osl, rfl, lk, hcd⟩ := F.ex
 refine J4v lk hcd S (fun vs H Q E h => h.1) fun A outer s H vs Q E hr hsp => ?_
 obtain ⟨hl, ι, h, ivs, R, rv, hk⟩ := hsp
 refine ⟨fun D σ H => ∃ ι σi h, Rel ce K ι h H /\ RSt K ι H σi σ /\ match m σi h with
  | .next σi' h' => ∀ σ' H' ι', Rel ce K ι' h' H' -> RSt K ι' H' σi' σ' -> Nxt ι H ι' H' -> D.nx σ' H'
  | .ret v h' => ∀ x H' ι', Rel ce K ι' h' H' -> Nxt ι H ι' H' -> RV K ι' H' v x -> D.rt x H'
  | _ => False, PSs.nox fun pins s' σ' H' D I ht => ?_, ι, Jmu N.length ivs, h, R, rv.start, ?_⟩
 ·obtain ⟨ι, σi, h, R, rs, hm⟩ := ht
  refine hbody cdv A outer s H E hcd hr pins s' σ' H' ι σi h _ _ ⟨I, R, rs⟩ ?_
  cases e : m σi h with
  | next σ2 h2 =>
   rw [e] at hm
   exact fun s3 σ3 H3 ι3 N3 n3 => ⟨σ3, H3, N3.inv, hm σ3 H3 ι3 N3.rel N3.st n3⟩
  | ret v h2 =>
   rw [e] at hm
   exact fun u s3 σ3i σ3 H3 ι3 N3 n3 ⟨z, rz, q⟩ => ⟨z, σ3, H3, N3.inv, rz, hm z H3 ι3 N3.rel n3 q⟩
  | _ => rw [e] at hm; exact hm.elim
 ·unfold fnI at hk
  cases e : m (Jmu N.length ivs) h with
  | next σ2 h2 =>
   rw [e] at hk
   exact fun σ3 H3 ι3 R3 _ n3 => hk .non H3 ι3 R3 n3 rfl
  | ret v h2 =>
   rw [e] at hk
   exact hk
  | _ => rw [e] at hk; exact hk.elim
end
noncomputable def Res.nx {α : Type} : Res α -> Res α
 | .ok a h => .ok a h
 | _ => .stuck
noncomputable def Jm (f : List IV -> IH -> Res IV) (dvs : List IV) (a : A1) : E1 := fun σ h => (a σ h).bind fun vs h1 => (f (vs ++ dvs) h1).nx
noncomputable def Jku (c : Str) (f : List IV -> IH -> Res IV) (dvs : List IV) (a : A1) : E1 := fun σ h => (a σ h).bind fun vs h1 => (f (.ref h1.length :: (vs ++ dvs)) (h1 ++ [.ins c []])).nx.bind fun r h2 => match r with
 | .non => .ok (.ref h1.length) h2
 | _ => .stuck
noncomputable def Jzl (m : Str) (disp : Str -> Option ((List IV -> IH -> Res IV) × List IV)) (o : E1) (a : A1) : E1 := fun σ h => (o σ h).bind fun v h1 => match v with
 | .ref i => (match h1[i]? with
  | some (.ins c fs) => (match disp c, fs.lookup m with
   | some (f, dvs), none => (a σ h1).bind fun vs h2 => (f (.ref i :: (vs ++ dvs)) h2).nx
   | _, _ => .stuck)
  | _ => .stuck)
 | _ => .stuck
section
variable {ce : Str -> Option Addr} {X : Cx} {k : Nat} {fa C : Addr} {fd : FuncData} {ps : List Str} {f : List IV -> IH -> Res IV} {dvs : List IV} {ds : List Value} {x m : Str} {p pos apos : Pos} {e o : Expr} {es : List Expr} {mo : E1} {ma : A1}
theorem RUs.vals {K : W.Frag} {ι : List Addr} {H : Hp} {xs : List IV} {us : List Value} (r : RUs K ι H xs us) : ∃ vs, Vals vs us /\ RVs K ι H xs vs := r
theorem Jod {pins : List (Addr × Obj)} {σ : L2.St} {H : Hp} {ι : List Addr} {σi : ISt} {h : IH} {s : Shared} {Q : Value -> Shared -> Prop} {E : Value -> Shared -> Prop} {us : List Value} {xs : List IV} (F : FnOk X.prog X.w X.K X.mg X.base CX0 k fa fd ps (spI ce X.K ps f)) (hr : Room k X.A) (hb : Jhh X.K fd ps ds)
  (hd : ∃ vs, Vals vs ds /\ ∀ ι H, RVs X.K ι H dvs vs) (hlen : us.length + ds.length = ps.length) (N : Now ce X pins ι σi h σ H s) (r : RUs X.K ι H xs us) (K : Kont ce X RU pins ι σi σ H (f (xs ++ dvs) h).nx Q E) : wpAny (model X.prog X.w) X.A (call (.ref fa) us) Q E s := by
 obtain ⟨vs, rv, q⟩ := r
 obtain ⟨dv, rd, qd⟩ := hd
 have hl1 := rv.length
 have hl2 := rd.length
 refine wpAny_mono (J3c (X := X.wish E) (Q := fun z H' => ∀ u s', Inv X pins σ H' s' -> RelV z u -> Q u s') F hr hb rd (E := E0) (fun _ _ _ _ _ _ _ z => z.elim) (N.inv.wish E) rv ⟨by rw [List.length_append]; omega, ι, h, xs ++ dvs, N.rel, q.append (qd ι H), ?_⟩)
  (fun u s' ⟨z, H', I', r', k'⟩ => k' u s' I'.unwish r') fun _ _ z => z
 cases e : f (xs ++ dvs) h with
 | ok v h' =>
  rw [e] at K
  exact fun z H' ι' R' n' qz u s' I' ru => K u s' H' ι' ⟨I', R', N.st.mono n'⟩ n' ⟨z, ru, qz⟩
 | exc n h' => rw [e] at K; exact K
 | stuck => rw [e] at K; exact K
theorem J4p (F : FnOk X.prog X.w X.K X.mg X.base CX0 k fa fd ps (spI ce X.K ps f)) (hr : Room k X.A) (hg : Gl X x) (hm : X.mg x = some (.ref fa)) (hk : W.keepIn X.K (.ref fa) = true) (hb : Jhh X.K fd ps ds) (hd : ∃ vs, Vals vs ds /\ ∀ ι H, RVs X.K ι H dvs vs)
  (ha : PAi ce X (e :: es) ma) (hlen : ∀ σ h xs h', ma σ h = .ok xs h' -> xs.length + ds.length = ps.length) (hdb : (x == ("__debug__" : Str)) = false := by decide) (he : starEach (e :: es) X.env = (false, eval e X.env) :: starEach es X.env := by rfl) (hpl : (backTo pos (starEach es X.env)).any (·.1) = false := by rfl) :
  PEi ce X (.Call (.Name x p) (e :: es) [] pos) (Jm f dvs ma) := by
 intro pins s σ H ι σi h Q E N K
 refine wpAny_Call_Name_kw (Jjo N.inv hg hm ?_ hdb)
 refine W.callWith_K (h₀ := X.base) N.inv.ok.mod.kin hk ?_ he hpl
 have K' := K
 unfold Jm at K'
 refine ha pos pins s σ H ι σi h _ E N ?_
 cases e0 : ma σi h with
 | exc n h' => rw [e0] at K'; exact K'
 | stuck => rw [e0] at K'; exact K'
 | ok xs h' =>
  rw [e0] at K'
  intro us s1 H1 ι1 N1 n1 r1
  have hl : xs.length = us.length := by
   obtain ⟨vs, rv, q⟩ := r1
   rw [<- rv.length, q.length]
  exact ⟨N1.inv.kIn, Jod (us := us) F hr hb hd (by have := hlen σi h xs h' e0; omega) N1 r1 (Kont.mono (r := (f (xs ++ dvs) h').nx) K' n1)⟩
theorem J2k (F : FnOk X.prog X.w X.K X.mg X.base CX0 k fa fd ps (spI ce X.K ps f)) (hr : Room k X.A) (hg : Gl X x) (hm : X.mg x = some (.ref fa)) (hk : W.keepIn X.K (.ref fa) = true) (hb : Jhh X.K fd ps ds) (hd : ∃ vs, Vals vs ds /\ ∀ ι H, RVs X.K ι H dvs vs)
  (hlen : ds.length = ps.length) (hdb : (x == ("__debug__" : Str)) = false := by decide) : PEi ce X (.Call (.Name x p) [] [] pos) (Jm f dvs aNil) := by
 intro pins s σ H ι σi h Q E N K
 refine wpAny_Call_Name_kw (Jjo N.inv hg hm ?_ hdb)
 exact W.callWith_K0 N.inv.kIn hk (Jod (xs := []) F hr hb hd (by simpa using hlen) N .nil K)
theorem Jox {c : Str} {pins : List (Addr × Obj)} {σ : L2.St} {H : Hp} {ι : List Addr} {σi : ISt} {h : IH} {s : Shared} {Q : Value -> Shared -> Prop} {E : Value -> Shared -> Prop} {us : List Value} {xs : List IV} (M : Mk X.K C fa) (F : FnOk X.prog X.w X.K X.mg X.base CX0 k fa fd ps (spI ce X.K ps f)) (hC : ce c = some C) (hr : Room (k + 1) X.A) (hb : Jhh X.K fd ps ds)
  (hd : ∃ vs, Vals vs ds /\ ∀ ι H, RVs X.K ι H dvs vs) (hlen : us.length + ds.length + 1 = ps.length) (N : Now ce X pins ι σi h σ H s) (r : RUs X.K ι H xs us)
  (K : Kont ce X RU pins ι σi σ H ((f (.ref h.length :: (xs ++ dvs)) (h ++ [.ins c []])).nx.bind fun r h2 => match r with | .non => .ok (.ref h.length) h2 | _ => .stuck) Q E) : wpAny (model X.prog X.w) X.A (call (.ref C) us) Q E s := by
 obtain ⟨vs, rv, q⟩ := r
 obtain ⟨dv, rd, qd⟩ := hd
 have hl1 := rv.length
 have hl2 := rd.length
 refine wpAny_mono (Jzg (X := X.wish E) (Q := fun z H' => ∀ u s', Inv X pins σ H' s' -> RelV z u -> Q u s') M F hr hb rd (E := E0) (fun _ _ _ _ _ _ _ z => z.elim) (N.inv.wish E) rv fun x dx hx hdx hne => ⟨by rw [List.length_cons, List.length_append]; omega, ?_⟩)
  (fun u s' ⟨z, H', I', r', k'⟩ => k' u s' I'.unwish r') fun _ _ z => z
 -- the new instance in the reading's heap
 obtain ⟨R1, n1⟩ := N.rel.grow (o := .own x) hdx
 have hx1 : upd H dx (.own x) x = none := by rw [Jp (Ne.symm hne)]; exact hx
 obtain ⟨R2, n2⟩ := R1.alloc (o := .ins C dx []) (io := .ins c []) hx1 ⟨C, dx, [], hC, Jk, rfl⟩
 have n12 := n1.trans n2
 have hat : (ι ++ [x])[h.length]? = some x := by
  rw [<- N.rel.len, List.getElem?_append_right (Nat.le_refl _)]
  simp
 refine ⟨ι ++ [x], h ++ [.ins c []], .ref h.length :: (xs ++ dvs), R2, ⟨_, _, rfl, ⟨x, rfl, hat⟩, (RVs.mono n12 _ _ q).append (qd _ _)⟩, ?_⟩
 cases e : f (.ref h.length :: (xs ++ dvs)) (h ++ [.ins c []]) with
 | ok v h' =>
  rw [e] at K
  intro z H' ι' R' n' qz
  cases v with
  | non =>
   have ez : z = .non := qz
   subst ez
   exact ⟨rfl, fun u s' I' ru => K u s' H' ι' ⟨I', R', N.st.mono (n12.trans n')⟩ (n12.trans n') ⟨.ref x, ru, x, rfl, n'.at hat⟩⟩
  | _ => exact Zf K
 | exc n h' => rw [e] at K; exact Zf K
 | stuck => rw [e] at K; exact Zf K
theorem J3m {c : Str} (M : Mk X.K C fa) (F : FnOk X.prog X.w X.K X.mg X.base CX0 k fa fd ps (spI ce X.K ps f)) (hC : ce c = some C) (hr : Room (k + 1) X.A) (hg : Gl X x) (hm : X.mg x = some (.ref C)) (hb : Jhh X.K fd ps ds) (hd : ∃ vs, Vals vs ds /\ ∀ ι H, RVs X.K ι H dvs vs)
  (ha : PAi ce X (e :: es) ma) (hlen : ∀ σ h xs h', ma σ h = .ok xs h' -> xs.length + ds.length + 1 = ps.length) (hdb : (x == ("__debug__" : Str)) = false := by decide) (he : starEach (e :: es) X.env = (false, eval e X.env) :: starEach es X.env := by rfl) (hpl : (backTo pos (starEach es X.env)).any (·.1) = false := by rfl) :
  PEi ce X (.Call (.Name x p) (e :: es) [] pos) (Jku c f dvs ma) := by
 intro pins s σ H ι σi h Q E N K
 refine wpAny_Call_Name_kw (Jjo N.inv hg hm ?_ hdb)
 refine W.callWith_K (h₀ := X.base) N.inv.ok.mod.kin M.kp ?_ he hpl
 have K' := K
 unfold Jku at K'
 refine ha pos pins s σ H ι σi h _ E N ?_
 cases e0 : ma σi h with
 | exc n h' => rw [e0] at K'; exact K'
 | stuck => rw [e0] at K'; exact K'
 | ok xs h' =>
  rw [e0] at K'
  intro us s1 H1 ι1 N1 n1 r1
  have hl : xs.length = us.length := by
   obtain ⟨vs, rv, q⟩ := r1
   rw [<- rv.length, q.length]
  exact ⟨N1.inv.kIn, Jox (us := us) M F hC hr hb hd (by have := hlen σi h xs h' e0; omega) N1 r1 (Kont.mono (r := (f (IV.ref h'.length :: (xs ++ dvs)) (h' ++ [.ins c []])).nx.bind fun r h2 => match r with | IV.non => Res.ok (IV.ref h'.length) h2 | _ => Res.stuck) K' n1)⟩
theorem J15 {c : Str} (M : Mk X.K C fa) (F : FnOk X.prog X.w X.K X.mg X.base CX0 k fa fd ps (spI ce X.K ps f)) (hC : ce c = some C) (hr : Room (k + 1) X.A) (hg : Gl X x) (hm : X.mg x = some (.ref C)) (hb : Jhh X.K fd ps ds) (hd : ∃ vs, Vals vs ds /\ ∀ ι H, RVs X.K ι H dvs vs)
  (hlen : ds.length + 1 = ps.length) (hdb : (x == ("__debug__" : Str)) = false := by decide) : PEi ce X (.Call (.Name x p) [] [] pos) (Jku c f dvs aNil) := by
 intro pins s σ H ι σi h Q E N K
 refine wpAny_Call_Name_kw (Jjo N.inv hg hm ?_ hdb)
 exact W.callWith_K0 N.inv.kIn M.kp (Jox (xs := []) M F hC hr hb hd (by simpa using hlen) N .nil K)
noncomputable def Jvq (ce : Str -> Option Addr) (X : Cx) (m : Str) (n : Nat) (disp : Str -> Option ((List IV -> IH -> Res IV) × List IV)) : Prop :=
 ∀ c f dvs, disp c = some (f, dvs) -> ∃ (C fa : Addr) (fd : FuncData) (k : Nat) (ps : List Str) (ds : List Value), ce c = some C /\ Cls X.K C /\ Meth X.K C m fa /\ FnOk X.prog X.w X.K X.mg X.base CX0 k fa fd ps (spI ce X.K ps f) /\ Room k X.A /\ Jhh X.K fd ps ds /\ (∃ vs, Vals vs ds /\ ∀ ι H, RVs X.K ι H dvs vs) /\ n + ds.length + 1 = ps.length
theorem J5j {n : Nat} {disp : Str -> Option ((List IV -> IH -> Res IV) × List IV)} {pl : Sem Bool} (ho : PEi ce X o mo) (hd : Jvq ce X m n disp) (ha : PAi ce X (e :: es) ma) (hlen : ∀ σ h xs h', ma σ h = .ok xs h' -> xs.length = n)
  (hst : starEach (e :: es) X.env = (false, eval e X.env) :: starEach es X.env := by rfl) (hpl : (backTo pos (starEach es X.env)).any (·.1) = false := by rfl)
  (ht : eval (.Call (.Attribute o m apos) (e :: es) [] pos) X.env = (do
   let ov <- eval o X.env
   standAt apos.atName
   let (f, first) <- holding [ov] (getMethod ov m pl)
   callWith pos f first (backTo pos (starEach (e :: es) X.env)) (backToKw pos (keywordEach [] X.env))) := by rfl) :
  PEi ce X (.Call (.Attribute o m apos) (e :: es) [] pos) (Jzl m disp mo ma) := by
 intro pins s σ H ι σi h Q E N K
 refine W.methodCall_KW (pl := pl) (ho.run N K fun v h1 u s1 H1 ι1 N1 n1 r1 K1 => ?_) ht
 cases v with
 | ref i =>
  obtain ⟨w, rw', a, e1, hi⟩ := r1
  subst e1
  cases rw'
  dsimp only at K1
  cases hh : h1[i]? with
  | none => rw [hh] at K1; exact Zf K1
  | some ob =>
   cases ob with
   | ins c fs =>
    rw [hh] at K1
    dsimp only at K1
    cases hd1 : disp c with
    | none => rw [hd1] at K1; exact Zf K1
    | some fd1 =>
     obtain ⟨f, dvs⟩ := fd1
     cases hl : fs.lookup m with
     | some z => rw [hd1, hl] at K1; exact Zf K1
     | none =>
      rw [hd1, hl] at K1
      dsimp only at K1
      obtain ⟨C, fa, fd, k, ps, ds, hC, cl, hm, F, hr, hb, hdv, hn⟩ := hd c f dvs hd1
      obtain ⟨C', dx, vs, hC', hH, rp⟩ := N1.at hh hi
      rw [hC] at hC'
      cases hC'
      refine Jmv N1.inv hH cl hm ((RPs.lookup rp).2 hl) ?_
      refine W.callWith_K (first := [.ref a]) (h₀ := X.base) N1.inv.ok.mod.kin hm.kp ?_ hst hpl
      refine ha pos pins s1 σ H1 ι1 σi h1 _ E N1 ?_
      cases e0 : ma σi h1 with
      | exc n h' => rw [e0] at K1; exact K1
      | stuck => rw [e0] at K1; exact K1
      | ok xs h' =>
       rw [e0] at K1
       intro us s2 H2 ι2 N2 n2 r2
       have hl : xs.length = us.length := by
        obtain ⟨vs, rv, q⟩ := r2
        rw [<- rv.length, q.length]
       have hl2 := hlen σi h1 xs h' e0
       refine ⟨N2.inv.kIn, Jod (us := .ref a :: us) (xs := .ref i :: xs) F hr hb hdv (by rw [List.length_cons]; omega) N2 (.cons ⟨.ref a, rfl, a, rfl, n2.at hi⟩ r2) ?_⟩
       exact Kont.mono (r := (f (.ref i :: (xs ++ dvs)) h').nx) K1 n2
   | _ => rw [hh] at K1; exact Zf K1
 | _ => exact Zf K1
theorem J2o {disp : Str -> Option ((List IV -> IH -> Res IV) × List IV)} {pl : Sem Bool} (ho : PEi ce X o mo) (hd : Jvq ce X m 0 disp)
  (ht : eval (.Call (.Attribute o m apos) [] [] pos) X.env = (do
   let ov <- eval o X.env
   standAt apos.atName
   let (f, first) <- holding [ov] (getMethod ov m pl)
   callWith pos f first (backTo pos (starEach [] X.env)) (backToKw pos (keywordEach [] X.env))) := by rfl) :
  PEi ce X (.Call (.Attribute o m apos) [] [] pos) (Jzl m disp mo aNil) := by
 intro pins s σ H ι σi h Q E N K
 refine W.methodCall_KW (pl := pl) (ho.run N K fun v h1 u s1 H1 ι1 N1 n1 r1 K1 => ?_) ht
 cases v with
 | ref i =>
  obtain ⟨w, rw', a, e1, hi⟩ := r1
  subst e1
  cases rw'
  dsimp only at K1
  cases hh : h1[i]? with
  | none => rw [hh] at K1; exact Zf K1
  | some ob =>
   cases ob with
   | ins c fs =>
    rw [hh] at K1
    dsimp only at K1
    cases hd1 : disp c with
    | none => rw [hd1] at K1; exact Zf K1
    | some fd1 =>
     obtain ⟨f, dvs⟩ := fd1
     cases hl : fs.lookup m with
     | some z => rw [hd1, hl] at K1; exact Zf K1
     | none =>
      rw [hd1, hl] at K1
      dsimp only at K1
      obtain ⟨C, fa, fd, k, ps, ds, hC, cl, hm, F, hr, hb, hdv, hn⟩ := hd c f dvs hd1
      obtain ⟨C', dx, vs, hC', hH, rp⟩ := N1.at hh hi
      rw [hC] at hC'
      cases hC'
      refine Jmv N1.inv hH cl hm ((RPs.lookup rp).2 hl) ?_
      exact W.callWith_K0 (first := [.ref a]) N1.inv.kIn hm.kp (Jod (us := [.ref a]) (xs := [.ref i]) F hr hb hdv (by rw [List.length_cons, List.length_nil]; omega) N1 (.cons ⟨.ref a, rfl, a, rfl, hi⟩ .nil) K1)
   | _ => rw [hh] at K1; exact Zf K1
 | _ => exact Zf K1
noncomputable def eFld (f : Str) (o : E1) : E1 := fun σ h => (o σ h).bind fun v h1 => match v with
 | .ref i => (match h1[i]? with
  | some (.ins _ fs) => (match fs.lookup f with
   | some x => .ok x h1
   | none => .stuck)
  | _ => .stuck)
 | _ => .stuck
noncomputable def Jxv (ce : Str -> Option Addr) (K : W.Frag) (f : Str) : Prop := ∀ c C, ce c = some C -> Cls K C /\ Jh2 K C f
theorem i_fld {fl : Str} (ho : PEi ce X o mo) (hf : Jxv ce X.K fl) (hb : attributeBase o fl X.env (eval o X.env) = eval o X.env := by rfl) : PEi ce X (.Attribute o fl pos) (eFld fl mo) := by
 intro pins s σ H ι σi h Q E N K
 refine J2p hb (ho.run N K fun v h1 u s1 H1 ι1 N1 n1 r1 K1 => ?_)
 cases v with
 | ref i =>
  obtain ⟨w, rw', a, e1, hi⟩ := r1
  subst e1
  cases rw'
  dsimp only at K1
  cases hh : h1[i]? with
  | none => rw [hh] at K1; exact Zf K1
  | some ob =>
   cases ob with
   | ins c fs =>
    rw [hh] at K1
    dsimp only at K1
    cases hl : fs.lookup fl with
    | none => rw [hl] at K1; exact Zf K1
    | some z =>
     rw [hl] at K1
     obtain ⟨C, dx, vs, hC, hH, rp⟩ := N1.at hh hi
     obtain ⟨cl, na⟩ := hf c C hC
     obtain ⟨y, hy, q⟩ := (RPs.lookup rp).1 z hl
     exact Jta N1.inv hH cl na hy fun u' s2 I2 ru => K1 u' s2 H1 ι1 ⟨I2, N1.rel, N1.st⟩ .refl ⟨y, ru, q⟩
   | _ => rw [hh] at K1; exact Zf K1
 | _ => exact Zf K1
noncomputable def putI (f : Str) (v : IV) : List (Str × IV) -> List (Str × IV)
 | [] => [(f, v)]
 | (g, x) :: r => if g = f then (g, v) :: r else (g, x) :: putI f v r
theorem RPs.put {K : W.Frag} {ι : List Addr} {H : Hp} {fl : Str} {v : IV} {y : V} (q : RV K ι H v y) : ∀ {fs : List (Str × IV)} {vs : List (Str × V)}, RPs K ι H fs vs -> RPs K ι H (putI fl v fs) (putF fl y vs)
 | [], _, h => by
  have e : _ = [] := h
  subst e
  exact ⟨y, [], rfl, q, rfl⟩
 | (g, x) :: r, _, h => by
  obtain ⟨w, vr, e, qx, t⟩ := h
  subst e
  show RPs K ι H (if g = fl then (g, v) :: r else (g, x) :: putI fl v r) (if g = fl then (g, y) :: vr else (g, w) :: putF fl y vr)
  by_cases hg : g = fl
  ·rw [if_pos hg, if_pos hg]
   exact ⟨y, vr, rfl, q, t⟩
  ·rw [if_neg hg, if_neg hg]
   exact ⟨w, _, rfl, qx, RPs.put q t⟩
noncomputable def Jkc (f : Str) (o e : E1) : S1 := fun σ h => rS σ (e σ h) fun v h1 => rS σ (o σ h1) fun ov h2 => match ov with
 | .ref i => (match h2[i]? with
  | some (.ins c fs) => if fs.length < 1000 then .next σ (h2.set i (.ins c (putI f v fs))) else .stuck
  | _ => .stuck)
 | _ => .stuck
theorem s_fld {fl : Str} {value : Expr} {mv : E1} {pos' : Pos} (ho : PEi ce X o mo) (hv : PEi ce X value mv) (hf : Jxv ce X.K fl) (hs : swapsWith value (some (.Attribute o fl pos')) pos.line X.env = pure false := by rfl) : PS1 ce X (.Assign [.Attribute o fl pos'] value pos) (Jkc fl mo mv) := by
 intro pins s σ H ι σi h Q E N K
 refine plainObj_wpAny_Assign_Attribute (krun hv N K fun v h1 u s1 H1 ι1 N1 n1 r1 K1 => krun ho N1 K1 fun ov h2 w s2 H2 ι2 N2 n2 r2 K2 => ?_) hs
 cases ov with
 | ref i =>
  obtain ⟨w, rw', a, e1, hi⟩ := r2
  subst e1
  cases rw'
  dsimp only at K2
  cases hh : h2[i]? with
  | none => rw [hh] at K2; exact Zf K2
  | some ob =>
   cases ob with
   | ins c fs =>
    rw [hh] at K2
    dsimp only at K2
    split at K2
    ·rename_i hz
     obtain ⟨C, dx, vs, hC, hH, rp⟩ := N2.at hh hi
     obtain ⟨cl, na⟩ := hf c C hC
     obtain ⟨y, ry, q⟩ := r1
     refine Juv N2.inv hH cl na (by rw [rp.length]; exact hz) ry fun s3 I3 => ?_
     have n3 : Nxt ι2 H2 ι2 (upd H2 a (.ins C dx (putF fl y vs))) := ⟨⟨[], by simp⟩, Ext.upd_mut hH (by rw [hH]; exact True.intro)⟩
     obtain ⟨R3, _⟩ := N2.rel.write (o := .ins C dx (putF fl y vs)) (io := .ins c (putI fl v fs)) hi hH (by rw [hH]; exact True.intro) ⟨C, dx, _, hC, Jk, RPs.put (RV.mono (n2.trans n3) _ _ q) (RPs.mono n3 _ _ rp)⟩
     exact K2 s3 σ _ ι2 ⟨I3, R3, N2.st.mono n3⟩ n3
    ·exact Zf K2
   | _ => rw [hh] at K2; exact Zf K2
 | _ => exact Zf K2
end
end L3
namespace L3
open PySem PySem.Spec PyProof.Rows L2
section
variable {ce : Str -> Option Addr} {X : Cx} {a b c : Expr} {ma mb mc : E1} {pos : Pos}
noncomputable def opIx : IV -> IV -> IH -> Res IV
 | .ref i, .int k, h => match h[i]? with
  | some (.lst xs) => (match atI xs k with
   | some v => .ok v h
   | none => .stuck)
  | _ => .stuck
 | .rol xs, .int k, h => match atI xs k with
  | some v => .ok v h
  | none => .stuck
 | .tup xs, .int k, h => match atI xs k with
  | some v => .ok v h
  | none => .stuck
 | .str x, .int k, h => if x.length <= sizeLine then (match atI x.cps.toList k with
  | some c => .ok (.str ⟨#[c]⟩) h
  | none => .stuck) else .stuck
 | _, _, _ => .stuck
theorem Jq8 {K : W.Frag} {ι : List Addr} {H : Hp} {xs : List IV} {vs : List V} {k : Int} {v : IV} (r : RVs K ι H xs vs) (e : atI xs k = some v) : ∃ u, atI vs k = some u /\ RV K ι H v u := by
 unfold atI at e ⊢
 rw [r.length]
 cases q : ixN xs.length k with
 | none => rw [q] at e; cases e
 | some j =>
  rw [q] at e
  exact r.get e
noncomputable def IxI (ce : Str -> Option Addr) (X : Cx) (g : IV -> IV -> IH -> Res IV) : Prop :=
 ∀ (value slice : Expr) (pins : List (Addr × Obj)) (s : Shared) (σ : L2.St) (H : Hp) (ι : List Addr) (σi : ISt) (h : IH) (x y : IV) (v u : Value) (Q : Value -> Shared -> Prop) (E : Value -> Shared -> Prop), Now ce X pins ι σi h σ H s -> RU X.K ι H x v -> RU X.K ι H y u ->
  Kont ce X RU pins ι σi σ H (g x y h) Q E -> subscripted slice false v u = operate [v, u] (getItem v u) -> wpAny (model X.prog X.w) X.A (subscriptTail value slice v u) Q E s
theorem Js5 {pins : List (Addr × Obj)} {s : Shared} {σ : L2.St} {H : Hp} {Q : Value -> Shared -> Prop} {E : Value -> Shared -> Prop} {r : R2} {value slice : Expr} {x y : V} {v u : Value} (p : IxR (X.wish E) r) (I : Inv X pins σ H s) (rx : RelV x v) (ry : RelV y u)
  (k : r x y H fun z H' => ∀ u s', Inv X pins σ H' s' -> RelV z u -> Q u s') (hs : subscripted slice false v u = operate [v, u] (getItem v u)) : wpAny (model X.prog X.w) X.A (subscriptTail value slice v u) Q E s :=
 wpAny_mono (p value slice pins s σ H x y v u _ (I.wish E) rx ry k hs) (fun u s' ⟨_, _, I', r, q⟩ => q u s' I'.unwish r) fun _ _ z => z
theorem x_ix : IxI ce X opIx := by
 intro value slice pins s σ H ι σi h x y v u Q E N rx ry K hs
 obtain ⟨xv, rx, qx⟩ := rx
 obtain ⟨yv, ry, qy⟩ := ry
 cases y with
 | int k =>
  have e2 : yv = .int k := qy
  subst e2
  cases x with
  | ref i =>
   obtain ⟨a, e1, ha⟩ := qx
   subst e1
   dsimp only [opIx] at K
   cases hi : h[i]? with
   | none => rw [hi] at K; exact Zf K
   | some ob =>
    rw [hi] at K
    cases ob with
    | lst xs =>
     dsimp only at K
     cases hk : atI xs k with
     | none => rw [hk] at K; exact Zf K
     | some z =>
      rw [hk] at K
      obtain ⟨vs, e1, r1⟩ := N.at hi ha
      obtain ⟨w, hw, qw⟩ := Jq8 r1 hk
      exact Js5 (Jwh (X := X.wish E)) N.inv rx ry ⟨a, vs, k, w, rfl, rfl, SqL.of e1, hw, fin0 N K qw⟩ hs
    | _ => exact Zf K
  | rol xs =>
   obtain ⟨a, vs, e1, sa, ra⟩ := qx
   subst e1
   dsimp only [opIx] at K
   cases hk : atI xs k with
   | none => rw [hk] at K; exact Zf K
   | some z =>
    rw [hk] at K
    obtain ⟨w, hw, qw⟩ := Jq8 ra hk
    exact Js5 (Jwh (X := X.wish E)) N.inv rx ry ⟨a, vs, k, w, rfl, rfl, sa.sq, hw, fin0 N K qw⟩ hs
  | tup xs =>
   obtain ⟨a, vs, e1, sa, ra⟩ := qx
   subst e1
   dsimp only [opIx] at K
   cases hk : atI xs k with
   | none => rw [hk] at K; exact Zf K
   | some z =>
    rw [hk] at K
    obtain ⟨w, hw, qw⟩ := Jq8 ra hk
    exact Js5 (J33 (X := X.wish E)) N.inv rx ry ⟨a, vs, k, w, rfl, rfl, sa, hw, fin0 N K qw⟩ hs
  | str x =>
   have e1 : xv = .str x := qx
   subst e1
   dsimp only [opIx] at K
   split at K
   ·rename_i hz
    cases hk : atI x.cps.toList k with
    | none => rw [hk] at K; exact Zf K
    | some z =>
     rw [hk] at K
     exact Js5 (J26 (X := X.wish E)) N.inv rx ry ⟨x, k, z, rfl, rfl, hz, hk, fin0 N K rfl⟩ hs
   ·exact Zf K
  | _ => exact Zf K
 | _ => cases x <;> exact Zf K
theorem i_ix {g : IV -> IV -> IH -> Res IV} (hg : IxI ce X g) (ha : PEi ce X a ma) (hb : PEi ce X b mb) (hs : Jw7 b := by intro _ _; rfl) : PEi ce X (.Subscript a b pos) (eBin g ma mb) := fun pins s σ H ι σi h Q E N K =>
 Subscript_ (ha.run N K fun x h1 u s1 H1 ι1 N1 n1 r1 K1 => hb.run N1 K1 fun y h2 w s2 H2 ι2 N2 n2 r2 K2 => hg a b pins s2 σ H2 ι2 σi h2 x y u w Q E N2 (r1.mono n2) r2 K2 (hs _ _))
noncomputable abbrev O1 := ISt -> IH -> Res (Option Int)
noncomputable def RPart : REL (Option Int) Value := fun _ _ _ o u => IsPart u o
noncomputable def PPi (ce : Str -> Option Addr) (X : Cx) (e : Option Expr) (m : O1) : Prop := PX ce X RPart (evalPart e X.env) m
noncomputable def Jgz : O1 := fun _ h => .ok none h
noncomputable def Jfk (e : E1) : O1 := fun σ h => (e σ h).bind fun v h1 => match v with
 | .int i => .ok (some i) h1
 | _ => .stuck
theorem J4u : PPi ce X none Jgz := by
 intro pins s σ H ι σi h Q E N K
 rw [evalPart_none]
 exact wpAny_pure (K _ s H ι N .refl .none)
theorem J4b (ha : PEi ce X a ma) : PPi ce X (some a) (Jfk ma) := by
 intro pins s σ H ι σi h Q E N K
 rw [evalPart_some]
 refine ha.run N K fun x h1 u s1 H1 ι1 N1 n1 r1 K1 => ?_
 cases x with
 | int i =>
  obtain ⟨w, rw', q⟩ := r1
  have e : w = .int i := q
  subst e
  obtain ⟨t, rfl⟩ := rw'
  exact K1 _ s1 H1 ι1 N1 .refl (.int i t)
 | _ => exact Zf K1
noncomputable def cutI {α : Type} (xs : List α) (lo hi : Option Int) : List α := (xs.drop (HT.sIx xs.length 0 lo)).take (HT.sIx xs.length xs.length hi - HT.sIx xs.length 0 lo)
noncomputable def slI : IV -> Option Int -> Option Int -> IH -> Res IV
 | .ref i, lo, hi, h => match h[i]? with
  | some (.lst xs) => .ok (.ref h.length) (h ++ [.lst (cutI xs lo hi)])
  | _ => .stuck
 | .rol xs, lo, hi, h => .ok (.ref h.length) (h ++ [.lst (cutI xs lo hi)])
 | .tup xs, lo, hi, h => if HT.sIx xs.length 0 lo = 0 /\ HT.sIx xs.length xs.length hi = xs.length then .stuck else .ok (.tup (cutI xs lo hi)) h
 | _, _, _, _ => .stuck
theorem RVs.cut {K : W.Frag} {ι : List Addr} {H : Hp} {xs : List IV} {vs : List V} (r : RVs K ι H xs vs) (lo hi : Option Int) : RVs K ι H (cutI xs lo hi) (cutV vs lo hi) := by
 unfold cutI cutV
 rw [r.length]
 exact (r.drop _).take _
noncomputable def eSl (f : IV -> Option Int -> Option Int -> IH -> Res IV) (e : E1) (lo hi : O1) : E1 := fun σ h => (e σ h).bind fun x h1 => (lo σ h1).bind fun l h2 => (hi σ h2).bind fun u h3 => f x l u h3
noncomputable def SlI (ce : Str -> Option Addr) (X : Cx) (g : IV -> Option Int -> Option Int -> IH -> Res IV) : Prop :=
 ∀ (pins : List (Addr × Obj)) (s : Shared) (σ : L2.St) (H : Hp) (ι : List Addr) (σi : ISt) (h : IH) (x : IV) (v vl vu : Value) (lo hi : Option Int) (sl : Addr) (Q : Value -> Shared -> Prop) (E : Value -> Shared -> Prop), Now ce X pins ι σi h σ H s -> RU X.K ι H x v -> s.heap.IsSliceOf sl vl vu .none -> IsPart vl lo -> IsPart vu hi ->
  Kont ce X RU pins ι σi σ H (g x lo hi h) Q E -> ∃ T id, typeLookup (.type T) "__getitem__" = pure (some (.builtin id)) /\ s.TypeIs v T /\ wpAny (model X.prog X.w) X.A (getItem v (.ref sl)) Q E s
theorem Jwd {pins : List (Addr × Obj)} {s : Shared} {σ : L2.St} {H : Hp} {Q : Value -> Shared -> Prop} {E : Value -> Shared -> Prop} {r : V -> Option Int -> Option Int -> Hp -> VK -> Prop} {x : V} {v vl vu : Value} {lo hi : Option Int} {sl : Addr} (p : SlR (X.wish E) r) (I : Inv X pins σ H s) (rx : RelV x v)
  (hs : s.heap.IsSliceOf sl vl vu .none) (pl : IsPart vl lo) (pu : IsPart vu hi) (k : r x lo hi H fun z H' => ∀ u s', Inv X pins σ H' s' -> RelV z u -> Q u s') :
  ∃ T id, typeLookup (.type T) "__getitem__" = pure (some (.builtin id)) /\ s.TypeIs v T /\ wpAny (model X.prog X.w) X.A (getItem v (.ref sl)) Q E s := by
 obtain ⟨T, id, h1, h2, h3⟩ := p pins s σ H x v vl vu lo hi sl _ (I.wish E) rx hs pl pu k
 exact ⟨T, id, h1, h2, wpAny_mono h3 (fun u s' ⟨_, _, I', r, q⟩ => q u s' I'.unwish r) fun _ _ z => z⟩
theorem J1t {g : IV -> Option Int -> Option Int -> IH -> Res IV} {lo hi : Option Expr} {ml mh : O1} {p2 : Pos} (hr : SlI ce X g) (he : PEi ce X a ma) (hl : PPi ce X lo ml) (hu : PPi ce X hi mh) : PEi ce X (.Subscript a (.Slice lo hi none p2) pos) (eSl g ma ml mh) := by
 intro pins s σ H ι σi h Q E N K
 refine Subscript_ (he.run N K fun x h1 v s1 H1 ι1 N1 n1 r1 K1 => ?_)
 refine wpAny_Slice (PX.run hl N1 K1 fun l h2 vl s2 H2 ι2 N2 n2 pl K2 => PX.run hu N2 K2 fun u h3 vu s3 H3 ι3 N3 n3 pu K3 => ?_)
 rw [evalPart_none]
 refine wpAny_pure ?_
 have I4 : Inv X pins σ H3 { s3 with heap := s3.heap.push { cls := .type "slice", data := .fields #[vl, vu, .none] } } := N3.inv.kept (t' := s3.toks) fun b ob q => Heap.get?_push_of_some _ q
 obtain ⟨T, id, hT, ht, hg⟩ := hr pins { s3 with heap := s3.heap.push { cls := .type "slice", data := .fields #[vl, vu, .none] } } σ H3 ι3 σi h3 x v vl vu l u s3.heap.objs.size Q E ⟨I4, N3.rel, N3.st⟩ ((r1.mono n2).mono n3) (Heap.IsSliceOf.new ..) pl pu K3
 show wpAny (model X.prog X.w) X.A (subscriptTail a (.Slice lo hi none p2) v (.ref s3.heap.objs.size)) Q E { s3 with heap := s3.heap.push { cls := .type "slice", data := .fields #[vl, vu, .none] } }
 exact tail_any (ops := [.ref s3.heap.objs.size, v]) ht hT hg (by with_unfolding_all rfl)
noncomputable def eCB (f : List IV -> IH -> Res IV) (a : A1) : E1 := fun σ h => (a σ h).bind f
variable {es : List Expr} {mr : A1} {x : Str} {p : Pos} {id T : String} {g : List IV -> IH -> Res IV}
theorem Jji (hc : Jkg ce X (.builtin id) g) (hg : Gl X x) (hm : X.mg x = none) (hv : bootBuiltins x = some (.builtin id)) (ha : PAi ce X (a :: es) mr) (hn : x ≠ "__name__" := by decide) (hdb : (x == ("__debug__" : Str)) = false := by decide)
  (he : starEach (a :: es) X.env = (false, eval a X.env) :: starEach es X.env := by rfl) (hpl : (backTo pos (starEach es X.env)).any (·.1) = false := by rfl) : PEi ce X (.Call (.Name x p) (a :: es) [] pos) (eCB g mr) := fun pins s σ H ι σi h Q E N K =>
 wpAny_Call_Name_kw (Jde N.inv hg hm hv (PyProof.Rows.callWith_builtin1 ((ha pos).run N K fun xs h1 us s1 H1 ι1 N1 n1 r1 K1 => hc pins s1 σ H1 ι1 σi h1 xs us Q E N1 r1 K1) he hpl) hn hdb)
theorem Jru (hc : Jkg ce X (.type T) g) (hg : Gl X x) (hm : X.mg x = none) (hv : bootBuiltins x = some (.type T)) (ha : PAi ce X (a :: es) mr) (hn : x ≠ "__name__" := by decide) (hdb : (x == ("__debug__" : Str)) = false := by decide)
  (he : starEach (a :: es) X.env = (false, eval a X.env) :: starEach es X.env := by rfl) (hpl : (backTo pos (starEach es X.env)).any (·.1) = false := by rfl) : PEi ce X (.Call (.Name x p) (a :: es) [] pos) (eCB g mr) := fun pins s σ H ι σi h Q E N K =>
 wpAny_Call_Name_kw (Jde N.inv hg hm hv (PyProof.Rows.callWith_type1 ((ha pos).run N K fun xs h1 us s1 H1 ι1 N1 n1 r1 K1 => hc pins s1 σ H1 ι1 σi h1 xs us Q E N1 r1 K1) he hpl) hn hdb)
noncomputable def on1 (f : IV -> IH -> Res IV) : List IV -> IH -> Res IV
 | [x], h => f x h
 | _, _ => .stuck
noncomputable def on2 (f : IV -> IV -> IH -> Res IV) : List IV -> IH -> Res IV
 | [x, y], h => f x y h
 | _, _ => .stuck
theorem RVs.one_of {K : W.Frag} {ι : List Addr} {H : Hp} {x : IV} {vs : List V} (r : RVs K ι H [x] vs) : ∃ v, vs = [v] /\ RV K ι H x v := by
 obtain ⟨v, r', e, q, q2⟩ := r
 have e2 : r' = [] := q2
 subst e2
 exact ⟨v, e, q⟩
theorem RVs.two_of {K : W.Frag} {ι : List Addr} {H : Hp} {x y : IV} {vs : List V} (r : RVs K ι H [x, y] vs) : ∃ v w, vs = [v, w] /\ RV K ι H x v /\ RV K ι H y w := by
 obtain ⟨v, r', e, q, r2⟩ := r
 obtain ⟨w, e2, q2⟩ := r2.one_of
 subst e2
 exact ⟨v, w, e, q, q2⟩
theorem Jq0 {fv : Value} {f : IV -> IH -> Res IV} (hh : ∀ (pins : List (Addr × Obj)) (s : Shared) (σ : L2.St) (H : Hp) (ι : List Addr) (σi : ISt) (h : IH) (x : IV) (xv : V) (u : Value) (Q : Value -> Shared -> Prop) (E : Value -> Shared -> Prop), Now ce X pins ι σi h σ H s -> RelV xv u -> RV X.K ι H x xv ->
  Kont ce X RU pins ι σi σ H (f x h) Q E -> wpAny (model X.prog X.w) X.A (call fv [u]) Q E s) : Jkg ce X fv (on1 f) := by
 intro pins s σ H ι σi h xs us Q E N r K
 obtain ⟨vs, rv, q⟩ := r
 match xs, K with
 | [x], K =>
  obtain ⟨v, e, qx⟩ := q.one_of
  subst e
  obtain ⟨u, rfl, ru⟩ := Jiz rv
  exact hh pins s σ H ι σi h x v u Q E N ru qx K
 | [], K => exact Zf K
 | _ :: _ :: _, K => exact Zf K
noncomputable def lenI : IV -> IH -> Res IV
 | .str x, h => if x.length <= sizeLine then .ok (.int x.length) h else .stuck
 | .tup xs, h => .ok (.int xs.length) h
 | .rol xs, h => .ok (.int xs.length) h
 | .ref i, h => match h[i]? with
  | some (.lst xs) => .ok (.int xs.length) h
  | _ => .stuck
 | _, _ => .stuck
theorem c_len : Jkg ce X (.builtin "len") (on1 lenI) := Jq0 fun pins s σ H ι σi h x xv u Q E N ru qx K => by
 cases x with
 | str y =>
  have e : xv = .str y := qx
  subst e
  dsimp only [lenI] at K
  split at K
  ·rename_i hz
   exact Ja6 (Jks (X := X.wish E)) N.inv (.cons ru .nil) ⟨_, _, rfl, ⟨hz, rfl⟩, fin0 N K rfl⟩
  ·exact Zf K
 | tup xs =>
  obtain ⟨a, vs, e1, sa, ra⟩ := qx
  subst e1
  exact Ja6 (Jks (X := X.wish E)) N.inv (.cons ru .nil) ⟨_, xs.length, rfl, .inr ⟨vs, sa, ra.length.symm⟩, fin0 N K rfl⟩
 | rol xs =>
  obtain ⟨a, vs, e1, sa, ra⟩ := qx
  subst e1
  exact Ja6 (Jks (X := X.wish E)) N.inv (.cons ru .nil) ⟨_, xs.length, rfl, .inl ⟨vs, sa.sq, ra.length.symm⟩, fin0 N K rfl⟩
 | ref i =>
  obtain ⟨a, e1, ha⟩ := qx
  subst e1
  dsimp only [lenI] at K
  cases hi : h[i]? with
  | none => rw [hi] at K; exact Zf K
  | some ob =>
   rw [hi] at K
   cases ob with
   | lst xs =>
    obtain ⟨vs, e1, r1⟩ := N.at hi ha
    exact Ja6 (Jks (X := X.wish E)) N.inv (.cons ru .nil) ⟨_, xs.length, rfl, .inl ⟨vs, SqL.of e1, r1.length.symm⟩, fin0 N K rfl⟩
   | _ => exact Zf K
 | _ => exact Zf K
end
end L3
namespace L3
open PySem PySem.Spec PyProof.Rows L2
noncomputable def ALen (n : Nat) (m : A1) : Prop := ∀ σ h xs h', m σ h = .ok xs h' -> xs.length = n
theorem Jzf : ALen 0 aNil := fun _ _ xs _ e => by
 unfold aNil at e
 cases e
 rfl
theorem Jwy {n : Nat} {e : E1} {r : A1} (hr : ALen n r) : ALen (n + 1) (Ja e r) := fun σ h xs h' q => by
 unfold Ja at q
 cases e1 : e σ h with
 | ok x h1 =>
  rw [e1] at q
  change (r σ h1).bind (fun xs h2 => .ok (x :: xs) h2) = _ at q
  cases e2 : r σ h1 with
  | ok ys h2 =>
   rw [e2] at q
   cases q
   rw [List.length_cons, hr σ h1 ys _ e2]
  | exc n h2 => rw [e2] at q; cases q
  | stuck => rw [e2] at q; cases q
 | exc n h1 => rw [e1] at q; cases q
 | stuck => rw [e1] at q; cases q
theorem hl1 {n : Nat} {ma : A1} {ds : List Value} {ps : List Str} (l : ALen n ma) (hn : n + ds.length + 1 = ps.length := by rfl) : ∀ σ h xs h', ma σ h = .ok xs h' -> xs.length + ds.length + 1 = ps.length := fun σ h xs h' e => by
 rw [l σ h xs h' e]
 exact hn
noncomputable def Jtq (K : W.Frag) (x : Str) (f : List IV -> IH -> Res IV) : Sp := fun vs H Q E => ∀ ce, spI ce K [x] f vs H Q E
theorem Jyw {P : Program} {w : World} {K : W.Frag} {mg : Str -> Option Value} {base : Heap} {k : Nat} {fa : Addr} {fd : FuncData} {x : Str} {f : List IV -> IH -> Res IV} {ce : Str -> Option Addr} (F : FnOk P w K mg base CX0 k fa fd [x] (spI ce K [x] f)) :
  FnOk P w K mg base CX0 k fa fd [x] (Jtq K x f) := F.imp fun _ _ _ _ h => h ce
end L3
namespace L3
open PySem PySem.Spec PyProof.Rows L2
noncomputable def toD (h : IH) : Nat -> IV -> Option PyData
 | 0 => fun v => match v with
  | .non => some .none
  | .bl b => some (.bool b)
  | .int i => some (.int i)
  | .str x => some (.str x)
  | _ => none
 | n + 1 => fun v => match v with
  | .non => some .none
  | .bl b => some (.bool b)
  | .int i => some (.int i)
  | .str x => some (.str x)
  | .tup xs => (xs.mapM (toD h n)).map .tuple
  | .rol xs => (xs.mapM (toD h n)).map .list
  | .ref i => match h[i]? with
   | some (.lst xs) => (xs.mapM (toD h n)).map .list
   | _ => none
section
variable {ce : Str -> Option Addr} {X : Cx}
theorem Jd8 {pins : List (Addr × Obj)} {s : Shared} {σ : L2.St} {H : Hp} {ι : List Addr} {σi : ISt} {h : IH} {n : Nat} (N : Now ce X pins ι σi h σ H s)
  (ih : ∀ (v : IV) (d : PyData) (x : V) (u : Value), toD h n v = some d -> RV X.K ι H v x -> RelV x u -> ∃ as, Reads s.heap u d as) :
  ∀ (xs : List IV) (ds : List PyData) (vs : List V) (us : List Value), xs.mapM (toD h n) = some ds -> RVs X.K ι H xs vs -> Vals vs us -> ∃ as, ReadsAll s.heap us ds as
 | [], ds, vs, us, e, q, r => by
  have e1 : vs = [] := q
  subst e1
  cases r
  simp at e
  subst e
  exact ⟨_, .nil⟩
 | x :: xs, ds, vs, us, e, q, r => by
  obtain ⟨v, vr, e1, q1, q2⟩ := q
  subst e1
  cases r with
  | cons r1 r2 =>
   rw [List.mapM_cons] at e
   cases e2 : toD h n x with
   | none => rw [e2] at e; cases e
   | some d =>
    rw [e2] at e
    cases e3 : xs.mapM (toD h n) with
    | none => rw [e3] at e; cases e
    | some dr =>
     rw [e3] at e
     cases e
     obtain ⟨as, h1⟩ := ih x d v _ e2 q1 r1
     obtain ⟨bs, h2⟩ := Jd8 N ih xs dr vr _ e3 q2 r2
     exact ⟨_, .cons h1 h2⟩
theorem Jkq {pins : List (Addr × Obj)} {s : Shared} {σ : L2.St} {H : Hp} {ι : List Addr} {σi : ISt} {h : IH} (N : Now ce X pins ι σi h σ H s) : ∀ (n : Nat) (v : IV) (d : PyData) (x : V) (u : Value), toD h n v = some d -> RV X.K ι H v x -> RelV x u -> ∃ as, Reads s.heap u d as := by
 have flat : ∀ (v : IV) (d : PyData) (x : V) (u : Value), toD h 0 v = some d -> RV X.K ι H v x -> RelV x u -> ∃ as, Reads s.heap u d as := by
  intro v d x u e q r
  cases v with
  | non => cases e; have e1 : x = .non := q; subst e1; cases r; exact ⟨_, .none⟩
  | bl b => cases e; have e1 : x = .bl b := q; subst e1; cases r; exact ⟨_, .bool b⟩
  | int i => cases e; have e1 : x = .int i := q; subst e1; obtain ⟨t, rfl⟩ := r; exact ⟨_, .int i t⟩
  | str z => cases e; have e1 : x = .str z := q; subst e1; obtain ⟨t, rfl⟩ := r; exact ⟨_, .str z t⟩
  | _ => cases e
 intro n
 induction n with
 | zero => exact flat
 | succ n ih =>
  intro v d x u e q r
  cases v with
  | non => exact flat .non d x u e q r
  | bl b => exact flat (.bl b) d x u e q r
  | int i => exact flat (.int i) d x u e q r
  | str z => exact flat (.str z) d x u e q r
  | tup xs =>
   obtain ⟨a, vs, e1, sa, ra⟩ := q
   subst e1
   cases r
   obtain ⟨ds, e2, rfl⟩ := Option.map_eq_some_iff.mp (show (xs.mapM (toD h n)).map PyData.tuple = some d from e)
   obtain ⟨its, rv, ⟨o, ho, hc, m, hd⟩, hz⟩ := N.inv.tuple sa
   obtain ⟨as, h1⟩ := Jd8 N ih xs ds vs its e2 ra rv
   exact ⟨_, .tuple ho hc hd h1⟩
  | rol xs =>
   obtain ⟨a, vs, e1, sa, ra⟩ := q
   subst e1
   cases r
   obtain ⟨ds, e2, rfl⟩ := Option.map_eq_some_iff.mp (show (xs.mapM (toD h n)).map PyData.list = some d from e)
   obtain ⟨its, rv, ⟨o, m, ho, hc, _, hd⟩, hz⟩ := N.inv.list sa.sq
   obtain ⟨as, h1⟩ := Jd8 N ih xs ds vs its e2 ra rv
   exact ⟨_, .list ho hc hd h1⟩
  | ref i =>
   obtain ⟨a, e1, ha⟩ := q
   subst e1
   cases r
   have e' : (match h[i]? with | some (.lst xs) => (xs.mapM (toD h n)).map PyData.list | _ => none) = some d := e
   cases hi : h[i]? with
   | none => rw [hi] at e'; cases e'
   | some ob =>
    rw [hi] at e'
    cases ob with
    | lst xs =>
     obtain ⟨ds, e2, rfl⟩ := Option.map_eq_some_iff.mp e'
     obtain ⟨vs, e1, r1⟩ := N.at hi ha
     obtain ⟨its, rv, ⟨o, m, ho, hc, _, hd⟩, hz⟩ := N.inv.list (SqL.of e1)
     obtain ⟨as, h1⟩ := Jd8 N ih xs ds vs its e2 r1 rv
     exact ⟨_, .list ho hc hd h1⟩
    | _ => cases e'
theorem Jeb {n : Nat} {f : IV -> Option PyData} (hf : ∀ v d, f v = some d -> d.depth <= n) : ∀ (xs : List IV) (ds : List PyData), xs.mapM f = some ds -> PyData.depthAll ds <= n
 | [], ds, e => by simp at e; subst e; exact Nat.zero_le _
 | x :: xs, ds, e => by
  rw [List.mapM_cons] at e
  cases e2 : f x with
  | none => rw [e2] at e; cases e
  | some d =>
   rw [e2] at e
   cases e3 : xs.mapM f with
   | none => rw [e3] at e; cases e
   | some dr =>
    rw [e3] at e
    cases e
    have h1 := hf x d e2
    have h2 := Jeb hf xs dr e3
    show max d.depth (PyData.depthAll dr) <= n
    omega
theorem Jqy {h : IH} : ∀ (n : Nat) (v : IV) (d : PyData), toD h n v = some d -> d.depth <= n := by
 intro n
 induction n with
 | zero =>
  intro v d e
  cases v <;> cases e <;> exact Nat.le_refl _
 | succ n ih =>
  intro v d e
  cases v with
  | non => cases e; exact Nat.zero_le _
  | bl b => cases e; exact Nat.zero_le _
  | int i => cases e; exact Nat.zero_le _
  | str z => cases e; exact Nat.zero_le _
  | tup xs =>
   obtain ⟨ds, e2, rfl⟩ := Option.map_eq_some_iff.mp (show (xs.mapM (toD h n)).map PyData.tuple = some d from e)
   exact Nat.succ_le_succ (Jeb ih xs ds e2)
  | rol xs =>
   obtain ⟨ds, e2, rfl⟩ := Option.map_eq_some_iff.mp (show (xs.mapM (toD h n)).map PyData.list = some d from e)
   exact Nat.succ_le_succ (Jeb ih xs ds e2)
  | ref i =>
   have e' : (match h[i]? with | some (.lst xs) => (xs.mapM (toD h n)).map PyData.list | _ => none) = some d := e
   cases hi : h[i]? with
   | none => rw [hi] at e'; cases e'
   | some ob =>
    rw [hi] at e'
    cases ob with
    | lst xs =>
     obtain ⟨ds, e2, rfl⟩ := Option.map_eq_some_iff.mp e'
     exact Nat.succ_le_succ (Jeb ih xs ds e2)
    | _ => cases e'
noncomputable def Jl9 : IV -> IV -> Option Bool
 | .non, .non => some true
 | .int i, .int j => some (decide (i = j))
 | .str i, .str j => some (decide (i = j))
 | .bl i, .bl j => some (decide (i = j))
 | _, _ => none
noncomputable def Jmn (x y : IV) (h : IH) : Option Bool := match toD h 6 x, toD h 6 y with
 | some a, some b => if a.canLay0 = true /\ b.canLay0 = true then some (PyData.eqv a b) else none
 | _, _ => none
noncomputable def cEq (x y : IV) (h : IH) : Res IV := match Jl9 x y with
 | some b => .ok (.bl b) h
 | none => match Jmn x y h with
  | some b => .ok (.bl b) h
  | none => .stuck
noncomputable def cNe (x y : IV) (h : IH) : Res IV := match Jl9 x y with
 | some b => .ok (.bl (!b)) h
 | none => match Jmn x y h with
  | some b => .ok (.bl (!b)) h
  | none => .stuck
theorem Jsa {x y : IV} {h : IH} {b : Bool} (e : Jmn x y h = some b) : ∃ da db, toD h 6 x = some da /\ toD h 6 y = some db /\ da.canLay0 = true /\ db.canLay0 = true /\ b = PyData.eqv da db := by
 unfold Jmn at e
 cases e1 : toD h 6 x with
 | none => rw [e1] at e; cases e
 | some da =>
  cases e2 : toD h 6 y with
  | none => rw [e1, e2] at e; cases e
  | some db =>
   rw [e1, e2] at e
   dsimp only at e
   split at e
   ·rename_i hz
    cases e
    exact ⟨da, db, rfl, rfl, hz.1, hz.2, rfl⟩
   ·cases e
theorem Jpb {K : W.Frag} {ι : List Addr} {H : Hp} {x y : IV} {b : Bool} {xv yv : V} (e : Jl9 x y = some b) (qx : RV K ι H x xv) (qy : RV K ι H y yv) : scal xv yv = true /\ decide (xv = yv) = b := by
 cases x with
 | non =>
  cases y with
  | non => cases e; cases (show xv = .non from qx); cases (show yv = .non from qy); exact ⟨rfl, rfl⟩
  | _ => cases e
 | int i =>
  cases y with
  | int j => cases e; cases (show xv = .int i from qx); cases (show yv = .int j from qy); exact ⟨rfl, by simp⟩
  | _ => cases e
 | str i =>
  cases y with
  | str j => cases e; cases (show xv = .str i from qx); cases (show yv = .str j from qy); exact ⟨rfl, by simp⟩
  | _ => cases e
 | bl i =>
  cases y with
  | bl j => cases e; cases (show xv = .bl i from qx); cases (show yv = .bl j from qy); exact ⟨rfl, by simp⟩
  | _ => cases e
 | _ => cases y <;> cases e
theorem o_eq (hu : X.A.units + 64 < cLine) : OpI ce X (compareOp .Eq) cEq := by
 intro pins s σ H ι σi h x y v u Q E N rx ry K
 obtain ⟨xv, rx, qx⟩ := rx
 obtain ⟨yv, ry, qy⟩ := ry
 unfold cEq at K
 cases es : Jl9 x y with
 | some b =>
  rw [es] at K
  obtain ⟨h1, h2⟩ := Jpb es qx qy
  exact Jbq (op_eq (X := X.wish E)) N.inv rx ry ⟨h1, by rw [h2]; exact fin0 N K rfl⟩
 | none =>
  rw [es] at K
  dsimp only at K
  cases ed : Jmn x y h with
  | none => rw [ed] at K; exact Zf K
  | some b =>
   rw [ed] at K
   obtain ⟨da, db, e1, e2, c1, c2, rfl⟩ := Jsa ed
   obtain ⟨as, r1⟩ := Jkq N 6 x da xv v e1 qx rx
   obtain ⟨bs, r2⟩ := Jkq N 6 y db yv u e2 qy ry
   have d1 := Jqy 6 x da e1
   exact PySem.SeqAt.compareEq_reads r1 r2 c1 c2 (by omega) (fin0 N K rfl _ s N.inv rfl)
theorem o_ne (hu : X.A.units + 64 < cLine) : OpI ce X (compareOp .NotEq) cNe := by
 intro pins s σ H ι σi h x y v u Q E N rx ry K
 obtain ⟨xv, rx, qx⟩ := rx
 obtain ⟨yv, ry, qy⟩ := ry
 unfold cNe at K
 cases es : Jl9 x y with
 | some b =>
  rw [es] at K
  obtain ⟨h1, h2⟩ := Jpb es qx qy
  exact Jbq (op_ne (X := X.wish E)) N.inv rx ry ⟨h1, by rw [h2]; exact fin0 N K rfl⟩
 | none =>
  rw [es] at K
  dsimp only at K
  cases ed : Jmn x y h with
  | none => rw [ed] at K; exact Zf K
  | some b =>
   rw [ed] at K
   obtain ⟨da, db, e1, e2, c1, c2, rfl⟩ := Jsa ed
   obtain ⟨as, r1⟩ := Jkq N 6 x da xv v e1 qx rx
   obtain ⟨bs, r2⟩ := Jkq N 6 y db yv u e2 qy ry
   have d1 := Jqy 6 x da e1
   exact PySem.SeqAt.compareNe_reads r1 r2 c1 c2 (by omega) (fin0 N K rfl _ s N.inv rfl)
noncomputable def inI (x c : IV) (h : IH) : Option Bool := match toD h 6 c, toD h 6 x with
 | some (.list ds), some d => if PyData.canLayAll0 ds = true /\ d.canLay0 = true then some (ds.any fun y => PyData.eqv y d) else none
 | some (.tuple ds), some d => if PyData.canLayAll0 ds = true /\ d.canLay0 = true then some (ds.any fun y => PyData.eqv y d) else none
 | _, _ => none
noncomputable def cIn (x c : IV) (h : IH) : Res IV := match inI x c h with
 | some b => .ok (.bl b) h
 | none => .stuck
noncomputable def cNotIn (x c : IV) (h : IH) : Res IV := match inI x c h with
 | some b => .ok (.bl (!b)) h
 | none => .stuck
noncomputable def isI : IV -> IV -> Option Bool
 | .non, .non => some true
 | .bl a, .bl b => some (a == b)
 | .bl _, .non => some false
 | .int _, .non => some false
 | .str _, .non => some false
 | .tup _, .non => some false
 | .rol _, .non => some false
 | .ref _, .non => some false
 | .non, .bl _ => some false
 | .int _, .bl _ => some false
 | .str _, .bl _ => some false
 | .tup _, .bl _ => some false
 | .rol _, .bl _ => some false
 | .ref _, .bl _ => some false
 | _, _ => none
noncomputable def cIs (x y : IV) (h : IH) : Res IV := match isI x y with
 | some b => .ok (.bl b) h
 | none => .stuck
noncomputable def Ju8 (x y : IV) (h : IH) : Res IV := match isI x y with
 | some b => .ok (.bl (!b)) h
 | none => .stuck
theorem J0q {K : W.Frag} {ι : List Addr} {H : Hp} {x y : IV} {b : Bool} {v u : Value} (e : isI x y = some b) (rx : RU K ι H x v) (ry : RU K ι H y u) : plainIs v u = true /\ (v == u) = b := by
 obtain ⟨xv, rx, qx⟩ := rx
 obtain ⟨yv, ry, qy⟩ := ry
 cases y with
 | non =>
  cases (show yv = .non from qy)
  cases ry
  cases x with
  | non => cases e; cases (show xv = .non from qx); cases rx; exact ⟨rfl, rfl⟩
  | bl c => cases e; cases (show xv = .bl c from qx); cases rx; exact ⟨rfl, rfl⟩
  | int c => cases e; cases (show xv = .int c from qx); obtain ⟨t, rfl⟩ := rx; exact ⟨rfl, rfl⟩
  | str c => cases e; cases (show xv = .str c from qx); obtain ⟨t, rfl⟩ := rx; exact ⟨rfl, rfl⟩
  | tup c => cases e; obtain ⟨a, vs, rfl, _⟩ := qx; cases rx; exact ⟨rfl, rfl⟩
  | rol c => cases e; obtain ⟨a, vs, rfl, _⟩ := qx; cases rx; exact ⟨rfl, rfl⟩
  | ref c => cases e; obtain ⟨a, rfl, _⟩ := qx; cases rx; exact ⟨rfl, rfl⟩
 | bl d =>
  cases (show yv = .bl d from qy)
  cases ry
  cases x with
  | non => cases e; cases (show xv = .non from qx); cases rx; exact ⟨rfl, rfl⟩
  | bl c => cases e; cases (show xv = .bl c from qx); cases rx; cases c <;> cases d <;> exact ⟨rfl, rfl⟩
  | int c => cases e; cases (show xv = .int c from qx); obtain ⟨t, rfl⟩ := rx; exact ⟨rfl, rfl⟩
  | str c => cases e; cases (show xv = .str c from qx); obtain ⟨t, rfl⟩ := rx; exact ⟨rfl, rfl⟩
  | tup c => cases e; obtain ⟨a, vs, rfl, _⟩ := qx; cases rx; exact ⟨rfl, rfl⟩
  | rol c => cases e; obtain ⟨a, vs, rfl, _⟩ := qx; cases rx; exact ⟨rfl, rfl⟩
  | ref c => cases e; obtain ⟨a, rfl, _⟩ := qx; cases rx; exact ⟨rfl, rfl⟩
 | _ => cases x <;> cases e
theorem o_is : OpI ce X (compareOp .Is) cIs := by
 intro pins s σ H ι σi h x y v u Q E N rx ry K
 unfold cIs at K
 cases ei : isI x y with
 | none => rw [ei] at K; exact Zf K
 | some b =>
  rw [ei] at K
  obtain ⟨h1, h2⟩ := J0q ei rx ry
  exact wpAny_is_plain h1 (by rw [h2]; exact fin0 N K rfl _ s N.inv rfl)
theorem J01 : OpI ce X (compareOp .IsNot) Ju8 := by
 intro pins s σ H ι σi h x y v u Q E N rx ry K
 unfold Ju8 at K
 cases ei : isI x y with
 | none => rw [ei] at K; exact Zf K
 | some b =>
  rw [ei] at K
  obtain ⟨h1, h2⟩ := J0q ei rx ry
  exact wpAny_isNot_plain h1 (by rw [h2]; exact fin0 N K rfl _ s N.inv rfl)
inductive Ty where
 | non | bl | int | str | lst | tup | dct | ins (c : Str)
noncomputable def tyI : IV -> IH -> Option Ty
 | .non, _ => some .non
 | .bl _, _ => some .bl
 | .int _, _ => some .int
 | .str _, _ => some .str
 | .tup _, _ => some .tup
 | .rol _, _ => some .lst
 | .ref i, h => match h[i]? with
  | some (.lst _) => some .lst
  | some (.dct _) => some .dct
  | some (.ins c _) => some (.ins c)
  | _ => none
structure ClsI (K : W.Frag) (C : Addr) : Prop where
 cl : Cls K C
 ha : W.findIn K (.ref C) "__class__" = some (some (.builtin "object.__class__"))
 hn : W.specialIn K (.builtin "object.__class__") "__get__" = some (some (.builtin "getset_descriptor.__get__"))
 htk : W.takesIn K (.builtin "object.__class__") = some true
 hm : W.mroIn K C (.type "object") = some true
structure IsOk (ce : Str -> Option Addr) (K : W.Frag) (c : Value) (ans : Ty -> Option Bool) : Prop where
 non : ∀ b, ans .non = some b -> W.kitOne K (.type "NoneType") c = some b
 bl : ∀ b, ans .bl = some b -> W.kitOne K (.type "bool") c = some b
 int : ∀ b, ans .int = some b -> W.kitOne K (.type "int") c = some b
 str : ∀ b, ans .str = some b -> W.kitOne K (.type "str") c = some b
 lst : ∀ b, ans .lst = some b -> W.kitOne K (.type "list") c = some b
 tup : ∀ b, ans .tup = some b -> W.kitOne K (.type "tuple") c = some b
 dct : ∀ b, ans .dct = some b -> W.kitOne K (.type "dict") c = some b
 ins : ∀ k C b, ans (.ins k) = some b -> ce k = some C -> ClsI K C /\ W.kitOne K (.ref C) c = some b
noncomputable def eIsi (ans : Ty -> Option Bool) (e : E1) : E1 := fun σ h => (e σ h).bind fun v h1 => match (tyI v h1).bind ans with
 | some b => .ok (.bl b) h1
 | none => .stuck
theorem J02 {pins : List (Addr × Obj)} {s : Shared} {σ : L2.St} {H : Hp} {ι : List Addr} {σi : ISt} {h : IH} {x : IV} {u c : Value} {ans : Ty -> Option Bool} {b : Bool} {Q : Value -> Shared -> Prop} {E : Value -> Shared -> Prop} {A : Around} (N : Now ce X pins ι σi h σ H s) (rx : RU X.K ι H x u) (O : IsOk ce X.K c ans)
  (e : (tyI x h).bind ans = some b) (hq : ∀ tk, Q (.bool b) { s with toks := tk }) : wpAny (model X.prog X.w) A (call (.builtin "isinstance") [u, c]) Q E s := by
 obtain ⟨xv, rx, qx⟩ := rx
 cases x with
 | non => cases (show xv = .non from qx); cases rx; exact W.kia_one W.kitx_none N.inv.kIn True.intro (O.non b e) (fun z => nomatch z) hq
 | bl i => cases (show xv = .bl i from qx); cases rx; exact W.kia_one W.kitx_bool N.inv.kIn True.intro (O.bl b e) (fun z => nomatch z) hq
 | int i => cases (show xv = .int i from qx); obtain ⟨t, rfl⟩ := rx; exact W.kia_one W.kitx_int N.inv.kIn True.intro (O.int b e) (fun z => nomatch z) hq
 | str i => cases (show xv = .str i from qx); obtain ⟨t, rfl⟩ := rx; exact W.kia_one W.kitx_str N.inv.kIn True.intro (O.str b e) (fun z => nomatch z) hq
 | tup xs =>
  obtain ⟨a, vs, rfl, sa, _⟩ := qx
  cases rx
  obtain ⟨its, rv, ⟨o, ho, hc, m, hd⟩, hz⟩ := N.inv.tuple sa
  exact W.kia_one W.kitx_tuple N.inv.kIn ⟨o, ho, hc⟩ (O.tup b e) (fun z => nomatch z) hq
 | rol xs =>
  obtain ⟨a, vs, rfl, sa, _⟩ := qx
  cases rx
  obtain ⟨its, rv, ⟨o, m, ho, hc, _, hd⟩, hz⟩ := N.inv.list sa.sq
  exact W.kia_one W.kitx_list N.inv.kIn ⟨o, ho, hc⟩ (O.lst b e) (fun z => nomatch z) hq
 | ref i =>
  obtain ⟨a, rfl, ha⟩ := qx
  cases rx
  cases hi : h[i]? with
  | none => simp [tyI, hi] at e
  | some ob =>
   cases ob with
   | lst xs =>
    simp only [tyI, hi] at e
    obtain ⟨vs, e1, r1⟩ := N.at hi ha
    obtain ⟨its, rv, ⟨o, m, ho, hc, _, hd⟩, hz⟩ := N.inv.list (SqL.of e1)
    exact W.kia_one W.kitx_list N.inv.kIn ⟨o, ho, hc⟩ (O.lst b e) (fun z => nomatch z) hq
   | dct kvs =>
    simp only [tyI, hi] at e
    obtain ⟨vs, e1, r1⟩ := N.at hi ha
    obtain ⟨_, _, ws, _, p⟩ := (show Jdl X.prog X.w H s.heap a (.dK vs) from N.inv.hok a _ e1)
    obtain ⟨o, es, ep, h1, h2, _⟩ := p
    exact W.kia_one W.kitx_dict N.inv.kIn ⟨o, h1, h2.1⟩ (O.dct b e) (fun z => nomatch z) hq
   | ins c fs =>
    simp only [tyI, hi] at e
    obtain ⟨C, dx, vs, hC, hH, rp⟩ := N.at hi ha
    obtain ⟨I, hk⟩ := O.ins c C b e hC
    obtain ⟨mA, Ob, _⟩ := Jnt N.inv.hok hH
    obtain ⟨od, J, _⟩ := Ob.look
    exact W.kia_one (W.kitx_own (I.cl.get _) I.cl.hd I.ha I.hn I.htk I.hm) N.inv.kIn J hk (fun z => nomatch z) hq
   | exc c fs => simp [tyI, hi] at e
   | tab q => simp [tyI, hi] at e
variable {a cx : Expr} {ma : E1} {pos p : Pos}
noncomputable def ClsE (X : Cx) (cx : Expr) (c : Value) : Prop := ∀ (pins : List (Addr × Obj)) (σ : L2.St) (H : Hp) (s : Shared) (Q : Value -> Shared -> Prop) (E : Value -> Shared -> Prop), Inv X pins σ H s -> Q c s -> wpAny (model X.prog X.w) X.A (eval cx X.env) Q E s
theorem Jlb {x : Str} {c : Value} (hg : Gl X x) (hm : X.mg x = none) (hv : bootBuiltins x = some c) (hn : x ≠ "__name__" := by decide) (hdb : (x == ("__debug__" : Str)) = false := by decide) : ClsE X (.Name x p) c := fun _ _ _ _ _ _ I q => Jde I hg hm hv q hn hdb
theorem J12 {x : Str} {c : Value} (hg : Gl X x) (hm : X.mg x = some c) (hdb : (x == ("__debug__" : Str)) = false := by decide) : ClsE X (.Name x p) c := fun _ _ _ _ _ _ I q => Jjo I hg hm q hdb
theorem i_isi {ans : Ty -> Option Bool} {c : Value} (hc : ClsE X cx c) (O : IsOk ce X.K c ans) (ha : PEi ce X a ma) (hg : Gl X "isinstance") (hm : X.mg "isinstance" = none) (hv : bootBuiltins "isinstance" = some (.builtin "isinstance") := by rfl)
  (he : starEach [a, cx] X.env = (false, eval a X.env) :: starEach [cx] X.env := by rfl) (he2 : starEach [cx] X.env = (false, eval cx X.env) :: starEach [] X.env := by rfl) (hpl : (backTo pos (starEach [cx] X.env)).any (·.1) = false := by rfl) : PEi ce X (.Call (.Name "isinstance" p) [a, cx] [] pos) (eIsi ans ma) := by
 intro pins s σ H ι σi h Q E N K
 refine wpAny_Call_Name_kw (Jde N.inv hg hm hv ?_ (by decide) (by decide))
 refine PyProof.Rows.callWith_builtin1 ?_ he hpl
 rw [he]
 show wpAny _ _ (spliced ((false, eval a X.env) :: backTo pos (starEach [cx] X.env))) _ _ s
 refine Calls.spliced_cons (ha.run N K fun x h1 u s1 H1 ι1 N1 n1 r1 K1 => ?_)
 rw [he2]
 show wpAny _ _ (spliced ((false, eval cx X.env) :: backTo pos (starEach [] X.env))) _ _ s1
 refine Calls.spliced_cons (hc pins σ H1 s1 _ E N1.inv ?_)
 refine Calls.spliced_nil ?_
 cases e : (tyI x h1).bind ans with
 | none => rw [e] at K1; exact Zf K1
 | some b =>
  rw [e] at K1
  exact J02 N1 r1 O e fun tk => K1 _ _ H1 ι1 ⟨N1.inv.tok tk, N1.rel, N1.st⟩ .refl ⟨.bl b, rfl, rfl⟩
noncomputable def Jco : Ty -> Option Bool
 | .int => some true | .bl => some true | .ins _ => none | _ => some false
noncomputable def Jbh : Ty -> Option Bool
 | .bl => some true | .ins _ => none | _ => some false
noncomputable def Jc3 : Ty -> Option Bool
 | .str => some true | .ins _ => none | _ => some false
noncomputable def Jay : Ty -> Option Bool
 | .lst => some true | .ins _ => none | _ => some false
noncomputable def Jcw : Ty -> Option Bool
 | .tup => some true | .ins _ => none | _ => some false
theorem Jvl {K : W.Frag} : IsOk ce K (.type "bool") Jbh := by
 refine ⟨?_, ?_, ?_, ?_, ?_, ?_, ?_, fun k C b e => by cases e⟩ <;> (intro b e; cases e; first | rfl | with_unfolding_all rfl | kernel_rfl)
theorem Jy7 {K : W.Frag} : IsOk ce K (.type "str") Jc3 := by
 refine ⟨?_, ?_, ?_, ?_, ?_, ?_, ?_, fun k C b e => by cases e⟩ <;> (intro b e; cases e; first | rfl | with_unfolding_all rfl | kernel_rfl)
theorem Jxn {K : W.Frag} : IsOk ce K (.type "list") Jay := by
 refine ⟨?_, ?_, ?_, ?_, ?_, ?_, ?_, fun k C b e => by cases e⟩ <;> (intro b e; cases e; first | rfl | with_unfolding_all rfl | kernel_rfl)
theorem Jy0 {K : W.Frag} : IsOk ce K (.type "tuple") Jcw := by
 refine ⟨?_, ?_, ?_, ?_, ?_, ?_, ?_, fun k C b e => by cases e⟩ <;> (intro b e; cases e; first | rfl | with_unfolding_all rfl | kernel_rfl)
theorem Jyu {K : W.Frag} : IsOk ce K (.type "int") Jco := by
 refine ⟨?_, ?_, ?_, ?_, ?_, ?_, ?_, fun k C b e => by cases e⟩ <;> (intro b e; cases e; first | rfl | with_unfolding_all rfl | kernel_rfl)
end
end L3
namespace L3
open PySem PySem.Spec PyProof.Rows L2
noncomputable def clOf (cells : List (Str × Addr)) : List (Str × NameKind) -> List (Str × Addr) -> List (Str × Addr)
 | [], acc => acc
 | (n, k) :: r, acc => clOf cells r (if (k == NameKind.free) = true then (match cells.lookup n with | some c => (n, c) :: acc | none => acc) else acc)
theorem Jmg {env : Env} (names : List (Str × NameKind)) (acc : List (Str × Addr)) (h : ∀ x ∈ names, x.2 = .free -> ∃ c, env.cells.lookup x.1 = some c) :
  (forIn names acc (fun (x : Str × NameKind) (r : List (Str × Addr)) => if (x.2 == NameKind.free) = true then (do let c <- cellOf env x.1; pure (ForInStep.yield ((x.1, c) :: r))) else pure (ForInStep.yield r)) : Sem (List (Str × Addr))) = pure (clOf env.cells names acc) := by
 induction names generalizing acc with
 | nil => rfl
 | cons x r ih =>
  obtain ⟨n, k⟩ := x
  have ih' := fun a => ih a fun y hy => h y (List.mem_cons_of_mem _ hy)
  rw [List.forIn_cons]
  by_cases hk : (k == NameKind.free) = true
  ·have hk' : k = .free := by
    cases k <;> first | rfl | exact absurd hk (by decide)
   obtain ⟨c, hc⟩ := h (n, k) List.mem_cons_self hk'
   have e1 : cellOf env n = pure c := by unfold cellOf; rw [hc]
   simp only [hk, if_true, e1, pure_bind]
   rw [ih']
   simp only [clOf, hk, if_true, hc]
  ·simp only [hk, Bool.false_eq_true, if_false, pure_bind]
   rw [ih']
   simp only [clOf, hk, Bool.false_eq_true, if_false]
theorem Jil {scope : Scope} {env : Env} (h : ∀ x ∈ scope.names, x.2 = .free -> ∃ c, env.cells.lookup x.1 = some c) : closureFor scope env = pure (clOf env.cells scope.names []) := by
 have e := Jmg (env := env) scope.names [] h
 have e2 : closureFor scope env = ((forIn scope.names [] (fun (x : Str × NameKind) (r : List (Str × Addr)) => if (x.2 == NameKind.free) = true then (do let c <- cellOf env x.1; pure (ForInStep.yield ((x.1, c) :: r))) else pure (ForInStep.yield r)) : Sem (List (Str × Addr))) >>= fun s => pure s) := rfl
 rw [e2, e]
 rfl
theorem Jnv {cells : List (Str × Addr)} : ∀ (names : List (Str × NameKind)) (acc : List (Str × Addr)), (∀ x c, acc.lookup x = some c -> cells.lookup x = some c) -> ∀ x c, (clOf cells names acc).lookup x = some c -> cells.lookup x = some c
 | [], _, h, x, c, e => h x c e
 | (n, k) :: r, acc, h, x, c, e => by
  refine Jnv r _ ?_ x c e
  intro y d q
  split at q
  ·cases hc : cells.lookup n with
   | none => rw [hc] at q; exact h y d q
   | some a =>
    rw [hc] at q
    simp only [List.lookup_cons] at q
    cases hb : y == n with
    | true =>
     rw [hb] at q
     cases q
     rw [beq_iff_eq.mp hb]
     exact hc
    | false =>
     rw [hb] at q
     exact h y d q
  ·exact h y d q
theorem Jpw {cells : List (Str × Addr)} : ∀ (names : List (Str × NameKind)) (acc : List (Str × Addr)) (x : Str), (acc.lookup x).isSome = true -> ((clOf cells names acc).lookup x).isSome = true
 | [], _, _, h => h
 | (n, k) :: r, acc, x, h => by
  refine Jpw r _ x ?_
  split
  ·cases hc : cells.lookup n with
   | none => exact h
   | some a =>
    simp only [List.lookup_cons]
    cases hb : x == n with
    | true => rfl
    | false => exact h
  ·exact h
theorem Jht {cells : List (Str × Addr)} : ∀ (names : List (Str × NameKind)) (acc : List (Str × Addr)) (x : Str) (c : Addr), (x, NameKind.free) ∈ names -> cells.lookup x = some c -> ((clOf cells names acc).lookup x).isSome = true
 | [], _, _, _, h, _ => by simp at h
 | (n, k) :: r, acc, x, c, h, hc => by
  rcases List.mem_cons.mp h with e | e
  ·obtain ⟨rfl, rfl⟩ := Prod.mk.inj e
   refine Jpw r _ _ ?_
   simp [hc]
  ·exact Jht r _ x c e hc
theorem Jdk {env : Env} : ∀ {names : List (Str × NameKind)} {x : Str} {k : NameKind},
  (names.map fun (n, k) => if (k == NameKind.free && env.scope.kind == .function && env.kindOf n == some .cell) then (n, NameKind.cell) else (n, k)).lookup x = some k ->
  ∃ k0, names.lookup x = some k0 /\ (k, k0) ∈ ([(k0, k0), (.cell, .free)] : List (NameKind × NameKind))
 | [], _, _, h => by simp at h
 | (n, k1) :: r, x, k, h => by
  have ih := @Jdk env r x k
  have h' : List.lookup x ((if (k1 == NameKind.free && env.scope.kind == .function && env.kindOf n == some .cell) = true then (n, NameKind.cell) else (n, k1)) :: _) = some k := h
  cases hx : x == n with
  | true =>
   refine ⟨k1, by simp [List.lookup_cons, hx], ?_⟩
   by_cases hc : (k1 == NameKind.free && env.scope.kind == .function && env.kindOf n == some .cell) = true
   ·rw [if_pos hc] at h'
    simp only [List.lookup_cons, hx] at h'
    cases h'
    simp only [Bool.and_eq_true, beq_iff_eq] at hc
    rw [hc.1.1]
    simp
   ·rw [if_neg hc] at h'
    simp only [List.lookup_cons, hx] at h'
    cases h'
    simp
  | false =>
   have h2 : List.lookup x (r.map fun (n, k) => if (k == NameKind.free && env.scope.kind == .function && env.kindOf n == some .cell) then (n, NameKind.cell) else (n, k)) = some k := by
    by_cases hc : (k1 == NameKind.free && env.scope.kind == .function && env.kindOf n == some .cell) = true
    ·rw [if_pos hc] at h'; simpa only [List.lookup_cons, hx] using h'
    ·rw [if_neg hc] at h'; simpa only [List.lookup_cons, hx] using h'
   obtain ⟨k0, e, m⟩ := ih h2
   exact ⟨k0, by simp only [List.lookup_cons, hx]; exact e, m⟩
theorem Jjx {env : Env} : ∀ {names : List (Str × NameKind)} {x : Str}, names.lookup x = some .free ->
  ∃ k, (names.map fun (n, k) => if (k == NameKind.free && env.scope.kind == .function && env.kindOf n == some .cell) then (n, NameKind.cell) else (n, k)).lookup x = some k /\ (k = .cell ∨ k = .free)
 | [], _, h => by simp at h
 | (n, k1) :: r, x, h => by
  have ih := @Jjx env r x
  cases hx : x == n with
  | true =>
   simp only [List.lookup_cons, hx] at h
   cases h
   by_cases hc : (NameKind.free == NameKind.free && env.scope.kind == .function && env.kindOf n == some .cell) = true
   ·exact ⟨.cell, by rw [List.map_cons]; dsimp only; rw [if_pos hc]; simp only [List.lookup_cons, hx], .inl rfl⟩
   ·exact ⟨.free, by rw [List.map_cons]; dsimp only; rw [if_neg hc]; simp only [List.lookup_cons, hx], .inr rfl⟩
  | false =>
   simp only [List.lookup_cons, hx] at h
   obtain ⟨k, e, q⟩ := ih h
   refine ⟨k, ?_, q⟩
   rw [List.map_cons]
   dsimp only
   by_cases hc : (k1 == NameKind.free && env.scope.kind == .function && env.kindOf n == some .cell) = true
   ·rw [if_pos hc]; simp only [List.lookup_cons, hx]; exact e
   ·rw [if_neg hc]; simp only [List.lookup_cons, hx]; exact e
noncomputable def cxC (X : Cx) (N' : List Str) (scope : Scope) (C : Addr) (s : Shared) (H : Hp) (fp : List Addr) : Cx :=
 { X with N := N', s₀ := s, H₀ := H, env := compEnvC scope (clOf X.env.cells scope.names []) C X.env, outer := X.stack, ex := fp, fn := fun _ => false, pn := [] }
noncomputable def Je4 (N0 loc caps : List Str) (js : List Nat) (sc₀ scope : Scope) : Bool :=
 decide (scope.kind = .function) && decide (sc₀.kind = .function) && scope.names.all (fun x => !(x.2 == .cell)) && scope.names.all (fun x => !(x.2 == .local) || decide (scope.names.lookup x.1 = some .local)) &&
 scope.names.all (fun x => !(x.2 == .free) || decide (sc₀.names.lookup x.1 = some .cell) || decide (sc₀.names.lookup x.1 = some .free)) &&
 scope.names.all (fun x => !(decide (scope.names.lookup x.1 = some .free)) || (x.2 == .free)) &&
 (js.zip caps).all (fun p => decide (N0[p.1]? = some p.2) && decide (scope.names.lookup p.2 = some .free)) && decide (js.length = caps.length) && decide (loc ++ caps).Nodup &&
 loc.all (fun n => decide (scope.names.lookup n = some .local))
open Classical in
noncomputable def Je6 (chk : IH -> Prop) (g : G1) (t : T1) (e : E1) (i0 : Nat) : List IV -> ISt -> IH -> Res IV
 | [], _, h => if chk h then .ok (.ref i0) h else .stuck
 | x :: xs, σ, h => if chk h then (match g x σ h with
   | .next σ1 h1 => (match t σ1 h1 with
    | .ok true h2 => (match e σ1 h2 with
     | .ok v h3 => (match h3[i0]? with
      | some (.lst acc) => if acc.length < sizeLine then Je6 chk g t e i0 xs σ1 (h3.set i0 (.lst (acc ++ [v]))) else .stuck
      | _ => .stuck)
     | _ => .stuck)
    | .ok false h2 => Je6 chk g t e i0 xs σ1 h2
    | _ => .stuck)
   | _ => .stuck) else .stuck
noncomputable def stC (nloc : Nat) (js : List Nat) (σ : ISt) : ISt := List.replicate nloc none ++ js.map fun j => (σ[j]?).join
noncomputable def Jaj (it : I1) (nloc : Nat) (js : List Nat) (g : G1) (t : T1) (e : E1) : E1 := fun σ h => (it σ h).bind fun J h1 => Je6 J.chk g t e h1.length J.xs (stC nloc js σ) (h1 ++ [.lst []])
theorem Jps {prog : Program} {w : World} {A : Around} {R : Result -> Shared -> Prop} {s : Shared} {elt target iter : Expr} {ifs : List Expr} {scope : Scope} {pos : Pos} {it acc : Value} {env : Env} (I : Nat -> Shared -> Prop)
  (turn : ∀ n s, I n s -> wpAny (model prog w) A (pyNext it) (fun r s₁ => match r with
   | none => R (.ok .next) s₁
   | some v => wpAny (model prog w) A (letOwnedTupleGo target it v) (fun _ s₁' => wpAny (model prog w) A (assign target env v) (fun _ s₂ =>
     wpAny (model prog w) A (forIn ifs true fun c r => if r = true then do let ok <- isTrue c env (eval c env); pure (ForInStep.yield ok) else pure (ForInStep.yield r)) (fun ok s₃ =>
      if ok = true then wpAny (model prog w) A (eval elt env) (fun x s₄ =>
       wpAny (model prog w) A (call (.builtin "list.append") [acc, x]) (fun _ s₅ => ∃ m, m < n /\ I m s₅) (fun _ _ => False) s₄) (fun _ _ => False) s₃
      else ∃ m, m < n /\ I m s₃) (fun _ _ => False) s₂) (fun _ _ => False) s₁') (fun _ _ => False) s₁) (fun _ _ => False) s)
  (n : Nat) (h : I n s) : codeAny (model prog w) A (.compLoop (.ListComp elt [⟨target, iter, ifs, 0⟩] scope pos) 0 it acc env) R s := by
 refine codeAny_loop rfl I (fun n s hI => ?_) n h
 show wpAny _ A ((compTurn (.ListComp elt [⟨target, iter, ifs, 0⟩] scope pos) 0 it acc env).onRaise (fun x => do noteFrame x env; theTreesLotGoes x)) _ _ s
 refine wpAny_noted (nof ?_)
 rw [compTurn_list]
 refine wpAny_bind (wpAny_standAt (wpAny_bind (wpAny_mono (turn n s hI) (fun r s₁ h₁ => ?_) fun _ _ h' => h')))
 cases r with
 | none => exact wpAny_pure h₁
 | some v =>
  refine wpAny_bind (wpAny_mono h₁ (fun _ s₁' h₁' => ?_) fun _ _ h' => h')
  refine wpAny_bind (wpAny_mono h₁' (fun _ s₂ h₂ => wpAny_bind (wpAny_mono h₂ (fun ok s₃ h₃ => ?_) fun _ _ h' => h')) fun _ _ h' => h')
  cases ok with
  | false => exact wpAny_pure ⟨rfl, h₃⟩
  | true =>
   exact wpAny_bind (wpAny_bind (wpAny_mono h₃ (fun x s₄ h₄ => wpAny_bind (wpAny_mono h₄ (fun _ s₅ h₅ => wpAny_pure (wpAny_pure ⟨rfl, h₅⟩)) fun _ _ h' => h')) fun _ _ h' => h'))
noncomputable def PTsi (ce : Str -> Option Addr) (X : Cx) (ifs : List Expr) (m : T1) : Prop := PX ce X RB (forIn ifs true fun c r => if r = true then do let ok <- isTrue c X.env (eval c X.env); pure (ForInStep.yield ok) else pure (ForInStep.yield r)) m
noncomputable def Jav : T1 := fun _ h => .ok true h
theorem J0m {ce : Str -> Option Addr} {X : Cx} : PTsi ce X [] Jav := fun _ s _ H ι _ _ _ _ N K => wpAny_tests_nil (K true s H ι N .refl rfl)
theorem J0s {ce : Str -> Option Addr} {X : Cx} {c : Expr} {m : T1} (hc : PTi ce X c m) : PTsi ce X [c] m := fun pins s σ H ι σi h Q E N K => wpAny_tests_one (hc pins s σ H ι σi h Q E N K)
noncomputable def Jog (ce : Str -> Option Addr) (X : Cx) (use : Option (Value -> Sem Unit)) (pins : List (Addr × Obj)) (ι : List Addr) (σi : ISt) (σ : L2.St) (H : Hp) (r : Res IV) (Q : Value -> Shared -> Prop) (E : Value -> Shared -> Prop) : Prop :=
 match r with
 | .ok v h' => ∀ D C m s' H' ι', Now ce X pins ι' σi h' σ H' s' -> Nxt ι H ι' H' -> RU X.K ι' H' v (.ref D) -> s'.heap.Ns C m -> FpOk X pins H' C -> compPost (model X.prog X.w) X.A E use Q (.ref D) C (.ok .next) s'
 | .exc n h' => ∀ pl a s' H' ι', Now ce X (pins ++ pl) ι' σi h' σ H' s' -> Nxt ι H ι' H' -> ι'[n]? = some a -> E (.ref a) s'
 | .stuck => False
theorem Jog.mono {ce : Str -> Option Addr} {X : Cx} {use : Option (Value -> Sem Unit)} {pins : List (Addr × Obj)} {ι ι' : List Addr} {σi : ISt} {σ : L2.St} {H H' : Hp} {r : Res IV} {Q : Value -> Shared -> Prop} {E : Value -> Shared -> Prop} (k : Jog ce X use pins ι σi σ H r Q E) (n : Nxt ι H ι' H') : Jog ce X use pins ι' σi σ H' r Q E := by
 cases r with
 | ok v h' => exact fun D C m s' H2 ι2 N n2 q => k D C m s' H2 ι2 N (n.trans n2) q
 | exc m h' => exact fun pl a s' H2 ι2 N n2 q => k pl a s' H2 ι2 N (n.trans n2) q
 | stuck => exact k
section
variable {ce : Str -> Option Addr} {X : Cx}
theorem Jp7 {N0 loc caps : List Str} {js : List Nat} {sc₀ scope : Scope} {tg iter elt : Expr} {ifs : List Expr} {mi : I1} {g : G1} {mt : T1} {me : E1} {pos ppos : Pos} {use : Option (Value -> Sem Unit)} (hc : X.calm = true) (hi : PIi ce X tg iter mi)
  (hg : ∀ C s H fp, PGi ce (cxC X (loc ++ caps) scope C s H fp) tg g) (ht : ∀ C s H fp, PTsi ce (cxC X (loc ++ caps) scope C s H fp) ifs mt) (he : ∀ C s H fp, PEi ce (cxC X (loc ++ caps) scope C s H fp) elt me)
  (ok : Je4 N0 loc caps js sc₀ scope = true) (hN0 : X.N = N0 := by rfl) (hsc : X.env.scope = sc₀ := by rfl) (hs : ∀ x, foldedSetIterable iter X.env x = pure x := by intro _; rfl)
  {pins : List (Addr × Obj)} {s : Shared} {σ : L2.St} {H : Hp} {ι : List Addr} {σi : ISt} {h : IH} {Q : Value -> Shared -> Prop} {E : Value -> Shared -> Prop} (N : Now ce X pins ι σi h σ H s) (K : Jog ce X use pins ι σi σ H (Jaj mi loc.length js g mt me σi h) Q E) :
  wpAny (model X.prog X.w) X.A (comprehension (.ListComp elt [⟨tg, iter, ifs, 0⟩] scope pos) scope X.env ppos (newList []) false (eval iter X.env) use) Q E s := by
 simp only [Je4, Bool.and_eq_true, decide_eq_true_eq, List.all_eq_true, Bool.not_eq_true', Bool.or_eq_true, beq_iff_eq, beq_eq_false_iff_ne] at ok
 obtain ⟨⟨⟨⟨⟨⟨⟨⟨⟨kF, kF0⟩, kNC⟩, kL⟩, kFr⟩, kFx⟩, kJ⟩, kLen⟩, kNd⟩, kLo⟩ := ok
 have hfree : ∀ x ∈ scope.names, x.2 = .free -> X.env.kindOf x.1 = some .cell ∨ X.env.kindOf x.1 = some .free := fun x hx hk => by
  have e : X.env.kindOf x.1 = sc₀.names.lookup x.1 := by rw [<- hsc]; rfl
  rw [e]
  rcases kFr x hx with (z | z) | z
  ·exact absurd hk z
  ·exact .inl z
  ·exact .inr z
 have hclos : closureFor scope X.env = pure (clOf X.env.cells scope.names []) := Jil fun x hx hk => N.inv.ok.has x.1 (hfree x hx hk)
 refine wpAny_comprehension_free (use := use) (e := .ListComp elt [⟨tg, iter, ifs, 0⟩] scope pos) rfl hs hclos kF (fun x hx hl => (kL x hx).resolve_left fun z => z hl) ?_
 refine hi pins s σ H ι σi h _ E N ?_
 unfold Jaj at K
 cases e0 : mi σi h with
 | exc n h' => rw [e0] at K; exact K
 | stuck => rw [e0] at K; exact K
 | ok Jt h1 =>
  rw [e0] at K
  intro itv s1 H1 ι1 N1 n1 RI
  obtain ⟨it, fp, tn, J, e, T, st1, f1, OK⟩ := RI
  subst e
  -- the list
  refine wpAny_newObj_type ?_
  have fresh1 : H1 s1.heap.objs.size = none := N1.inv.hok.fresh (Nat.le_refl _)
  have I2 : Inv X pins σ (upd H1 s1.heap.objs.size (.lst [])) { s1 with heap := s1.heap.push { cls := .type "list", dict := none, data := .seq ([] : List Value).toArray } } :=
   N1.inv.laid (t' := s1.toks) (fun b u e => Heap.get?_push_of_some _ e) (Nat.le_refl _) ⟨Nat.zero_le _, [], 0, .nil, Heap.get?_push_size _ rfl⟩
  obtain ⟨R2, n2⟩ := N1.rel.alloc (o := .lst []) (io := .lst []) fresh1 ⟨[], Jk, rfl⟩
  generalize hs2 : ({ s1 with heap := s1.heap.push { cls := .type "list", dict := none, data := .seq ([] : List Value).toArray } } : Shared) = s2 at I2 ⊢
  generalize hD : s1.heap.objs.size = D at *
  generalize hH2 : upd H1 D (.lst []) = H2 at *
  have N2 : Now ce X pins (ι1 ++ [D]) σi (h1 ++ [.lst []]) σ H2 s2 := ⟨I2, R2, N1.st.mono n2⟩
  have keep12 : ∀ b o, s1.heap.get? b = some o -> s2.heap.get? b = some o := fun b o q => by rw [<- hs2]; exact Heap.get?_push_of_some _ q
  have st2 : tn 0 s2.heap := T.keep 0 _ _ st1 fun b _ o q => keep12 b o q
  have hat : (ι1 ++ [D])[h1.length]? = some D := by
   rw [<- N1.rel.len, List.getElem?_append_right (Nat.le_refl _)]
   simp
  have f2 : ∀ b ∈ fp, FpOk X pins H2 b := fun b hb => by
   refine ⟨?_, (f1 b hb).2⟩
   obtain ⟨o, ho, _⟩ := T.obj 0 _ st1 b hb
   have : b ≠ D := Nat.ne_of_lt (by rw [<- hD]; exact Heap.lt_size ho)
   rw [<- hH2, Jp this]
   exact (f1 b hb).1
  -- the block's own dict
  refine wpAny_newFunctionEnv (fun x hx => kNC x hx) (by intro y hy; simp at hy) (fun h3 hns3 hsb3 => ?_) kF
  generalize hC : s2.heap.objs.size = C at *
  have keep23 : ∀ b o, s2.heap.get? b = some o -> h3.get? b = some o := fun b o q => (hsb3.2 b (Nat.ne_of_lt (by rw [<- hC]; exact Heap.lt_size q))).trans (Heap.get?_push_of_some _ q)
  have cells' : ∀ x c, (clOf X.env.cells scope.names []).lookup x = some c -> X.env.cells.lookup x = some c := Jnv _ _ (fun x c q => by simp at q)
  -- the context of the block
  have okX : (cxC X (loc ++ caps) scope C s2 H2 fp).Ok := by
   refine ⟨N.inv.ok.mod, kF, N.inv.ok.glob, N.inv.ok.blt, Nat.le_of_eq hC, fun x y c a b => N.inv.ok.inj x y c (cells' x c a) (cells' y c b), fun x hx => ?_, fun x c z => ?_, N.inv.ok.hd, N.inv.ok.frames, .inl rfl, fun b hb => ?_, fun b o q => I2.bs b o q,
    Nat.le_trans N.inv.ok.bsz I2.sz, fun b o q hb => ?_, fun b hb z => ?_, I2.stack, I2.stkFree⟩
   ·have hx' : (relabel scope X.env).names.lookup x = some .cell ∨ (relabel scope X.env).names.lookup x = some .free := hx
    have hfr : scope.names.lookup x = some .free := by
     rcases hx' with z | z
     ·obtain ⟨k0, e, m⟩ := Jdk z
      simp only [List.mem_cons, Prod.mk.injEq, List.not_mem_nil, or_false] at m
      rcases m with ⟨m1, _⟩ | ⟨_, m2⟩
      ·exact absurd (kNC _ (PySem.mem_of_lookup e)) (by rw [<- m1]; intro q; exact q rfl)
      ·rw [m2] at e; exact e
     ·obtain ⟨k0, e, m⟩ := Jdk z
      simp only [List.mem_cons, Prod.mk.injEq, List.not_mem_nil, or_false] at m
      rcases m with ⟨m1, _⟩ | ⟨m1, _⟩
      ·rw [<- m1] at e; exact e
      ·cases m1
    have hm := PySem.mem_of_lookup hfr
    obtain ⟨c, hc'⟩ := N.inv.ok.has x (hfree (x, .free) hm rfl)
    exact Option.isSome_iff_exists.mp (Jht _ _ x c hm hc')
   ·exact absurd (show false = true from z) Bool.false_ne_true
   ·have hbD := f2 b hb
    obtain ⟨o, ho, _⟩ := T.obj 0 _ st2 b hb
    exact ⟨Nat.ne_of_lt (by show b < C; rw [<- hC]; exact Heap.lt_size ho), fun x c q => hbD.2.2.2.2.1 x c (cells' x c q)⟩
   ·rcases (f2 b hb).2.2.2.1 with z | z
    ·exact N.inv.ok.noex b o q z
    ·exact Nat.lt_irrefl _ (Nat.lt_of_lt_of_le (Heap.lt_size q) (Nat.le_trans N.inv.ok.bsz z))
   ·rcases List.mem_cons.mp (I2.stkSub b z) with e | e
    ·exact (f2 b hb).2.1 e
    ·exact (f2 b hb).2.2.1 e
  -- the block's state
  have lenJ : js.length = caps.length := kLen
  have stl : (stC loc.length js σi).length = (loc ++ caps).length := by simp [stC, lenJ]
  have R3 : Rel ce X.K (ι1 ++ [D]) (h1 ++ [.lst []]) H2 := R2
  have I3 : Inv (cxC X (loc ++ caps) scope C s2 H2 fp) [] (List.replicate loc.length none ++ js.map fun j => (σ[j]?).join) H2 { s2 with heap := h3, toks := s2.toks + ([] : List (Str × Value)).length } := by
   refine ⟨okX, rfl, I2.bare, Un.kept keep23, ⟨_, hns3, fun i x v a b c => ?_⟩, fun x c q => ?_, I2.hok.fresh (Nat.le_of_eq hC), fun x c q => I2.freeC x c (cells' x c q), fun p hp => absurd (show p ∈ ([] : List (Addr × Obj)) from hp) (by simp), I2.hok.kept keep23, by show _ = (loc ++ caps).length; simp [lenJ]⟩
   ·have hi : loc.length <= i := by
     refine Nat.le_of_not_lt fun hlt => ?_
     rw [List.getElem?_append_left (by simpa using hlt), List.getElem?_replicate] at b
     split at b <;> cases b
    obtain ⟨k, rfl⟩ : ∃ k, i = loc.length + k := ⟨i - loc.length, by omega⟩
    have a' : (loc ++ caps)[loc.length + k]? = some x := a
    rw [List.getElem?_append_right (by omega)] at a'
    rw [List.getElem?_append_right (by simp)] at b
    simp only [Nat.add_sub_cancel_left, List.length_replicate, List.getElem?_map] at a' b
    cases ej : js[k]? with
    | none => rw [ej] at b; cases b
    | some j =>
     rw [ej] at b
     have b' : (σ[j]?).join = some v := Option.some.inj b
     have hσ : σ[j]? = some (some v) := by
      cases es : σ[j]? with
      | none => rw [es] at b'; cases b'
      | some o => rw [es] at b'; rw [show o = some v from b']
     have hz := kJ (j, x) (List.mem_iff_getElem?.mpr ⟨k, by rw [List.getElem?_zip_eq_some]; exact ⟨ej, a'⟩⟩)
     obtain ⟨hx1, hx2⟩ := hz
     obtain ⟨m, hn, hl⟩ := I2.loc
     have hk := hfree (x, .free) (PySem.mem_of_lookup hx2) rfl
     obtain ⟨u, ru, lk⟩ := hl j x v (by rw [hN0]; exact hx1) hσ (by rcases hk with q | q; exact .inr (.inl q); exact .inr (.inr q))
     rcases lk with ⟨q, _⟩ | ⟨q, c, hc', hcell⟩
     ·rcases hk with q' | q' <;> (rw [q'] at q; cases q)
     ·obtain ⟨kk, ek, hkk⟩ := Jjx (env := X.env) hx2
      have hcl := Jht (cells := X.env.cells) scope.names [] x c (PySem.mem_of_lookup hx2) hc'
      obtain ⟨c', hc2⟩ := Option.isSome_iff_exists.mp hcl
      have := cells' x c' hc2
      rw [hc'] at this
      cases this
      obtain ⟨oc, hoc, hd⟩ := hcell
      refine ⟨u, ru, .inr ⟨?_, c, hc2, oc, keep23 _ _ hoc, hd⟩⟩
      rcases hkk with rfl | rfl
      ·exact .inl ek
      ·exact .inr ek
   ·obtain ⟨v, o, ho, hd⟩ := I2.cell x c (cells' x c q)
    exact ⟨v, o, keep23 _ _ ho, hd⟩
  have N3 : Now ce (cxC X (loc ++ caps) scope C s2 H2 fp) [] (ι1 ++ [D]) (stC loc.length js σi) (h1 ++ [.lst []]) (List.replicate loc.length none ++ js.map fun j => (σ[j]?).join) H2 { s2 with heap := h3, toks := s2.toks + ([] : List (Str × Value)).length } := by
   refine ⟨I3, R3, by simp [stC], fun i v q => ?_⟩
   unfold stC at q
   have hi : loc.length <= i := by
    refine Nat.le_of_not_lt fun hlt => ?_
    rw [List.getElem?_append_left (by simpa using hlt), List.getElem?_replicate] at q
    split at q <;> cases q
   rw [List.getElem?_append_right (by simpa using hi)] at q
   simp only [List.length_replicate, List.getElem?_map] at q
   cases ej : js[i - loc.length]? with
   | none => rw [ej] at q; cases q
   | some j =>
    rw [ej] at q
    have q' : (σi[j]?).join = some v := Option.some.inj q
    have hσ : σi[j]? = some (some v) := by
     cases es : σi[j]? with
     | none => rw [es] at q'; cases q'
     | some o => rw [es] at q'; rw [show o = some v from q']
    obtain ⟨u, hu, qu⟩ := N2.st.at_ j v hσ
    refine ⟨u, ?_, qu⟩
    rw [List.getElem?_append_right (by simpa using hi)]
    simp only [List.length_replicate, List.getElem?_map, ej, Option.map_some, hu]
    rfl
  have st3 : tn 0 h3 := T.keep 0 _ _ st2 fun b _ o q => keep23 b o q
  have K2 : Jog ce X use pins (ι1 ++ [D]) σi σ H2 (Je6 Jt.chk g mt me h1.length Jt.xs (stC loc.length js σi) (h1 ++ [.lst []])) Q E := Jog.mono (r := Je6 Jt.chk g mt me h1.length Jt.xs (stC loc.length js σi) (h1 ++ [.lst []])) K (n1.trans n2)
  have loop : codeAny (model X.prog X.w) X.A (.compLoop (.ListComp elt [⟨tg, iter, ifs, 0⟩] scope pos) 0 (.ref it) (.ref D) (compEnvC scope (clOf X.env.cells scope.names []) C X.env)) (compPost (model X.prog X.w) X.A E use Q (.ref D) C)
    { s2 with heap := h3, toks := s2.toks + ([] : List (Str × Value)).length } := by
   refine Jps (fun n s' => ∃ k ιk σk hk σ' H', Now ce (cxC X (loc ++ caps) scope C s2 H2 fp) [] ιk σk hk σ' H' s' /\ Nxt (ι1 ++ [D]) H2 ιk H' /\ tn k s'.heap /\ (∀ b ∈ fp, H' b = none) /\ n = Jt.xs.length - k /\ k <= Jt.xs.length /\ Jog ce X use pins ιk σi σ H' (Je6 Jt.chk g mt me h1.length (Jt.xs.drop k) σk hk) Q E) ?_ Jt.xs.length
    ⟨0, ι1 ++ [D], stC loc.length js σi, h1 ++ [.lst []], _, H2, N3, .refl, st3, fun b hb => (f2 b hb).1, by simp, Nat.zero_le _, by simpa using K2⟩
   have stat : ∀ {H' : Hp}, (∀ b ∈ fp, H' b = none) -> ∀ b ∈ fp, FpOk (cxC X (loc ++ caps) scope C s2 H2 fp) [] H' b := fun hn b hb =>
    ⟨hn b hb, (okX.exf b hb).1, okX.exfs b hb, .inl hb, (okX.exf b hb).2, fun p hp => absurd (show p ∈ ([] : List (Addr × Obj)) from hp) (by simp)⟩
   rintro n s4 ⟨k, ιk, σk, hk, σ4, H4, N4, n4, st4, fr4, rfl, hkl, K4⟩
   by_cases hlt : k < Jt.xs.length
   ·have hd : Jt.xs.drop k = Jt.xs[k] :: Jt.xs.drop (k + 1) := List.drop_eq_getElem_cons hlt
    rw [hd] at K4
    unfold Je6 at K4
    split at K4
    ·rename_i hck
     obtain ⟨go, yl⟩ := OK.go k Jt.xs[k] hk H4 ιk (n2.trans n4) N4.rel hck (List.getElem?_eq_getElem hlt)
     refine thn (T.item (cxC X (loc ++ caps) scope C s2 H2 fp) rfl rfl rfl hc k [] s4 σ4 H4 (fun _ _ => False) N4.inv (stat fr4) st4 go) fun r s5 ⟨u, hr, h5⟩ => ?_
     subst hr
     refine thn h5 fun _ s6 ⟨x, H6, I6, r6, y6, st6, fr6⟩ => ?_
     obtain ⟨R6, n6, q6⟩ := yl x H6 y6
     have I6' := I6.pinned (stat fr6) (T.obj _ _ st6)
     have N6 : Now ce (cxC X (loc ++ caps) scope C s2 H2 fp) ([] ++ Jgb fp s6.heap) ιk σk hk σ4 H6 s6 := ⟨I6', R6, N4.st.mono n6⟩
     have again : ∀ {σ7 : L2.St} {H7 : Hp} {s7 : Shared} {σ7i : ISt} {h7 : IH} {ι7 : List Addr}, Now ce (cxC X (loc ++ caps) scope C s2 H2 fp) ([] ++ Jgb fp s6.heap) ι7 σ7i h7 σ7 H7 s7 -> Nxt ιk H6 ι7 H7 -> Jog ce X use pins ιk σi σ H4 (Je6 Jt.chk g mt me h1.length (Jt.xs.drop (k + 1)) σ7i h7) Q E ->
       ∃ m, m < Jt.xs.length - k /\ ∃ k ιk σk hk σ' H', Now ce (cxC X (loc ++ caps) scope C s2 H2 fp) [] ιk σk hk σ' H' s7 /\ Nxt (ι1 ++ [D]) H2 ιk H' /\ tn k s7.heap /\ (∀ b ∈ fp, H' b = none) /\ m = Jt.xs.length - k /\ k <= Jt.xs.length /\ Jog ce X use pins ιk σi σ H' (Je6 Jt.chk g mt me h1.length (Jt.xs.drop k) σk hk) Q E :=
      fun {σ7 H7 s7 σ7i h7 ι7} N7 n7 K7 => by
       have nn : Nxt ιk H4 ι7 H7 := n6.trans n7
       refine ⟨Jt.xs.length - (k + 1), by omega, k + 1, ι7, σ7i, h7, σ7, H7, N7.pins, n4.trans nn, T.keep _ _ _ st6 fun b hb o e => (N7.inv.pin (b, o) (List.mem_append_right _ (List.mem_append_right _ (Jd3 hb e)))).1, fun b hb => ?_, rfl, hlt, K7.mono nn⟩
       obtain ⟨o, e, d⟩ := T.obj _ _ st6 b hb
       exact (N7.inv.pin (b, o) (List.mem_append_right _ (List.mem_append_right _ (Jd3 hb e)))).2.1
     cases eg : g Jt.xs[k] σk hk with
     | next σg hgg =>
      rw [eg] at K4
      dsimp only at K4
      refine hg C s2 H2 fp _ s6 σ4 H6 ιk σk hk _ u (fun _ s7 => wpAny (model X.prog X.w) X.A (forIn ifs true fun c r => if r = true then do let ok <- isTrue c _ (eval c _); pure (ForInStep.yield ok) else pure (ForInStep.yield r)) _ _ s7) (fun _ _ => False) N6 ⟨x, r6, q6⟩ ?_
      rw [eg]
      intro s7 σ7 H7 ι7 N7 n7
      refine ht C s2 H2 fp _ s7 σ7 H7 ι7 σg hgg _ (fun _ _ => False) N7 ?_
      cases et : mt σg hgg with
      | ok c h8 =>
       rw [et] at K4
       intro d s8 H8 ι8 N8 n8 rd
       have rd' : d = c := rd
       subst rd'
       cases d with
       | false => exact again N8 (n7.trans n8) K4
       | true =>
        dsimp only at K4
        refine he C s2 H2 fp _ s8 σ7 H8 ι8 σg h8 _ (fun _ _ => False) N8 ?_
        cases ee : me σg h8 with
        | ok v h9 =>
         rw [ee] at K4
         dsimp only at K4
         intro w s9 H9 ι9 N9 n9 rw9
         have hat9 : ι9[h1.length]? = some D := (((n4.trans n6).trans n7).trans (n8.trans n9)).at hat
         cases hl : h9[h1.length]? with
         | none => rw [hl] at K4; exact Zf K4
         | some ob =>
          rw [hl] at K4
          cases ob with
          | lst acc =>
           dsimp only at K4
           split at K4
           ·rename_i hz
            obtain ⟨vs, eD, rD⟩ := N9.at hl hat9
            obtain ⟨wv, rw9, qw⟩ := rw9
            have ap := Jpg (X := (cxC X (loc ++ caps) scope C s2 H2 fp).wish fun _ _ => False) ([] ++ Jgb fp s6.heap) s9 σ7 H9 (.ref D) [wv] (.ref D) [w] (fun _ H' => H' = upd H9 D (.lst (vs ++ [wv]))) (N9.inv.wish _) rfl (.cons rw9 .nil) ⟨D, vs, wv, rfl, rfl, eD, by rw [rD.length]; exact hz, rfl⟩
            refine wpAny_mono ap (fun _ s10 hq => ?_) fun _ _ z => z
            obtain ⟨z, H10, I10, _, rfl⟩ := hq
            have n10 : Nxt ι9 H9 ι9 (upd H9 D (.lst (vs ++ [wv]))) := ⟨⟨[], by simp⟩, Ext.upd_mut eD (by rw [eD]; exact True.intro)⟩
            obtain ⟨R10, _⟩ := N9.rel.write (o := .lst (vs ++ [wv])) (io := .lst (acc ++ [v])) hat9 eD (by rw [eD]; exact True.intro) ⟨_, Jk, (RVs.mono n10 _ _ rD).append (RVs.one (RV.mono n10 _ _ qw))⟩
            exact again ⟨I10.unwish, R10, N9.st.mono n10⟩ (((n7.trans n8).trans n9).trans n10) K4
           ·exact Zf K4
          | _ => exact Zf K4
        | _ => rw [ee] at K4; exact Zf K4
      | _ => rw [et] at K4; exact Zf K4
     | _ => rw [eg] at K4; exact Zf K4
    ·exact Zf K4
   ·have hke : Jt.xs.drop k = [] := List.drop_eq_nil_of_le (by omega)
    rw [hke] at K4
    unfold Je6 at K4
    split at K4
    ·rename_i hck
     have stop := OK.stop k hk H4 ιk (n2.trans n4) N4.rel hck (by omega)
     refine thn (T.done (cxC X (loc ++ caps) scope C s2 H2 fp) rfl rfl rfl hc k [] s4 σ4 H4 (fun _ _ => False) N4.inv (stat fr4) st4 stop) fun r s5 ⟨hr, I5⟩ => ?_
     subst hr
     obtain ⟨m, hnm, _⟩ := I5.loc
     -- back to the def's own frame
     have hos : s5.os = s2.os := I5.os
     obtain ⟨hp5, g5, d5, t5, os5⟩ := s5
     obtain rfl : os5 = s2.os := hos
     have J5 : Inv X pins σ H4 { s2 with heap := hp5, gens := g5, drawn := d5, toks := t5 } := I2.call (ch := fp) I5.base I5.hok I5.bare fun b hb => ⟨(f2 b hb).2.2.2.1, (f2 b hb).2.1, (f2 b hb).2.2.2.2.1, (f2 b hb).2.2.2.2.2⟩
     have fC : FpOk X pins H4 C := I2.fpOk (Nat.le_of_eq hC) I5.free
     exact K4 D C m _ H4 ιk ⟨J5, N4.rel, (N2.st.mono n4)⟩ .refl ⟨.ref D, rfl, D, rfl, n4.at hat⟩ hnm fC
    ·exact Zf K4
  exact codeAny_compStart_list loop (T.self X.A 0 _ _ _ st3 loop)
theorem Now.letgo {pins : List (Addr × Obj)} {ι : List Addr} {σi : ISt} {h : IH} {σ : L2.St} {H : Hp} {s : Shared} {C : Addr} {h' : Heap} (N : Now ce X pins ι σi h σ H s) (fC : FpOk X pins H C) (sb : Heap.SameBut C s.heap h') : Now ce X pins ι σi h σ H { s with heap := h' } :=
 ⟨N.inv.turned (it := C) (t' := s.toks) (fun b o hb q => (sb.2 b hb).trans q) fC.1 fC.2.1 fC.2.2.2.1 fC.2.2.2.2.1 fC.2.2.2.2.2, N.rel, N.st⟩
theorem J0n {N0 loc caps : List Str} {js : List Nat} {sc₀ scope : Scope} {tg iter elt : Expr} {ifs : List Expr} {mi : I1} {g : G1} {mt : T1} {me : E1} {pos : Pos} (hc : X.calm = true) (hi : PIi ce X tg iter mi)
  (hg : ∀ C s H fp, PGi ce (cxC X (loc ++ caps) scope C s H fp) tg g) (ht : ∀ C s H fp, PTsi ce (cxC X (loc ++ caps) scope C s H fp) ifs mt) (he : ∀ C s H fp, PEi ce (cxC X (loc ++ caps) scope C s H fp) elt me)
  (ok : Je4 N0 loc caps js sc₀ scope = true) (hN0 : X.N = N0 := by rfl) (hsc : X.env.scope = sc₀ := by rfl) (hs : ∀ x, foldedSetIterable iter X.env x = pure x := by intro _; rfl) : PEi ce X (.ListComp elt [⟨tg, iter, ifs, 0⟩] scope pos) (Jaj mi loc.length js g mt me) := by
 intro pins s σ H ι σi h Q E N K
 rw [eval_ListComp]
 refine Jp7 hc hi hg ht he ok hN0 hsc hs N ?_
 cases e0 : Jaj mi loc.length js g mt me σi h with
 | exc n h' => rw [e0] at K; exact K
 | stuck => rw [e0] at K; exact K
 | ok v h' =>
  rw [e0] at K
  exact fun D C m s' H' ι' N' n' r hns fC => ⟨m, hns, fun h2 sb => K _ _ H' ι' (N'.letgo fC sb) n' r⟩
theorem J0c {N0 loc caps : List Str} {js : List Nat} {sc₀ scope : Scope} {tg iter elt : Expr} {ifs : List Expr} {mi : I1} {g : G1} {mt : T1} {me : E1} {pos pos2 pos3 : Pos} {i : Nat} {x : Str} (hc : X.calm = true) (hi : PIi ce X tg iter mi)
  (hg : ∀ C s H fp, PGi ce (cxC X (loc ++ caps) scope C s H fp) tg g) (ht : ∀ C s H fp, PTsi ce (cxC X (loc ++ caps) scope C s H fp) ifs mt) (he : ∀ C s H fp, PEi ce (cxC X (loc ++ caps) scope C s H fp) elt me)
  (ok : Je4 N0 loc caps js sc₀ scope = true) (hN0 : X.N = N0 := by rfl) (hsc : X.env.scope = sc₀ := by rfl) (hs : ∀ x, foldedSetIterable iter X.env x = pure x)
  (hN : X.N.Nodup) (hix : X.N[i]? = some x) (hlx : Loc X.env.scope x) (hf : X.fn x = true ∨ X.env.scope.names.lookup x = some .local)
  (hsw : swapsWith (.ListComp elt [⟨tg, iter, ifs, 0⟩] scope pos) (some (.Name x pos2)) pos3.line X.env = pure true) :
  PS1 ce X (.Assign [.Name x pos2] (.ListComp elt [⟨tg, iter, ifs, 0⟩] scope pos) pos3) (sSet i (Jaj mi loc.length js g mt me)) := by
 intro pins s σ H ι σi h Q E N K
 rw [exec_Assign_Name_used _ _ _ _ hsw]
 refine wpAny_bind (wpAny_standAt (wpAny_bind ?_))
 rw [arm_evalThenUse_ListComp]
 refine wpAny_bind ?_
 refine Jp7 (use := some (assign (.Name x pos2) X.env)) hc hi hg ht he ok hN0 hsc hs N ?_
 unfold sSet at K
 cases e0 : Jaj mi loc.length js g mt me σi h with
 | exc n h' => rw [e0] at K; exact fun pl a s' H' ι' N' n' q => K pl a s' σ H' ι' N' n' q
 | stuck => rw [e0] at K; exact K
 | ok v h' =>
  rw [e0] at K
  intro D C m s' H' ι' N' n' r hns fC
  obtain ⟨w, rw', q⟩ := r
  obtain ⟨oC, es, ep, hoC, hdC, hrest⟩ := id hns
  have hp : Inv X (pins ++ Jgb [C] s'.heap) σ H' s' := N'.inv.pinned (fun b hb => (show b = C by simpa using hb) ▸ fC) (fun b hb => by
   have e : b = C := by simpa using hb
   subst e
   exact ⟨oC, hoC, fun v z => by rw [hdC] at z; cases z⟩)
  refine wpAny_assign_Name (Joc hp hN hix hlx rw' (fun s2 I2 => ?_) hf)
  have hC2 := (I2.pin (C, oC) (List.mem_append_right _ (List.mem_append_right _ (Jd3 (by simp) hoC)))).1
  refine ⟨m, ⟨oC, es, ep, hC2, hdC, hrest⟩, fun h2 sb => wpAny_pure ?_⟩
  have N2 : Now ce X pins ι' (σi.set i (some v)) h' (σ.set i (some w)) H' s2 := ⟨I2.unpinned, N'.rel, N'.st.set i q⟩
  exact wpAny_pure (K _ _ H' ι' (N2.letgo fC sb) n')
end
end L3
namespace L3
open PySem PySem.Spec PyProof.Rows L2
section
variable {ce : Str -> Option Addr} {X : Cx}
noncomputable def Jmo (x : Str) : List IV := x.cps.toList.map fun c => .str ⟨#[c]⟩
noncomputable def Its (x : Str) : It := ⟨fun i _ => i < x.cps.size, fun i H y H' => H' = H /\ ∃ c, x.cps[i]? = some c /\ y = .str ⟨#[c]⟩, fun i _ => x.cps.size <= i⟩
theorem Jsy {P : Program} {w : World} {K : W.Frag} {tg : Expr} {ty : String} {x : Str} {t : Tok} (it : Addr) (hty : ["enumerate", "zip", "dict_itemiterator", "dict_reverseitemiterator", "odict_iterator", "itertools.zip_longest", "itertools.pairwise"].contains ty = false)
  (W : ∀ A : Around, A.handled = none -> Walks P w A it [it] [it] x.cps.size (SignAt x) (fun i h => h.IsStrIter it ty x t i))
  (We : ∀ (A : Around) (E : Value -> Shared -> Prop) (s : Shared) (i : Nat) (Q : Option Value -> Shared -> Prop), A.handled = none -> s.heap.IsStrIter it ty x t i -> x.cps[i]? = none -> (∀ h', Heap.ExtBut it s.heap h' -> Q none { s with heap := h' }) -> wpAny (model P w) A (pyNext (.ref it)) Q E s)
  (Ws : ∀ (A : Around) (E : Value -> Shared -> Prop) (s : Shared) (i : Nat) (Q : Value -> Shared -> Prop), s.heap.IsStrIter it ty x t i -> Q (.ref it) s -> wpAny (model P w) A (pyIter (.ref it)) Q E s) : Turn P w K tg (Its x) [it] it (fun i h => h.IsStrIter it ty x t i) where
 mem := by simp
 obj := fun i h st b hb => by
  have e : b = it := by simpa using hb
  subst e
  obtain ⟨o, e, c, d⟩ := st
  exact ⟨o, e, fun v z => by rw [d] at z; cases z⟩
 keep := fun i h h' st k => by
  obtain ⟨o, e, r⟩ := st
  exact ⟨o, k it (by simp) o e, r⟩
 item := by
  intro X hP hw hK hc i pins s σ H E I hf st hg
  subst hP hw hK
  obtain ⟨f0, f1, f2, f3, f4, f5⟩ := hf it (by simp)
  refine (W X.A (I.ok.hd hc)).item i s _ _ hg st fun v h' tk hv st' kk => ?_
  obtain ⟨c, u, hcc, rfl⟩ := hv
  have I1 : Inv X pins σ H { s with heap := h', toks := tk } := I.turned (fun b o hb e => kk b o (by simpa using hb) e) f0 f1 f3 f4 f5
  obtain ⟨o, e, c1, d1⟩ := id st'
  exact ⟨_, rfl, Jzs (s := { s with heap := h', toks := tk }) e c1 d1 hty ⟨.str ⟨#[c]⟩, H, I1, ⟨u, rfl⟩, ⟨rfl, c, hcc, rfl⟩, st', fun b hb => (hf b hb).1⟩⟩
 done := by
  intro X hP hw hK hc i pins s σ H E I hf st hg
  subst hP hw hK
  obtain ⟨f0, f1, f2, f3, f4, f5⟩ := hf it (by simp)
  have hi : x.cps.size <= i := hg
  have hx : x.cps[i]? = none := by simp [hi]
  exact We X.A _ s i _ (I.ok.hd hc) st hx fun h' eb => ⟨rfl, I.turned (t' := s.toks) (fun b o hb e => eb b o hb e) f0 f1 f3 f4 f5⟩
 self := fun A i s Q E st h => Ws A E s i Q st h
noncomputable def Jzp : IV -> IH -> Res ItI
 | .str x, h => .ok ⟨Jmo x, fun _ => True⟩ h
 | _, _ => .stuck
noncomputable def iStr (e : E1) : I1 := fun σ h => (e σ h).bind Jzp
theorem J0e {x : Str} {ι : List Addr} {H₀ : Hp} : ItOk ce X.K ι H₀ (Its x) ⟨Jmo x, fun _ => True⟩ := by
 refine ⟨fun k v h H ι' hp R hck hx => ?_, fun k h H ι' hp R hck hx => ?_⟩
 ·have hk : k < x.cps.size := by
   have := (List.getElem?_eq_some_iff.mp hx).1
   simpa [Jmo] using this
  refine ⟨hk, fun y H' hy => ?_⟩
  obtain ⟨rfl, c, hc, rfl⟩ := hy
  simp only [Jmo, List.getElem?_map, Array.getElem?_toList, hc] at hx
  cases hx
  exact ⟨R, .refl, rfl⟩
 ·have : (Jmo x).length = x.cps.size := by simp [Jmo]
  show x.cps.size <= k
  rw [<- this]
  exact hx
theorem Juw {tg l : Expr} {ml : E1} (hl : PEi ce X l ml) : PIi ce X tg l (iStr ml) := by
 intro pins s σ H ι σi h Q E N K
 refine hl pins s σ H ι σi h _ E N ?_
 unfold iStr at K
 cases e0 : ml σi h with
 | exc n h' => rw [e0] at K; exact K
 | stuck => rw [e0] at K; exact K
 | ok v h' =>
  rw [e0] at K
  intro u s1 H1 ι1 N1 n1 r1
  obtain ⟨w, rw', q⟩ := r1
  have fresh : ∀ b ∈ [s1.heap.objs.size], FpOk X pins H1 b := fun b hb => by
   have e : b = s1.heap.objs.size := by simpa using hb
   subst e
   exact N1.inv.fpOk (Nat.le_refl _) (N1.inv.hok.fresh (Nat.le_refl _))
  cases v with
  | str x =>
   have e1 : w = .str x := q
   subst e1
   obtain ⟨t, rfl⟩ := rw'
   simp only [Res.bind, Jzp] at K
   cases ha : x.cps.all (· < 128) with
   | true =>
    refine wpAny_pyIter_ascii ha (K _ _ H1 ι1 ⟨N1.inv.kept (t' := s1.toks) fun b o e => Heap.get?_push_of_some _ e, N1.rel, N1.st⟩ n1 ?_)
    exact ⟨s1.heap.objs.size, [s1.heap.objs.size], _, Its x, rfl, Jsy (ty := "str_ascii_iterator") (t := t) _ (by decide) (fun A hA => Walks.strAscii hA _ x t) (fun A E s i Q hA st hx hQ => wpAny_pyNext_ascii_end hA st hx hQ) (fun A E s i Q st hq => wpAny_pyIter_striter_ascii st hq), ⟨_, Heap.get?_push_size _ rfl, rfl, rfl⟩, fresh, J0e⟩
   | false =>
    refine wpAny_pyIter_wide ha (K _ _ H1 ι1 ⟨N1.inv.kept (t' := s1.toks) fun b o e => Heap.get?_push_of_some _ e, N1.rel, N1.st⟩ n1 ?_)
    exact ⟨s1.heap.objs.size, [s1.heap.objs.size], _, Its x, rfl, Jsy (ty := "str_iterator") (t := t) _ (by decide) (fun A hA => Walks.strWide hA _ x t) (fun A E s i Q hA st hx hQ => wpAny_pyNext_wide_end hA st hx hQ) (fun A E s i Q st hq => wpAny_pyIter_striter_wide st hq), ⟨_, Heap.get?_push_size _ rfl, rfl, rfl⟩, fresh, J0e⟩
  | _ => simp only [Res.bind, Jzp] at K
noncomputable def Ite (K : W.Frag) (a : Addr) : It :=
 ⟨fun i H => ∃ xs x, SqL K H a xs /\ xs[i]? = some x, fun i H y H' => ∃ p x, H p = none /\ y = .ref p /\ H' = upd H p (.tup [.int (i : Int), x]) /\ ∀ xs, SqL K H a xs -> xs[i]? = some x, fun i H => ∃ xs, SqL K H a xs /\ xs.length <= i⟩
theorem Jvo {P : Program} {w : World} {K : W.Frag} {es : List Expr} {k : Nat} {p : Pos} (a it e : Addr) (hne : e ≠ it) : Turn P w K (.Tuple es k p) (Ite K a) [e, it] e (fun i h => (∃ old, IsEnum h e it (i : Int) old) /\ h.IsListIter it a i) where
 mem := by simp
 obj := fun i h st b hb => by
  obtain ⟨⟨old, he⟩, o, e1, c, d⟩ := st
  simp only [List.mem_cons, List.not_mem_nil, or_false] at hb
  rcases hb with rfl | rfl
  ·exact ⟨_, he, fun v z => by
    have z' : Data.fields _ = Data.cell v := z
    cases z'⟩
  ·exact ⟨o, e1, fun v z => by rw [d] at z; cases z⟩
 keep := fun i h h' st k => ⟨let ⟨old, he⟩ := st.1; ⟨old, k e (by simp) _ he⟩, st.2.at fun o e => k it (by simp) o e⟩
 item := by
  intro X hP hw hK hc i pins s σ H E I hf st hg
  subst hP hw hK
  obtain ⟨⟨old, he⟩, hit⟩ := st
  obtain ⟨xs, x, hq, hx⟩ := hg
  obtain ⟨its, rv, pl, hz⟩ := I.list hq
  obtain ⟨u, hu, ru⟩ := rv.get hx
  have fe := hf e (by simp)
  have fi := hf it (by simp)
  have hn : H s.heap.objs.size = none := I.hok.fresh (Nat.le_refl _)
  refine wpAny_pyNext_enum_item he hit pl.isList (x := u) (by simpa using hu) hne fun h' he' hit' ht hsz kk => ?_
  refine ⟨_, rfl, wpAny_letOwnedTupleGo_enum he' fun h2 he2 sb => ?_⟩
  have ltE : e < s.heap.objs.size := Heap.lt_size he
  have neT : s.heap.objs.size ≠ e := Nat.ne_of_gt ltE
  have k2 : ∀ b o, b ≠ e -> b ≠ it -> s.heap.get? b = some o -> h2.get? b = some o := fun b o h1 h3 q => (sb.2 b h1).trans (kk b o h1 h3 q)
  have hl2 : h2.IsListIter it a (i + 1) := by
   obtain ⟨o, q, r⟩ := hit'
   exact ⟨o, (sb.2 it (Ne.symm hne)).trans q, r⟩
  have t2 : h2.get? s.heap.objs.size = some { cls := .type "tuple", data := .seq #[.int i s.toks, u] } := (sb.2 _ neT).trans ht
  -- the two records turn, then the tuple is tracked
  obtain ⟨oe, hoe⟩ : ∃ o, s.heap.get? e = some o := ⟨_, he⟩
  obtain ⟨oi, hoi, _⟩ := id hit
  have neP : ∀ b u, H b = some u -> b ≠ s.heap.objs.size := fun b u q => Jaq q hn
  have I1 : Inv X pins σ (upd H s.heap.objs.size (.tup [.int (i : Int), x])) { s with heap := h2, toks := s.toks + 1 } := by
   refine I.step (g' := s.gens) (d' := s.drawn) (ch := [e, it]) (fun b hb => ?_) (fun b o _ _ hc q _ => k2 b o (fun z => hc (by simp [z])) (fun z => hc (by simp [z])) q) (fun b o _ _ hc q _ => ⟨o.slots, k2 b o (fun z => hc (by simp [z])) (fun z => hc (by simp [z])) q⟩) (fun b o _ q n => ?_)
    (fun b o hc q => ⟨o, k2 b o (fun z => hc (by simp [z])) (fun z => hc (by simp [z])) q⟩) (fun b xs q => by rw [Jp (neP b _ q)]; exact q) (fun b o u q => by rw [Jp (neP b _ q)]; exact q) (fun b ps q => ⟨#[], by rw [Jp (neP b _ q), q]; simp⟩) (fun m hm => ?_) (fun b u q => ?_) I.bare
   ·simp only [List.mem_cons, List.not_mem_nil, or_false] at hb
    rcases hb with rfl | rfl
    ·exact ⟨fe.2.2.2.1, fe.2.1, fe.2.2.2.2.1, fe.2.2.2.2.2⟩
    ·exact ⟨fi.2.2.2.1, fi.2.1, fi.2.2.2.2.1, fi.2.2.2.2.2⟩
   ·rw [Jp (Nat.ne_of_lt (Heap.lt_size q))]; exact n
   ·obtain ⟨o, es, ep, ho, r⟩ := hm
    exact ⟨o, es, ep, k2 _ o (Ne.symm fe.2.1) (Ne.symm fi.2.1) ho, r⟩
   ·by_cases hb : b = s.heap.objs.size
    ·subst hb
     rw [Jk] at q
     cases q
     exact ⟨by show 2 <= sizeLine; decide, [.int i s.toks, u], .cons ⟨_, rfl⟩ (.cons ru .nil), ⟨_, t2, rfl, _, rfl⟩⟩
    ·rw [Jp hb] at q
     have n1 : b ≠ e := fun z => by rw [z, fe.1] at q; cases q
     have n2 : b ≠ it := fun z => by rw [z, fi.1] at q; cases q
     refine (I.hok b u q).stay (fun c v hc r => k2 c v ?_ ?_ r) (fun c q => by rw [Jp (neP c _ q)]; exact q) fun c ys q => by rw [Jp (neP c _ q)]; exact q
     ·rcases hc with z | z
      ·rw [z]; exact n1
      ·intro y; rw [y, fe.1] at z; cases z
     ·rcases hc with z | z
      ·rw [z]; exact n2
      ·intro y; rw [y, fi.1] at z; cases z
  refine ⟨.ref s.heap.objs.size, _, I1, rfl, ⟨s.heap.objs.size, x, hn, rfl, rfl, fun ys hy => by rw [I.list_inj hy hq]; exact hx⟩, ⟨⟨_, he2⟩, hl2⟩, fun b hb => ?_⟩
  simp only [List.mem_cons, List.not_mem_nil, or_false] at hb
  rcases hb with rfl | rfl
  ·rw [Jp (Nat.ne_of_lt ltE)]; exact fe.1
  ·rw [Jp (Nat.ne_of_lt (Heap.lt_size hoi))]; exact fi.1
 done := by
  intro X hP hw hK hc i pins s σ H E I hf st hg
  subst hP hw hK
  obtain ⟨⟨old, he⟩, hit⟩ := st
  obtain ⟨xs, hq, hx⟩ := hg
  obtain ⟨its, rv, p, hz⟩ := I.list hq
  obtain ⟨f0, f1, f2, f3, f4, f5⟩ := hf it (by simp)
  have hl := rv.length
  exact wpAny_pyNext_enum_end (I.ok.hd hc) he hit p.isList (by simp; omega) fun h' eb => ⟨rfl, I.turned (t' := s.toks) (fun b o hb e => eb b o hb e) f0 f1 f3 f4 f5⟩
 self := fun _ _ _ _ _ st h => let ⟨_, he⟩ := st.1; wpAny_pyIter_enum he h
noncomputable def Jgy (n : Nat) : List IV -> List IV
 | [] => []
 | x :: xs => .tup [.int n, x] :: Jgy (n + 1) xs
theorem Jii : ∀ (xs : List IV) (n k : Nat), (Jgy n xs)[k]? = (xs[k]?).map fun x => .tup [.int ((n + k : Nat) : Int), x]
 | [], _, _ => by simp [Jgy]
 | x :: xs, n, 0 => by simp [Jgy]
 | x :: xs, n, k + 1 => by
  simp only [Jgy, List.getElem?_cons_succ]
  rw [Jii xs (n + 1) k]
  have : n + 1 + k = n + (k + 1) := by omega
  rw [this]
theorem Jdt : ∀ (xs : List IV) (n : Nat), (Jgy n xs).length = xs.length
 | [], _ => rfl
 | _ :: xs, n => by simp [Jgy, Jdt xs]
noncomputable def Jis : List IV -> IH -> Res ItI
 | [.ref i], h => match h[i]? with
  | some (.lst xs) => .ok ⟨Jgy 0 xs, fun h' => h'[i]? = some (.lst xs)⟩ h
  | _ => .stuck
 | _, _ => .stuck
theorem J23 {a : Addr} {i : Nat} {xs : List IV} {ι : List Addr} {H₀ : Hp} (ha : ι[i]? = some a) : ItOk ce X.K ι H₀ (Ite X.K a) ⟨Jgy 0 xs, fun h' => h'[i]? = some (.lst xs)⟩ := by
 refine ⟨fun k v h H ι' hp R hck hx => ?_, fun k h H ι' hp R hck hx => ?_⟩
 ·obtain ⟨vs, e1, r1⟩ := R.get hck (hp.at ha)
  have hx' : (Jgy 0 xs)[k]? = some v := hx
  rw [Jii] at hx'
  obtain ⟨x, hxk, rfl⟩ := Option.map_eq_some_iff.mp hx'
  obtain ⟨u, hu, qu⟩ := r1.get hxk
  refine ⟨⟨vs, u, SqL.of e1, hu⟩, fun y H' hy => ?_⟩
  obtain ⟨p, x', hp0, rfl, rfl, hy⟩ := hy
  have := hy vs (SqL.of e1)
  rw [hu] at this
  cases this
  obtain ⟨R', n'⟩ := R.grow (o := .tup [.int (k : Int), u]) hp0
  refine ⟨R', n', p, _, rfl, SqT.of Jk, ⟨_, _, rfl, ?_, _, _, rfl, RV.mono n' _ _ qu, rfl⟩⟩
  show V.int (k : Int) = V.int ((0 + k : Nat) : Int)
  simp
 ·obtain ⟨vs, e1, r1⟩ := R.get hck (hp.at ha)
  exact ⟨vs, SqL.of e1, by rw [r1.length, <- Jdt xs 0]; exact hx⟩
theorem J30 {es : List Expr} {kt : Nat} {pt : Pos} {a : Expr} {ma : A1} {p pos : Pos} (hg : Gl X "enumerate") (hm : X.mg "enumerate" = none) (ha : PAi ce X [a] ma) (hs : starEach [a] X.env = [(false, eval a X.env)] := by rfl) : PIi ce X (.Tuple es kt pt) (.Call (.Name "enumerate" p) [a] [] pos) (iRg Jis ma) := by
 intro pins s σ H ι σi h Q E N K
 refine Call_ (Jde N.inv hg hm boot_enumerate (PyProof.Rows.callWith_type1 ?_ hs rfl))
 refine ha pos pins s σ H ι σi h _ E N ?_
 unfold iRg at K
 cases e0 : ma σi h with
 | exc n h' => rw [e0] at K; exact K
 | stuck => rw [e0] at K; exact K
 | ok vs h' =>
  rw [e0] at K
  intro us s1 H1 ι1 N1 n1 r1
  obtain ⟨xs, rv, qs⟩ := r1
  match vs, K with
  | [.ref i], K =>
   obtain ⟨w, e1, q⟩ := qs.one_of
   subst e1
   obtain ⟨b, e3, hb⟩ := q
   subst e3
   obtain ⟨u, rfl, ru⟩ := Jiz rv
   cases ru
   cases hi : h'[i]? with
   | none => simp only [Res.bind, Jis, hi] at K
   | some ob =>
    cases ob with
    | lst ys =>
     simp only [Res.bind, Jis, hi] at K
     obtain ⟨ws, eH, rH⟩ := N1.at hi hb
     obtain ⟨z, its, n, r, hl, eo⟩ := N1.inv.lstM eH
     refine call_enumerate_1 eo fun h2 he hit hsz kp => ?_
     refine wpAny_pyIter_enum he (K _ _ H1 ι1 ⟨N1.inv.kept (t' := s1.toks) kp, N1.rel, N1.st⟩ n1 ?_)
     refine ⟨s1.heap.objs.size + 1, [s1.heap.objs.size + 1, s1.heap.objs.size], _, Ite X.K b, rfl, Jvo b s1.heap.objs.size (s1.heap.objs.size + 1) (Nat.ne_of_gt (Nat.lt_succ_self _)), ⟨⟨_, he⟩, hit⟩, fun c hc => ?_, J23 hb⟩
     simp only [List.mem_cons, List.not_mem_nil, or_false] at hc
     rcases hc with rfl | rfl
     ·exact N1.inv.fpOk (Nat.le_succ _) (N1.inv.hok.fresh (Nat.le_succ _))
     ·exact N1.inv.fpOk (Nat.le_refl _) (N1.inv.hok.fresh (Nat.le_refl _))
    | _ => simp only [Res.bind, Jis, hi] at K
  | [], K => exact Zf K
  | .non :: _, K => exact Zf K
  | .bl _ :: _, K => exact Zf K
  | .str _ :: _, K => exact Zf K
  | .tup _ :: _, K => exact Zf K
  | .rol _ :: _, K => exact Zf K
  | .int _ :: _, K => exact Zf K
  | .ref _ :: _ :: _, K => exact Zf K
end
end L3
namespace L3
open PySem PySem.Spec PyProof.Rows L2
noncomputable def Jut : IV -> IH -> Res ItI
 | .str x, h => Jzp (.str x) h
 | v, h => itOf v h
noncomputable def iAny (e : E1) : I1 := fun σ h => (e σ h).bind Jut
theorem Jzu {ce : Str -> Option Addr} {X : Cx} {tg l : Expr} {ml : E1} (hl : PEi ce X l ml) : PIi ce X tg l (iAny ml) := by
 intro pins s σ H ι σi h Q E N K
 cases e0 : ml σi h with
 | ok v h' =>
  cases v with
  | str x => exact Juw (tg := tg) hl pins s σ H ι σi h Q E N (by unfold iStr; unfold iAny at K; rw [e0] at K ⊢; exact K)
  | _ => exact Jvg (tg := tg) hl pins s σ H ι σi h Q E N (by unfold iVal; unfold iAny at K; rw [e0] at K ⊢; exact K)
 | exc n h' => exact Jvg (tg := tg) hl pins s σ H ι σi h Q E N (by unfold iVal; unfold iAny at K; rw [e0] at K ⊢; exact K)
 | stuck => exact Jvg (tg := tg) hl pins s σ H ι σi h Q E N (by unfold iVal; unfold iAny at K; rw [e0] at K ⊢; exact K)
end L3
namespace L3
open PySem PySem.Spec PyProof.Rows L2
section
variable {ce : Str -> Option Addr} {X : Cx}
theorem x_sl : SlI ce X slI := by
 intro pins s σ H ι σi h x v vl vu lo hi sl Q E N rx hs pl pu K
 obtain ⟨xv, rx, qx⟩ := rx
 cases x with
 | ref i =>
  obtain ⟨a, e1, ha⟩ := qx
  subst e1
  dsimp only [slI] at K
  cases hi' : h[i]? with
  | none => rw [hi'] at K; exact Zf K
  | some ob =>
   rw [hi'] at K
   cases ob with
   | lst xs =>
    obtain ⟨vs, e1, r1⟩ := N.at hi' ha
    exact Jwd (Jxs (X := X.wish E)) N.inv rx hs pl pu ⟨a, vs, rfl, SqL.of e1, fun p hp => finA N K p hp ⟨_, Jk, RVs.new hp (r1.cut lo hi)⟩⟩
   | _ => exact Zf K
 | rol xs =>
  obtain ⟨a, vs, e1, sa, ra⟩ := qx
  subst e1
  exact Jwd (Jxs (X := X.wish E)) N.inv rx hs pl pu ⟨a, vs, rfl, sa.sq, fun p hp => finA N K p hp ⟨_, Jk, RVs.new hp (ra.cut lo hi)⟩⟩
 | tup xs =>
  obtain ⟨a, vs, e1, sa, ra⟩ := qx
  subst e1
  dsimp only [slI] at K
  by_cases hw : HT.sIx xs.length 0 lo = 0 /\ HT.sIx xs.length xs.length hi = xs.length
  ·rw [if_pos hw] at K
   exact Zf K
  ·rw [if_neg hw] at K
   exact Jwd (J4d (X := X.wish E)) N.inv rx hs pl pu ⟨a, vs, rfl, sa, by rw [ra.length]; exact hw, fun p hp => finT N K p hp (ra.cut lo hi)⟩
 | _ => exact Zf K
noncomputable def revI : IV -> IH -> Res IV
 | .ref i, h => match h[i]? with
  | some (.lst xs) => .ok (.ref h.length) (h ++ [.lst xs.reverse])
  | _ => .stuck
 | .rol xs, h => .ok (.ref h.length) (h ++ [.lst xs.reverse])
 | _, _ => .stuck
noncomputable def Jh5 : IV -> IH -> Res IV
 | .ref i, h => match h[i]? with
  | some (.lst xs) => .ok (.ref h.length) (h ++ [.lst xs])
  | _ => .stuck
 | .rol xs, h => .ok (.ref h.length) (h ++ [.lst xs])
 | .tup xs, h => .ok (.ref h.length) (h ++ [.lst xs])
 | _, _ => .stuck
theorem J3v : Jkg ce X (.type "list") (on1 Jh5) := Jq0 fun pins s σ H ι σi h x xv u Q E N ru qx K => by
 cases x with
 | ref i =>
  obtain ⟨a, e1, ha⟩ := qx
  subst e1
  dsimp only [Jh5] at K
  cases hi : h[i]? with
  | none => rw [hi] at K; exact Zf K
  | some ob =>
   rw [hi] at K
   cases ob with
   | lst xs =>
    obtain ⟨vs, e1, r1⟩ := N.at hi ha
    exact Ja6 (Jfd (X := X.wish E)) N.inv (.cons ru .nil) ⟨a, vs, rfl, .inl (SqL.of e1), fun p hp => finA N K p hp ⟨_, Jk, RVs.new hp r1⟩⟩
   | _ => exact Zf K
 | rol xs =>
  obtain ⟨a, vs, e1, sa, ra⟩ := qx
  subst e1
  exact Ja6 (Jfd (X := X.wish E)) N.inv (.cons ru .nil) ⟨a, vs, rfl, .inl sa.sq, fun p hp => finA N K p hp ⟨_, Jk, RVs.new hp ra⟩⟩
 | tup xs =>
  obtain ⟨a, vs, e1, sa, ra⟩ := qx
  subst e1
  exact Ja6 (Jfd (X := X.wish E)) N.inv (.cons ru .nil) ⟨a, vs, rfl, .inr sa, fun p hp => finA N K p hp ⟨_, Jk, RVs.new hp ra⟩⟩
 | _ => exact Zf K
noncomputable def Jlg : IV -> IH -> Res IV
 | .ref i, h => match h[i]? with
  | some (.lst xs) => .ok (.tup xs) h
  | _ => .stuck
 | .tup xs, h => .ok (.tup xs) h
 | _, _ => .stuck
theorem J2m : Jkg ce X (.type "tuple") (on1 Jlg) := Jq0 fun pins s σ H ι σi h x xv u Q E N ru qx K => by
 cases x with
 | ref i =>
  obtain ⟨a, e1, ha⟩ := qx
  subst e1
  dsimp only [Jlg] at K
  cases hi : h[i]? with
  | none => rw [hi] at K; exact Zf K
  | some ob =>
   rw [hi] at K
   cases ob with
   | lst xs =>
    obtain ⟨vs, e1, r1⟩ := N.at hi ha
    exact Ja6 (Jit (X := X.wish E)) N.inv (.cons ru .nil) ⟨a, vs, rfl, .inl ⟨SqL.of e1, fun p hp => finT N K p hp r1⟩⟩
   | _ => exact Zf K
 | tup xs =>
  have qx' := qx
  obtain ⟨a, vs, e1, sa, ra⟩ := qx
  subst e1
  exact Ja6 (Jit (X := X.wish E)) N.inv (.cons ru .nil) ⟨a, vs, rfl, .inr ⟨sa, fin0 N K qx'⟩⟩
 | _ => exact Zf K
noncomputable def intI : IV -> IH -> Res IV
 | .int i, h => .ok (.int i) h
 | .bl b, h => .ok (.int (if b then 1 else 0)) h
 | _, _ => .stuck
theorem c_int : Jkg ce X (.type "int") (on1 intI) := Jq0 fun pins s σ H ι σi h x xv u Q E N ru qx K => by
 cases x with
 | int i =>
  have e : xv = .int i := qx
  subst e
  exact Ja6 (Jqj (X := X.wish E)) N.inv (.cons ru .nil) (.inl ⟨i, rfl, fin0 N K rfl⟩)
 | bl b =>
  have e : xv = .bl b := qx
  subst e
  exact Ja6 (Jqj (X := X.wish E)) N.inv (.cons ru .nil) (.inr ⟨b, rfl, fin0 N K rfl⟩)
 | _ => exact Zf K
noncomputable def strI : IV -> IH -> Res IV
 | .int i, h => if i.natAbs.log2 < 1920 then .ok (.str (toString i)) h else .stuck
 | _, _ => .stuck
noncomputable def Jp8 : List IV -> Option (List Bool)
 | [] => some []
 | .bl b :: r => (Jp8 r).map (b :: ·)
 | _ :: _ => none
noncomputable def allI : IV -> IH -> Res IV
 | .ref i, h => match h[i]? with
  | some (.lst xs) => (match Jp8 xs with
   | some bs => .ok (.bl (bs.all id)) h
   | none => .stuck)
  | _ => .stuck
 | _, _ => .stuck
noncomputable def anyI : IV -> IH -> Res IV
 | .ref i, h => match h[i]? with
  | some (.lst xs) => (match Jp8 xs with
   | some bs => .ok (.bl (bs.any id)) h
   | none => .stuck)
  | _ => .stuck
 | _, _ => .stuck
theorem Jsc {K : W.Frag} {ι : List Addr} {H : Hp} : ∀ {xs : List IV} {bs : List Bool} {vs : List V} {us : List Value}, Jp8 xs = some bs -> RVs K ι H xs vs -> Vals vs us -> us = bs.map Value.bool
 | [], bs, vs, us, e, q, r => by
  cases e
  have e1 : vs = [] := q
  subst e1
  cases r
  rfl
 | x :: xs, bs, vs, us, e, q, r => by
  obtain ⟨v, vr, e1, q1, q2⟩ := q
  subst e1
  cases r with
  | cons r1 r2 =>
   cases x with
   | bl b =>
    obtain ⟨b2, e2, rfl⟩ := Option.map_eq_some_iff.mp (show (Jp8 xs).map (b :: ·) = some bs from e)
    cases (show v = .bl b from q1)
    cases r1
    rw [Jsc e2 q2 r2]
    rfl
   | _ => cases e
theorem Jwf (bs : List Bool) : ((List.range bs.length).all fun i => bs.getD i true) = bs.all id := by
 induction bs with
 | nil => rfl
 | cons b r ih =>
  rw [List.length_cons, List.range_succ_eq_map, List.all_cons, List.all_map, List.all_cons]
  have e : ((List.range r.length).all ((fun i => (b :: r).getD i true) ∘ Nat.succ)) = (List.range r.length).all fun i => r.getD i true := by
   congr 1
  rw [e, ih]
  rfl
theorem c_all (hh : X.A.handled = none) : Jkg ce X (.builtin "all") (on1 allI) := Jq0 fun pins s σ H ι σi h x xv u Q E N ru qx K => by
 cases x with
 | ref i =>
  obtain ⟨a, e1, ha⟩ := qx
  subst e1
  cases ru
  dsimp only [allI] at K
  cases hi : h[i]? with
  | none => rw [hi] at K; exact Zf K
  | some ob =>
   rw [hi] at K
   cases ob with
   | lst xs =>
    dsimp only at K
    cases hb : Jp8 xs with
    | none => rw [hb] at K; exact Zf K
    | some bs =>
     rw [hb] at K
     obtain ⟨vs, e1, r1⟩ := N.at hi ha
     obtain ⟨its, rv, pl, hz⟩ := N.inv.list (SqL.of e1)
     have eu := Jsc hb r1 rv
     subst eu
     refine call_all_walk (wpAny_pyIter_list pl.isList ?_)
     have hlt : a < s.heap.objs.size := by obtain ⟨o, _, ho, _⟩ := pl; exact Heap.lt_size ho
     have ne : a ≠ s.heap.objs.size := Nat.ne_of_lt hlt
     refine ⟨s.heap.objs.size, _, _, _, _, _, fun i => bs.getD i true, rfl, Walks.list (prog := X.prog) (w := X.w) (A := X.A.in1) hh s.heap.objs.size a ne (bs.map Value.bool).toArray, ⟨⟨_, Heap.get?_push_size _ rfl, rfl, rfl⟩, ?_⟩, ?_, fun h' tk kk => ?_⟩
     ·obtain ⟨o, n, ho, hc, _, hd⟩ := pl
      exact ⟨o, Heap.get?_push_of_some _ ho, hc, n, hd⟩
     ·intro i v s' Q' E' hP hq
      simp only [List.getElem?_toArray, List.getElem?_map] at hP
      obtain ⟨b, hb', rfl⟩ := Option.map_eq_some_iff.mp hP
      refine wpAny_truthy_bool ?_
      have : bs.getD i true = b := by simp [List.getD, hb']
      rw [<- this]
      exact hq
     ·rw [show (bs.map Value.bool).toArray.size = bs.length by simp, Jwf]
      have I1 : Inv X pins σ H { s with heap := s.heap.push { cls := .type "list_iterator", data := .fields #[.ref a, .int 0 0] } } := N.inv.kept (t' := s.toks) fun b o e => Heap.get?_push_of_some _ e
      have f := N.inv.fpOk (Nat.le_refl _) (N.inv.hok.fresh (Nat.le_refl _))
      exact fin0 N K rfl _ _ (I1.turned (t' := tk) (it := s.heap.objs.size) (fun b o hb e => kk b o (by simpa using hb) e) f.1 f.2.1 f.2.2.2.1 f.2.2.2.2.1 f.2.2.2.2.2) rfl
   | _ => exact Zf K
 | _ => exact Zf K
noncomputable def MtI (ce : Str -> Option Addr) (X : Cx) (T id : String) (g : IV -> List IV -> IH -> Res IV) : Prop :=
 ∀ (pins : List (Addr × Obj)) (s : Shared) (σ : L2.St) (H : Hp) (ι : List Addr) (σi : ISt) (h : IH) (x : IV) (xs : List IV) (v : Value) (us : List Value) (Q : Value -> Shared -> Prop) (E : Value -> Shared -> Prop), Now ce X pins ι σi h σ H s -> RU X.K ι H x v -> RUs X.K ι H xs us ->
  Kont ce X RU pins ι σi σ H (g x xs h) Q E -> wpAny (model X.prog X.w) X.A (call (.builtin id) (v :: us)) Q E s
noncomputable def tyOk (T : String) : IV -> IH -> Bool
 | .str _, _ => T == "str"
 | .int _, _ => T == "int"
 | .ref i, h => match h[i]? with
  | some (.lst _) => T == "list"
  | some (.dct _) => T == "dict"
  | _ => false
 | .rol _, _ => T == "list"
 | _, _ => false
noncomputable def eBm (T : String) (g : IV -> List IV -> IH -> Res IV) (o : E1) (a : A1) : E1 := fun σ h => (o σ h).bind fun x h1 => if tyOk T x h1 = true then (a σ h1).bind fun xs h2 => g x xs h2 else .stuck
theorem Jz4 {pins : List (Addr × Obj)} {s : Shared} {σ : L2.St} {H : Hp} {ι : List Addr} {σi : ISt} {h : IH} {x : IV} {xv : V} {T : String} (N : Now ce X pins ι σi h σ H s) (q : RV X.K ι H x xv) (e : tyOk T x h = true) : tyV X.K T xv H := by
 cases x with
 | str y => cases (show xv = .str y from q); exact beq_iff_eq.mp e
 | int y => cases (show xv = .int y from q); exact beq_iff_eq.mp e
 | rol y =>
  obtain ⟨a, vs, rfl, sa, _⟩ := q
  exact .inl ⟨beq_iff_eq.mp e, vs, sa.sq⟩
 | ref i =>
  obtain ⟨a, rfl, ha⟩ := q
  cases hi : h[i]? with
  | none => simp [tyOk, hi] at e
  | some ob =>
   cases ob with
   | lst xs =>
    simp only [tyOk, hi] at e
    obtain ⟨vs, e1, _⟩ := N.at hi ha
    exact .inl ⟨beq_iff_eq.mp e, vs, SqL.of e1⟩
   | dct kvs =>
    simp only [tyOk, hi] at e
    obtain ⟨vs, e1, _⟩ := N.at hi ha
    exact .inr (.inr (.inl ⟨beq_iff_eq.mp e, .inl ⟨vs, e1⟩⟩))
   | _ => simp [tyOk, hi] at e
 | _ => simp [tyOk] at e
variable {o a : Expr} {es : List Expr} {mo : E1} {ma : A1} {name : Str} {apos cpos : Pos} {T id : String} {g : IV -> List IV -> IH -> Res IV}
theorem i_bm (pa : PlainAttrs T) (slot : Slot T name id) (hty : typeOf (.builtin id) = pure (.type "method_descriptor")) (hm : MtI ce X T id g) (ho : PEi ce X o mo) (ha : PAi ce X (a :: es) ma)
  (hbase : attributeBase o name X.env (eval o X.env) = eval o X.env := by rfl)
  (hfew : ((backTo cpos (starEach (a :: es) X.env)).all (fun x => !x.1) && (backToKw cpos (keywordEach [] X.env)).all (fun x => x.1.isSome)
   && decide ((a :: es).length + ([] : List Keyword).length + (if ([] : List Keyword).isEmpty then 0 else 1) < 30)) = true := by rfl)
  (hline : (apos.endLine == cpos.line) = true := by rfl) (hs : starEach (a :: es) X.env = (false, eval a X.env) :: starEach es X.env := by rfl) (hplain : (backTo cpos (starEach es X.env)).any (·.1) = false := by rfl) :
  PEi ce X (.Call (.Attribute o name apos) (a :: es) [] cpos) (eBm T g mo ma) := by
 intro pins s σ H ι σi h Q E N K
 refine wpAny_Call_method_late hbase hfew hline rfl (ho.run N K fun x h1 v s1 H1 ι1 N1 n1 r1 K1 => ?_)
 by_cases hty1 : tyOk T x h1 = true
 ·rw [if_pos hty1] at K1
  obtain ⟨xv, rx, qx⟩ := r1
  obtain ⟨h1', h2'⟩ := Jz1 N1.inv rx (Jz4 N1 qx hty1)
  refine ⟨T, id, pa, slot, hty, h1', h2', ?_⟩
  have hA := (ha cpos).run (Q1 := fun us s2 => wpAny (model X.prog X.w) X.A (call (.builtin id) (v :: us)) Q E s2) N1 K1 fun xs h2 us s2 H2 ι2 N2 n2 r2 K2 => hm pins s2 σ H2 ι2 σi h2 x xs v us Q E N2 ⟨xv, rx, RV.mono n2 _ _ qx⟩ r2 K2
  rw [hs] at hA ⊢
  exact Calls.callWith_builtin (by show (false || (backTo cpos (starEach es X.env)).any (·.1)) = false; rw [hplain] <;> rfl) (Calls.evalArgs_plain hA)
 ·rw [if_neg hty1] at K1
  exact Zf K1
theorem i_bm0 (pa : PlainAttrs T) (slot : Slot T name id) (hty : typeOf (.builtin id) = pure (.type "method_descriptor")) (hm : MtI ce X T id g) (ho : PEi ce X o mo)
  (hbase : attributeBase o name X.env (eval o X.env) = eval o X.env := by rfl) (hline : (apos.endLine == cpos.line) = true := by rfl) : PEi ce X (.Call (.Attribute o name apos) [] [] cpos) (eBm T g mo aNil) := by
 intro pins s σ H ι σi h Q E N K
 refine wpAny_Call_method0_late hbase hline (ho.run N K fun x h1 v s1 H1 ι1 N1 n1 r1 K1 => ?_)
 by_cases hty1 : tyOk T x h1 = true
 ·rw [if_pos hty1] at K1
  obtain ⟨xv, rx, qx⟩ := r1
  obtain ⟨h1', h2'⟩ := Jz1 N1.inv rx (Jz4 N1 qx hty1)
  exact ⟨T, id, pa, slot, hty, h1', h2', Calls.callWith_builtin rfl (PySem.evalArgs_none (hm pins s1 σ H1 ι1 σi h1 x [] v [] Q E N1 ⟨xv, rx, qx⟩ .nil K1))⟩
 ·rw [if_neg hty1] at K1
  exact Zf K1
theorem Joo {pins : List (Addr × Obj)} {s : Shared} {σ : L2.St} {H : Hp} {Q : Value -> Shared -> Prop} {E : Value -> Shared -> Prop} {r : V -> List V -> Hp -> VK -> Prop} {x : V} {xs : List V} {v : Value} {us : List Value} (p : MtM (X.wish E) id r) (I : Inv X pins σ H s) (rx : RelV x v) (rs : Vals xs us)
  (k : r x xs H fun z H' => ∀ u s', Inv X pins σ H' s' -> RelV z u -> Q u s') : wpAny (model X.prog X.w) X.A (call (.builtin id) (v :: us)) Q E s :=
 wpAny_mono (p pins s σ H x xs v us _ (I.wish E) rx rs k) (fun u s' ⟨_, _, I', r, q⟩ => q u s' I'.unwish r) fun _ _ z => z
theorem finW {pins : List (Addr × Obj)} {s : Shared} {σ : L2.St} {H : Hp} {ι : List Addr} {σi : ISt} {h : IH} {i : Nat} {b : Addr} {ys : List IV} {vs ws : List V} {v : IV} {w : V} {Q : Value -> Shared -> Prop} {E : Value -> Shared -> Prop} (N : Now ce X pins ι σi h σ H s) (K : Kont ce X RU pins ι σi σ H (.ok v (h.set i (.lst ys))) Q E)
  (hb : ι[i]? = some b) (eH : H b = some (.lst vs)) (r : RVs X.K ι H ys ws) (q : RV X.K ι H v w) : ∀ u s', Inv X pins σ (upd H b (.lst ws)) s' -> RelV w u -> Q u s' := fun u s' I ru => by
 have n : Nxt ι H ι (upd H b (.lst ws)) := ⟨⟨[], by simp⟩, Ext.upd_mut eH (by rw [eH]; exact True.intro)⟩
 obtain ⟨R, _⟩ := N.rel.write (o := .lst ws) (io := .lst ys) hb eH (by rw [eH]; exact True.intro) ⟨_, Jk, RVs.mono n _ _ r⟩
 exact K u s' _ ι ⟨I, R, N.st.mono n⟩ n ⟨w, ru, RV.mono n _ _ q⟩
noncomputable def Jjm : IV -> List IV -> IH -> Res IV
 | .ref i, [y], h => match h[i]? with
  | some (.lst xs) => if xs.length < sizeLine then .ok .non (h.set i (.lst (xs ++ [y]))) else .stuck
  | _ => .stuck
 | _, _, _ => .stuck
theorem Jyk : MtI ce X "list" "list.append" Jjm := by
 intro pins s σ H ι σi h x xs v us Q E N rx rs K
 obtain ⟨xv, rx, qx⟩ := rx
 obtain ⟨vs, rv, qs⟩ := rs
 cases x with
 | ref i =>
  match xs, K with
  | [y], K =>
   obtain ⟨a, rfl, ha⟩ := qx
   obtain ⟨w, rfl, qw⟩ := qs.one_of
   dsimp only [Jjm] at K
   cases hi : h[i]? with
   | none => rw [hi] at K; exact Zf K
   | some ob =>
    rw [hi] at K
    cases ob with
    | lst zs =>
     dsimp only at K
     split at K
     ·rename_i hz
      obtain ⟨ws, e1, r1⟩ := N.at hi ha
      exact Joo (Jpg (X := X.wish E)) N.inv rx rv ⟨a, ws, w, rfl, rfl, e1, by rw [r1.length]; exact hz, finW N K ha e1 (r1.append (RVs.one qw)) rfl⟩
     ·exact Zf K
    | _ => exact Zf K
  | [], K => exact Zf K
  | _ :: _ :: _, K => exact Zf K
 | _ => cases xs <;> exact Zf K
noncomputable def setI : IV -> IV -> IV -> ISt -> IH -> SRes
 | .ref i, .int k, v, σ, h => match h[i]? with
  | some (.lst xs) => (match ixN xs.length k with
   | some j => .next σ (h.set i (.lst (xs.set j v)))
   | none => .stuck)
  | _ => .stuck
 | _, _, _, _, _ => .stuck
noncomputable def gSb (o i : E1) : G1 := fun v σ h => rS σ (o σ h) fun ov h1 => rS σ (i σ h1) fun iv h2 => setI ov iv v σ h2
theorem g_sub {oe ie : Expr} {mo mi : E1} {pos : Pos} (ho : PEi ce X oe mo) (hi : PEi ce X ie mi)
  (ha : ∀ v, assign (.Subscript oe ie pos) X.env v = (do
   let ov <- holding [v] (eval oe X.env)
   let iv <- holding [v, ov] (eval ie X.env)
   standAt pos
   holding [v, ov, iv] (setItem ov iv v)
   release [v, ov, iv] []) := by intro _; rfl) : PGi ce X (.Subscript oe ie pos) (gSb mo mi) := by
 intro pins s σ H ι σi h v u Q E N r K
 rw [ha]
 refine wpAny_bind (wpAny_holding (krun ho N K fun ov h1 ou s1 H1 ι1 N1 n1 r1 K1 => ?_))
 refine wpAny_bind (wpAny_holding (krun hi N1 K1 fun iv h2 iu s2 H2 ι2 N2 n2 r2 K2 => ?_))
 have r' : RU X.K ι2 H2 v u := (r.mono n1).mono n2
 obtain ⟨ox, ro, qo⟩ := r1.mono n2
 obtain ⟨ix, ri, qi⟩ := r2
 obtain ⟨vx, rvx, qv⟩ := r'
 refine wpAny_bind (wpAny_standAt (wpAny_bind (wpAny_holding ?_)))
 cases ov with
 | ref i =>
  cases iv with
  | int k =>
   obtain ⟨a, rfl, haa⟩ := qo
   cases (show ix = .int k from qi)
   dsimp only [setI] at K2
   cases hh : h2[i]? with
   | none => rw [hh] at K2; exact Zf K2
   | some ob =>
    rw [hh] at K2
    cases ob with
    | lst xs =>
     dsimp only at K2
     cases hj : ixN xs.length k with
     | none => rw [hj] at K2; exact Zf K2
     | some j =>
      rw [hj] at K2
      obtain ⟨ws, e1, r1'⟩ := N2.at hh haa
      refine wpAny_mono (Jxx (X := X.wish E) pins s2 σ H2 (.ref a) (.int k) vx ou iu u (fun H' => H' = upd H2 a (.lst (ws.set j vx))) (N2.inv.wish E) ro ri rvx ⟨a, ws, k, j, rfl, rfl, e1, by rw [r1'.length]; exact hj, rfl⟩) (fun _ s3 hq => ?_) fun _ _ z => z
      obtain ⟨H', I', rfl⟩ := hq
      have n : Nxt ι2 H2 ι2 (upd H2 a (.lst (ws.set j vx))) := ⟨⟨[], by simp⟩, Ext.upd_mut e1 (by rw [e1]; exact True.intro)⟩
      obtain ⟨R3, _⟩ := N2.rel.write (o := .lst (ws.set j vx)) (io := .lst (xs.set j v)) haa e1 (by rw [e1]; exact True.intro) ⟨_, Jk, (RVs.mono n _ _ r1').set (RV.mono n _ _ qv) j⟩
      exact wpAny_release (K2 s3 σ _ ι2 ⟨I'.unwish, R3, N2.st.mono n⟩ n)
    | _ => exact Zf K2
  | _ => exact Zf K2
 | _ => cases iv <;> exact Zf K2
end
end L3
namespace L3
open PySem PySem.Spec PyProof.Rows L2
section
variable {ce : Str -> Option Addr} {X : Cx}
noncomputable def keyI : IV -> Option Key
 | .int i => some (.inl i)
 | .str x => some (.inr x)
 | _ => none
noncomputable def J4n (mk mv : E1) : E1 := fun σ h => (mk σ (h ++ [.dct []])).bind fun x h1 => (mv σ h1).bind fun y h2 =>
 match keyI x, h2[h.length]? with
 | some k, some (.dct []) => .ok (.ref h.length) (h2.set h.length (.dct [(k, y)]))
 | _, _ => .stuck
theorem Jim {K : W.Frag} {ι : List Addr} {H : Hp} {x : IV} {v : V} {k : Key} (e : keyI x = some k) (r : RV K ι H x v) : v = kV k := by
 cases x with
 | int i => cases e; exact r
 | str y => cases e; exact r
 | _ => cases e
theorem J5h {ke ve : Expr} {mk mv : E1} {pos : Pos} (hk : PEi ce X ke mk) (hv : PEi ce X ve mv) : PEi ce X (.Dict [some ke] [ve] pos) (J4n mk mv) := fun pins s σ H ι σi h Q E N K => by
 have hn := N.inv.hok.fresh (Nat.le_refl s.heap.objs.size)
 have I1 := N.inv.laid (a := s.heap.objs.size) (o := .dK []) (h' := s.heap.push { cls := .type "dict", data := .dict #[] }) (t' := s.toks) (fun _ _ q => Heap.get?_push_of_some _ q) (Nat.le_refl _) (Jsd s.heap N.inv.big)
 obtain ⟨R1, n1⟩ := N.rel.alloc (o := .dK []) (io := .dct []) hn ⟨[], Jk, rfl⟩
 have N1 : Now ce X pins (ι ++ [s.heap.objs.size]) σi (h ++ [.dct []]) σ (upd H s.heap.objs.size (.dK [])) _ := ⟨I1, R1, N.st.mono n1⟩
 have K1 := K.mono n1
 have h0 : (ι ++ [s.heap.objs.size])[h.length]? = some s.heap.objs.size := by rw [<- N.rel.len, List.getElem?_append_right (Nat.le_refl _)]; simp
 refine wpAny_Dict_walk (knd := Jbu X.prog X.w) rfl rfl (by simp) (by simp) (pairTrees_cons_walk (PX.run hk N1 K1 fun x h1 u s1 H1 ι1 N2 n2 r1 K2 => PX.run hv N2 K2 fun y h2 u2 s2 H2 ι2 N3 n3 r2 K3 => pairTrees_nil_walk ?_))
 have h1 : ι2[h.length]? = some s.heap.objs.size := by
  obtain ⟨⟨l1, e1⟩, _⟩ := n2
  obtain ⟨⟨l2, e2⟩, _⟩ := n3
  rw [e2, e1, List.append_assoc, List.getElem?_append_left (by simp [N.rel.len])]
  exact h0
 cases ek : keyI x with
 | none => rw [ek] at K3; exact Zf K3
 | some k =>
  cases eh : h2[h.length]? with
  | none => rw [ek, eh] at K3; exact Zf K3
  | some ob =>
   rw [ek, eh] at K3
   cases ob with
   | dct kvs =>
    cases kvs with
    | cons _ _ => exact Zf K3
    | nil =>
     obtain ⟨vs0, e, r0⟩ := N3.at eh h1
     cases (show vs0 = [] from r0)
     obtain ⟨xv, rx, qx⟩ := r1
     obtain ⟨yv, ry, qy⟩ := r2
     cases Jim ek qx
     obtain ⟨rs, c, rk⟩ := Jm5 (P := X.prog) (w := X.w) (kvs := [(k, yv)]) (ws := [(u, u2)]) (.cons ⟨rx, ry⟩ .nil)
     obtain ⟨z, hd, ws0, r0', dd⟩ := Jxu N3.inv.hok e
     cases r0'
     refine ⟨rs, c, dd, fun h' dd' hs => ?_⟩
     have hz : (Jm3 [] [(k, yv)]).length <= sizeLine := by
      have h1 := Jh8 [(k, yv)] []
      rw [sizeLine_eq]; simp at h1; omega
     have he : ∃ q, h'.get? s.heap.objs.size = some q := let ⟨q, _, _, hq, _⟩ := dd'; ⟨q, hq⟩
     have I4 := Jq6 (t' := s2.toks + 1) N3.inv (by rw [e]; exact True.intro) hs he (Jwl hz hd (rk.merge .nil) dd')
     have n : Nxt ι2 H2 ι2 (upd H2 s.heap.objs.size (.dK (Jm3 [] [(k, yv)]))) := ⟨⟨[], by simp⟩, Ext.upd_mut e (by rw [e]; exact True.intro)⟩
     obtain ⟨R4, _⟩ := N3.rel.write (o := .dK (Jm3 [] [(k, yv)])) (io := .dct [(k, y)]) h1 e (by rw [e]; exact True.intro) ⟨_, Jk, yv, [], rfl, RV.mono n _ _ qy, rfl⟩
     exact K3 _ _ _ ι2 ⟨I4, R4, N3.st.mono n⟩ n ⟨.ref _, rfl, _, rfl, h1⟩
   | _ => exact Zf K3
noncomputable def maxI : IV -> IV -> IH -> Res IV
 | .int i, .int j, h => .ok (.int (if j > i then j else i)) h
 | _, _, _ => .stuck
noncomputable def minI : IV -> IV -> IH -> Res IV
 | .int i, .int j, h => .ok (.int (if j < i then j else i)) h
 | _, _, _ => .stuck
theorem c_max (hc : X.calm = true) : Jkg ce X (.builtin "max") (on2 maxI) := by
 intro pins s σ H ι σi h xs us Q E N r K
 obtain ⟨vs, rv, q⟩ := r
 match xs, K with
 | [x, y], K =>
  obtain ⟨v, w, rfl, qx, qy⟩ := q.two_of
  cases x with
  | int i =>
   cases y with
   | int j =>
    cases (show v = .int i from qx)
    cases (show w = .int j from qy)
    exact Ja6 (Ju5 (X := X.wish E) hc) N.inv rv ⟨i, j, rfl, fin0 N K rfl⟩
   | _ => exact Zf K
  | _ => cases y <;> exact Zf K
 | [], K => exact Zf K
 | [_], K => exact Zf K
 | _ :: _ :: _ :: _, K => exact Zf K
theorem c_min (hc : X.calm = true) : Jkg ce X (.builtin "min") (on2 minI) := by
 intro pins s σ H ι σi h xs us Q E N r K
 obtain ⟨vs, rv, q⟩ := r
 match xs, K with
 | [x, y], K =>
  obtain ⟨v, w, rfl, qx, qy⟩ := q.two_of
  cases x with
  | int i =>
   cases y with
   | int j =>
    cases (show v = .int i from qx)
    cases (show w = .int j from qy)
    exact Ja6 (Jxl (X := X.wish E) hc) N.inv rv ⟨i, j, rfl, fin0 N K rfl⟩
   | _ => exact Zf K
  | _ => cases y <;> exact Zf K
 | [], K => exact Zf K
 | [_], K => exact Zf K
 | _ :: _ :: _ :: _, K => exact Zf K
noncomputable def Jhe : List IV -> Option (List Str)
 | [] => some []
 | .str x :: r => (Jhe r).map (x :: ·)
 | _ => none
theorem Jra {K : W.Frag} {ι : List Addr} {H : Hp} : ∀ {xs : List IV} {zs : List Str} {vs : List V} {us : List Value}, Jhe xs = some zs -> RVs K ι H xs vs -> Vals vs us -> ∃ l : List (Str × Tok), us = strValues l /\ l.map (·.1) = zs
 | [], zs, vs, us, e, q, r => by
  cases e
  have e1 : vs = [] := q
  subst e1
  cases r
  exact ⟨[], rfl, rfl⟩
 | x :: xs, zs, vs, us, e, q, r => by
  obtain ⟨v, vr, e1, q1, q2⟩ := q
  subst e1
  cases r with
  | cons r1 r2 =>
   cases x with
   | str y =>
    obtain ⟨z2, e2, rfl⟩ := Option.map_eq_some_iff.mp (show (Jhe xs).map (y :: ·) = some zs from e)
    cases (show v = .str y from q1)
    obtain ⟨t, rfl⟩ := r1
    obtain ⟨l, rfl, hl⟩ := Jra e2 q2 r2
    exact ⟨(y, t) :: l, rfl, by rw [List.map_cons, hl]⟩
   | _ => cases e
noncomputable def J16 : IV -> List IV -> IH -> Res IV
 | .str x, [.ref i], h => match h[i]? with
  | some (.lst xs) => (match Jhe xs with
   | some zs => if JoinOk x zs = true then .ok (.str (Txt.join x zs)) h else .stuck
   | none => .stuck)
  | _ => .stuck
 | _, _, _ => .stuck
theorem J42 : MtI ce X "str" "str.join" J16 := by
 intro pins s σ H ι σi h x xs v us Q E N rx rs K
 obtain ⟨xv, rx, qx⟩ := rx
 obtain ⟨vs, rv, qs⟩ := rs
 cases x with
 | str x =>
  cases (show xv = .str x from qx)
  obtain ⟨t, rfl⟩ := rx
  match xs, K with
  | [.ref i], K =>
   obtain ⟨w, rfl, a, rfl, ha⟩ := qs.one_of
   obtain ⟨u, rfl, ru⟩ := Jiz rv
   cases ru
   dsimp only [J16] at K
   cases hi : h[i]? with
   | none => rw [hi] at K; exact Zf K
   | some ob =>
    rw [hi] at K
    cases ob with
    | lst ys =>
     dsimp only at K
     cases hb : Jhe ys with
     | none => rw [hb] at K; exact Zf K
     | some zs =>
      rw [hb] at K
      dsimp only at K
      split at K
      ·rename_i hz
       obtain ⟨ws, e1, r1⟩ := N.at hi ha
       obtain ⟨its, rv', pl, _⟩ := N.inv.list (SqL.of e1)
       obtain ⟨l, rfl, hl⟩ := Jra hb r1 rv'
       exact SC.join pl.isList hl hz fun t' k => fin0 N K rfl _ _ (N.inv.tok _) ⟨_, rfl⟩
      ·exact Zf K
    | _ => exact Zf K
  | [], K => exact Zf K
  | [.non], K => exact Zf K
  | [.bl _], K => exact Zf K
  | [.int _], K => exact Zf K
  | [.str _], K => exact Zf K
  | [.tup _], K => exact Zf K
  | [.rol _], K => exact Zf K
  | y :: _ :: _, K => cases y <;> exact Zf K
 | _ => exact Zf K
noncomputable def Ju6 : IV -> List IV -> IH -> Res IV
 | .ref i, [], h => match h[i]? with
  | some (.lst _) => .ok .non (h.set i (.lst []))
  | _ => .stuck
 | _, _, _ => .stuck
theorem J1h : MtI ce X "list" "list.clear" Ju6 := by
 intro pins s σ H ι σi h x xs v us Q E N rx rs K
 obtain ⟨xv, rx, qx⟩ := rx
 obtain ⟨vs, rv, qs⟩ := rs
 cases x with
 | ref i =>
  match xs, K with
  | [], K =>
   obtain ⟨a, rfl, ha⟩ := qx
   cases (show vs = [] from qs)
   dsimp only [Ju6] at K
   cases hi : h[i]? with
   | none => rw [hi] at K; exact Zf K
   | some ob =>
    rw [hi] at K
    cases ob with
    | lst zs =>
     obtain ⟨ws, e1, r1⟩ := N.at hi ha
     exact Joo (Jyh (X := X.wish E)) N.inv rx rv ⟨a, ws, rfl, rfl, e1, finW (ys := []) (ws := []) N K ha e1 rfl rfl⟩
    | _ => exact Zf K
  | _ :: _, K => exact Zf K
 | _ => cases xs <;> exact Zf K
end
end L3
namespace L3
open PySem PySem.Spec PyProof.Rows L2
noncomputable def Je7 : List IV -> Option (List Int)
 | [] => some []
 | .int i :: r => (Je7 r).map (i :: ·)
 | _ => none
theorem Jl4 {K : W.Frag} {ι : List Addr} {H : Hp} : ∀ {xs : List IV} {ns : List Int} {vs : List V} {us : List Value}, Je7 xs = some ns -> RVs K ι H xs vs -> Vals vs us -> IntsAre us ns
 | [], ns, vs, us, e, q, r => by
  cases e
  have e1 : vs = [] := q
  subst e1
  cases r
  exact .nil
 | x :: xs, ns, vs, us, e, q, r => by
  obtain ⟨v, vr, e1, q1, q2⟩ := q
  subst e1
  cases r with
  | cons r1 r2 =>
   cases x with
   | int i =>
    obtain ⟨n2, e2, rfl⟩ := Option.map_eq_some_iff.mp (show (Je7 xs).map (i :: ·) = some ns from e)
    cases (show v = .int i from q1)
    obtain ⟨t, rfl⟩ := r1
    exact .cons i t (Jl4 e2 q2 r2)
   | _ => cases e
theorem Jel : ∀ {us : List Value} {ns : List Int}, IntsAre us ns -> us.length = ns.length
 | _, _, .nil => rfl
 | _, _, .cons _ _ r => by simp [Jel r]
section
variable {ce : Str -> Option Addr} {X : Cx}
noncomputable def sumI : IV -> IH -> Res IV
 | .ref i, h => match h[i]? with
  | some (.lst xs) => (match Je7 xs with
   | some ns => .ok (.int ns.sum) h
   | none => .stuck)
  | _ => .stuck
 | _, _ => .stuck
theorem c_sum (hh : X.A.handled = none) : Jkg ce X (.builtin "sum") (on1 sumI) := Jq0 fun pins s σ H ι σi h x xv u Q E N ru qx K => by
 cases x with
 | ref i =>
  obtain ⟨a, e1, ha⟩ := qx
  subst e1
  cases ru
  dsimp only [sumI] at K
  cases hi : h[i]? with
  | none => rw [hi] at K; exact Zf K
  | some ob =>
   rw [hi] at K
   cases ob with
   | lst xs =>
    dsimp only at K
    cases hb : Je7 xs with
    | none => rw [hb] at K; exact Zf K
    | some ns =>
     rw [hb] at K
     obtain ⟨vs, e1, r1⟩ := N.at hi ha
     obtain ⟨its, rv, pl, hz⟩ := N.inv.list (SqL.of e1)
     have are := Jl4 hb r1 rv
     obtain ⟨ys, hy⟩ := are.allInts.items
     have pl' : s.heap.IsList a (intItems ys) := hy ▸ pl.isList
     refine sum_intListG hh pl' fun h2 tk t2 kk => ?_
     have en : ns = ys.toList.map (·.1) := by
      have q1 := are.numsOf
      have q2 := congrArg (fun z : Array Value => numsOf z.toList) hy
      simp only at q2
      rw [<- q1]
      exact q2.trans (nums_intItems ys)
     have es : preSum (numAt ys) ys.size = ns.sum := by
      rw [preSum_eq, en, List.take_of_length_le (by simp)]
     rw [es]
     exact fin0 N K rfl _ _ (N.inv.kept (t' := tk) kk) ⟨_, rfl⟩
   | _ => exact Zf K
 | _ => exact Zf K
end
end L3
namespace L3
open PySem PySem.Spec PyProof.Rows L2
noncomputable def Je9 (f : Nat -> Int) : Nat -> Int
 | 0 => 0
 | 1 => f 0
 | j + 2 => if f (j + 1) > Je9 f (j + 1) then f (j + 1) else Je9 f (j + 1)
theorem Jm8 (f : Nat -> Int) {j : Nat} (hj : 0 < j) : Je9 f (j + 1) = if f j > Je9 f j then f j else Je9 f j := by
 cases j with
 | zero => omega
 | succ j => rfl
section
variable {pr : Program} {wd : World} {B : Around} {R : Result -> Shared -> Prop} {it : Addr} {fps wrs : List Addr} {n : Nat} {P : Nat -> Value -> Prop} {St : Nat -> Heap -> Prop}
noncomputable abbrev J44 (v : Value) (c : Nat) : Obj := { cls := .type "list", dict := none, data := .seq #[v, v] c, slots := #[] }
theorem Jfq : (toString "max" ++ toString ".loop" : String) = "max.loop" := by decide
theorem J1g {kw : List (Str × Value)} (W : Walks pr wd B.in1 it fps wrs n P St) (f : Nat -> Int) (hf : ∀ i v, P i v -> ∃ t, v = .int (f i) t) (C : Addr) (hC : C ∉ fps) :
  ∀ (r j : Nat) (z : Shared) (v : Value) (u : Tok) (c : Nat), n - j = r -> 0 < j -> j <= n -> St j z.heap -> v = .int (Je9 f j) u -> z.heap.get? C = some (J44 v c) ->
   (∀ u h2 tk, (∀ a o, a ∉ wrs -> a ≠ C -> z.heap.get? a = some o -> h2.get? a = some o) -> R (.ok (.ret (.int (Je9 f n) u))) { z with heap := h2, toks := tk }) ->
   codeAny (model pr wd) B (.builtin "max.loop" ⟨[.ref it, .none, .ref C], kw⟩) R z := by
 have hw : C ∉ wrs := fun q => hC (W.sub _ q)
 intro r
 induction r with
 | zero =>
  intro j z v u c hr h0 hj st ev gC fin
  obtain rfl : j = n := by omega
  subst ev
  refine codeAny_builtin PySem.F.entry_max_loop ?_
  rw [Around.under_plainId PySem.F.plain_max_loop _]
  show wpAny _ B.in1 (seqItems? (.ref C) >>= _) _ _ z
  refine wpAny_bind (wpAny_seqItems gC rfl ?_)
  show wpAny _ B.in1 (tryCatch (pyNext (.ref it)) _ >>= _) _ _ z
  refine wpAny_bind (wpAny_tryCatch (W.done z _ _ st fun h2 tk keep => ?_))
  have gC2 := keep C _ hw gC
  show wpAny _ B.in1 (updateSeq C (fun _ => #[]) >>= _) _ _ _
  refine wpAny_bind ?_
  refine wpAny_updateSeq gC2 rfl (wpAny_bind (wpAny_letGo (wpAny_pure ?_)))
  exact fin u _ tk fun a o ha hb e => (Heap.get?_update_other _ _ (Ne.symm hb)).trans (keep a o ha e)
 | succ r ih =>
  intro j z v u c hr h0 hj st ev gC fin
  have lt : j < n := by omega
  subst ev
  refine codeAny_builtin PySem.F.entry_max_loop ?_
  rw [Around.under_plainId PySem.F.plain_max_loop _]
  show wpAny _ B.in1 (seqItems? (.ref C) >>= _) _ _ z
  refine wpAny_bind (wpAny_seqItems gC rfl ?_)
  show wpAny _ B.in1 (tryCatch (pyNext (.ref it)) _ >>= _) _ _ z
  refine wpAny_bind (wpAny_tryCatch (W.item j z _ _ lt st fun y h2 tk hP st2 keep => ?_))
  obtain ⟨t, rfl⟩ := hf j y hP
  have gC2 := keep C _ hw gC
  have cmp := CmpOf.ints_gt (prog := pr) (w := wd) (A := B.in1) (P := fun i v => ∃ t, v = .int (if i = 0 then f j else Je9 f j) t) (fun i => if i = 0 then f j else Je9 f j) (fun _ _ q => q)
  show wpAny _ B.in1 (tryCatch (holding [Value.int (f j) t, Value.int (f j) t] (richCompare .Gt (.int (f j) t) (.int (Je9 f j) u) >>= _)) _ >>= _) _ _ _
  refine wpAny_bind (wpAny_tryCatch (wpAny_holding (wpAny_bind (cmp 0 1 _ _ _ _ _ ⟨t, by simp⟩ ⟨u, by simp⟩ ?_))))
  refine wpAny_bind (wpAny_holding (wpAny_truthy_bool ?_))
  refine wpAny_bind (wpAny_letGo (wpAny_pure ?_))
  have step := Jm8 f h0
  by_cases hb : f j > Je9 f j
  ·rw [if_pos hb] at step
   simp only [if_true, show ¬ (1 : Nat) = 0 by decide, if_false, decide_eq_true hb]
   refine wpAny_bind ?_
   refine wpAny_updateSeq gC2 rfl (wpAny_bind (wpAny_letGo ?_))
   rw [Jfq]
   refine wpAny_pure ⟨plainId_quiet PySem.F.plain_max_loop _, ih (j + 1) _ (.int (f j) t) t _ (by omega) (by omega) lt (W.frame _ _ _ st2 fun a ha o e => ?_) (by rw [step]) (Heap.get?_update_self _ gC2 rfl) fun u2 h3 tk3 k3 => ?_⟩
   ·exact (Heap.get?_update_other _ _ (fun q : C = a => hC (by rw [q]; exact ha))).trans e
   ·exact fin u2 h3 tk3 fun a o ha hc e => k3 a o ha hc ((Heap.get?_update_other _ _ (Ne.symm hc)).trans (keep a o ha e))
  ·rw [if_neg hb] at step
   simp only [if_true, show ¬ (1 : Nat) = 0 by decide, if_false, decide_eq_false hb, Bool.false_eq_true]
   refine wpAny_bind (wpAny_letGo ?_)
   rw [Jfq]
   refine wpAny_pure ⟨plainId_quiet PySem.F.plain_max_loop _, ih (j + 1) _ (.int (Je9 f j) u) u c (by omega) (by omega) lt st2 (by rw [step]) gC2 fun u2 h3 tk3 k3 => ?_⟩
   exact fin u2 h3 tk3 fun a o ha hc e => k3 a o ha hc (keep a o ha e)
end
end L3
namespace L3
open PySem PySem.Spec PyProof.Rows L2
theorem Jxa (a v : Value) : argsOk "max" ⟨[a], [(Str.ofString "default", v)]⟩ := by unfold argsOk; kernel_rfl
section
variable {pr : Program} {wd : World} {B : Around} {E : Value -> Shared -> Prop} {z : Shared} {l : Addr} {us : List Value} {ns : List Int} {d : Value} {Q : Value -> Shared -> Prop}
noncomputable def MaxIs (ns : List Int) (d v : Value) : Prop := (ns = [] /\ v = d) ∨ (ns ≠ [] /\ ∃ u, v = .int (Je9 (fun i => ns.getD i 0) ns.length) u)
theorem J2x (hh : B.handled = none) (hl : z.heap.IsList l us.toArray) (hi : IntsAre us ns)
  (hQ : ∀ v h2 tk, MaxIs ns d v -> (∀ b o, z.heap.get? b = some o -> h2.get? b = some o) -> Q v { z with heap := h2, toks := tk }) :
  wpAny (model pr wd) B (call (.builtin "max") [.ref l] [(Str.ofString "default", d)]) Q E z := by
 obtain ⟨ol, hol, _⟩ := id hl
 have lt : l < z.heap.objs.size := Heap.lt_size hol
 have ll := Jel hi
 refine kmk_tree PySem.F.kind_max PySem.F.plain_max PySem.F.entry_max (Jxa _ _) ?_
 show wpAny _ B.in1 (Builtin.Builtins.bindParams "max" ["key", "default"] 0 ⟨[], [(Str.ofString "default", d)]⟩ >>= _) _ _ z
 refine wpAny_bind (wpAny_of_eq (show Builtin.Builtins.bindParams "max" ["key", "default"] 0 ⟨[], [(Str.ofString "default", d)]⟩ = pure [none, some d] from rfl) ?_)
 refine wpAny_bind (wpAny_pure ?_)
 refine wpAny_bind (wpAny_pyIter_list hl ?_)
 refine wpAny_bind (wpAny_newList ?_ (Nat.zero_le _))
 rw [Jfq]
 have ne : l ≠ z.heap.objs.size := Nat.ne_of_lt lt
 have W := Walks.list (prog := pr) (w := wd) (A := B.in1) hh z.heap.objs.size l ne us.toArray
 have sz : us.toArray.size = us.length := List.size_toArray ..
 have hS : (z.heap.push { cls := .type "list_iterator", data := .fields #[.ref l, .int 0 0] }).objs.size = z.heap.objs.size + 1 := size_push' ..
 have hC : (z.heap.push { cls := .type "list_iterator", data := .fields #[.ref l, .int 0 0] }).objs.size ∉ [z.heap.objs.size, l] := by
  rw [hS]
  simp only [List.mem_cons, List.not_mem_nil, or_false, not_or]
  exact ⟨Nat.ne_of_gt (Nat.lt_succ_self _), Nat.ne_of_gt (Nat.lt_succ_of_lt lt)⟩
 have hw : (z.heap.push { cls := .type "list_iterator", data := .fields #[.ref l, .int 0 0] }).objs.size ∉ [z.heap.objs.size] := by
  rw [hS]
  simp only [List.mem_cons, List.not_mem_nil, or_false]
  exact Nat.ne_of_gt (Nat.lt_succ_self _)
 have old : ∀ b o, z.heap.get? b = some o -> ((z.heap.push { cls := .type "list_iterator", data := .fields #[.ref l, .int 0 0] }).push (seqObj "list" #[] 0)).get? b = some o := fun b o e => Heap.get?_push_of_some _ (Heap.get?_push_of_some _ e)
 have gI : ((z.heap.push { cls := .type "list_iterator", data := .fields #[.ref l, .int 0 0] }).push (seqObj "list" #[] 0)).get? z.heap.objs.size = some { cls := .type "list_iterator", data := .fields #[.ref l, .int 0 0] } := Heap.get?_push_of_some _ (Heap.get?_push_size _ rfl)
 have gC : ((z.heap.push { cls := .type "list_iterator", data := .fields #[.ref l, .int 0 0] }).push (seqObj "list" #[] 0)).get? (z.heap.push { cls := .type "list_iterator", data := .fields #[.ref l, .int 0 0] }).objs.size = some (seqObj "list" #[] 0) := Heap.get?_push_size _ rfl
 have notin : ∀ b o, z.heap.get? b = some o -> b ∉ [z.heap.objs.size] := fun b o e q => Nat.ne_of_lt (Heap.lt_size e) (List.mem_singleton.mp q)
 have notC : ∀ b o, z.heap.get? b = some o -> b ≠ (z.heap.push { cls := .type "list_iterator", data := .fields #[.ref l, .int 0 0] }).objs.size := fun b o e => by rw [hS]; exact Nat.ne_of_lt (Nat.lt_succ_of_lt (Heap.lt_size e))
 refine wpAny_pure ⟨plainId_quiet PySem.F.plain_max_loop _, codeAny_builtin PySem.F.entry_max_loop ?_⟩
 rw [Around.under_plainId PySem.F.plain_max_loop _]
 show wpAny _ B.in1 (seqItems? (.ref _) >>= _) _ _ _
 refine wpAny_bind (wpAny_seqItems gC rfl ?_)
 show wpAny _ B.in1 (tryCatch (pyNext (.ref z.heap.objs.size)) _ >>= _) _ _ _
 by_cases h0 : us.length = 0
 ·refine wpAny_bind (wpAny_tryCatch (W.done _ _ _ (by rw [sz, h0]; exact ⟨⟨_, gI, rfl, rfl⟩, (hl.push _).push _⟩) fun h2 tk keep => ?_))
  show wpAny _ B.in1 (rule _ >>= _) _ _ _
  refine wpAny_bind (wpAny_rule (wpAny_pure ?_))
  refine hQ d h2 tk (.inl ⟨List.eq_nil_of_length_eq_zero (by omega), rfl⟩) fun b o e => keep b o (notin b o e) (old b o e)
 ·refine wpAny_bind (wpAny_tryCatch (W.item 0 _ _ _ (by rw [sz]; omega) ⟨⟨_, gI, rfl, rfl⟩, (hl.push _).push _⟩ fun y h2 tk hP st2 keep => ?_))
  have gC2 := keep _ _ hw gC
  show wpAny _ B.in1 (updateSeq (z.heap.push { cls := .type "list_iterator", data := .fields #[.ref l, .int 0 0] }).objs.size (fun _ => #[y, y]) >>= _) _ _ _
  refine wpAny_bind ?_
  refine wpAny_updateSeq gC2 rfl ?_
  rw [Jfq]
  have hf : ∀ (i : Nat) (v : Value), us.toArray[i]? = some v -> ∃ t, v = .int ((fun i => ns.getD i 0) i) t := fun i v q => IntsAre.int_at hi i v (by simpa using q)
  obtain ⟨t, rfl⟩ := hf 0 y hP
  refine wpAny_pure ⟨plainId_quiet PySem.F.plain_max_loop _, J1g W (fun i => ns.getD i 0) hf _ hC _ 1 _ _ t _ rfl (by decide) (by rw [sz]; omega) (W.frame _ _ _ st2 fun a ha o e => ?_) rfl (Heap.get?_update_self _ gC2 rfl) fun u h3 tk3 k3 => ?_⟩
  ·exact (Heap.get?_update_other _ _ (fun q => hC (by rw [q]; exact ha))).trans e
  ·rw [sz, ll]
   refine hQ _ h3 tk3 (.inr ⟨fun q => h0 (by rw [ll, q]; rfl), u, rfl⟩) fun b o e => k3 b o (notin b o e) (notC b o e) ((Heap.get?_update_other _ _ (Ne.symm (notC b o e))).trans (keep b o (notin b o e) (old b o e)))
end
section
variable {ce : Str -> Option Addr} {X : Cx}
noncomputable def maxD (ns : List Int) (d : IV) : IV := if ns = [] then d else .int (Je9 (fun i => ns.getD i 0) ns.length)
noncomputable def Jwi (aa : A1) (md : E1) : E1 := fun σ h => (aa σ h).bind fun xs h1 => (md σ h1).bind fun d h2 => match xs with
 | [.ref i] => (match h2[i]? with
  | some (.lst ys) => (match Je7 ys with
   | some ns => .ok (maxD ns d) h2
   | none => .stuck)
  | _ => .stuck)
 | _ => .stuck
theorem J4i {a de : Expr} {aa : A1} {md : E1} {p pos kp : Pos} (hh : X.A.handled = none) (hg : Gl X "max") (hm : X.mg "max" = none) (ha : PAi ce X [a] aa) (hd : PEi ce X de md) (hs : starEach [a] X.env = [(false, eval a X.env)]) :
  PEi ce X (.Call (.Name "max" p) [a] [⟨some "default", de, kp⟩] pos) (Jwi aa md) := fun pins s σ H ι σi h Q E N K => by
 refine wpAny_Call_Name_kw (Jde N.inv hg hm rfl ?_)
 refine callWith_kw ?_ (by rw [hs]; rfl) (by rw [hs]; rfl) rfl rfl
 refine (ha pos).run N K fun xs h1 us s1 H1 ι1 N1 n1 r1 K1 => ?_
 refine PyProof.Rows.evalAll_cons (wpAny_bind (PX.run hd N1 K1 fun d h2 du s2 H2 ι2 N2 n2 r2 K2 => wpAny_bind (wpAny_standAt (wpAny_pure (PyProof.Rows.evalAll_nil ?_)))))
 obtain ⟨vs, rv, qs⟩ := r1.mono n2
 match xs, K2 with
 | [.ref i], K2 =>
  obtain ⟨w, rfl, ad, rfl, hav⟩ := qs.one_of
  obtain ⟨u, rfl, ru⟩ := Jiz rv
  cases ru
  dsimp only at K2
  cases hi : h2[i]? with
  | none => rw [hi] at K2; exact Zf K2
  | some ob =>
   rw [hi] at K2
   cases ob with
   | lst ys =>
    dsimp only at K2
    cases hb : Je7 ys with
    | none => rw [hb] at K2; exact Zf K2
    | some ns =>
     rw [hb] at K2
     dsimp only at K2
     obtain ⟨ws, e1, r3⟩ := N2.at hi hav
     obtain ⟨its, rv2, pl, _⟩ := N2.inv.list (SqL.of e1)
     refine J2x hh pl.isList (Jl4 hb r3 rv2) fun v h3 tk mi kk => ?_
     have N3 : Now ce X pins ι2 σi h2 σ H2 { s2 with heap := h3, toks := tk } := ⟨N2.inv.kept (t' := tk) kk, N2.rel, N2.st⟩
     rcases mi with ⟨e, rfl⟩ | ⟨e, t, rfl⟩
     ·have em : maxD ns d = d := if_pos e
      rw [em] at K2
      exact K2 _ _ _ _ N3 .refl r2
     ·have em : maxD ns d = .int (Je9 (fun i => ns.getD i 0) ns.length) := if_neg e
      rw [em] at K2
      exact K2 _ _ _ _ N3 .refl ⟨.int _, ⟨t, rfl⟩, rfl⟩
   | _ => exact Zf K2
 | [], K2 => exact Zf K2
 | [.non], K2 => exact Zf K2
 | [.bl _], K2 => exact Zf K2
 | [.int _], K2 => exact Zf K2
 | [.str _], K2 => exact Zf K2
 | [.tup _], K2 => exact Zf K2
 | [.rol _], K2 => exact Zf K2
 | x :: _ :: _, K2 => cases x <;> exact Zf K2
end
end L3
namespace L3
open PySem PySem.Spec PyProof.Rows L2
noncomputable def metB (f : Nat -> Str) (i : Nat) (k : Str) : Bool := (List.range i).any fun j => decide (k = f j)
noncomputable def cntD (f : Nat -> Str) : Nat -> Nat
 | 0 => 0
 | i + 1 => if metB f i (f i) then cntD f i else cntD f i + 1
theorem Jvm (f : Nat -> Str) (i : Nat) (k : Str) : metB f (i + 1) k = (metB f i k || decide (k = f i)) := by simp [metB, List.range_succ]
theorem Jrm (f : Nat -> Str) : ∀ i, cntD f i <= i
 | 0 => Nat.le_refl _
 | i + 1 => by
  have := Jrm f i
  unfold cntD
  split <;> omega
section
variable {pr : Program} {wd : World} {B : Around} {R : Result -> Shared -> Prop} {it : Addr} {fps wrs : List Addr} {G : Array GenState -> Array GenState -> Prop} {n : Nat} {P : Nat -> Value -> Prop} {St : Nat -> Shared -> Prop}
noncomputable abbrev Joi (pr : Program) (wd : World) (hp : Heap) (a : Addr) (f : Nat -> Str) (i : Nat) : Prop := hp.SetOf (PySem.strKind pr wd) a (fun k => metB f i k) (cntD f i)
theorem Joi.moved {hp h2 : Heap} {a : Addr} {f : Nat -> Str} {i : Nat} (q : Joi pr wd hp a f i) (m : ∀ o, hp.get? a = some o -> h2.get? a = some o) : Joi pr wd h2 a f i := by
 obtain ⟨o, es, ep, t, ho, rest⟩ := q
 exact ⟨o, es, ep, t, m o ho, rest⟩
theorem Jx6 (W : WalksS pr wd B.in1 it fps wrs G n P St) (C : Addr) (hC : C ∉ fps) (f : Nat -> Str) (hf : ∀ i v, P i v -> ∃ t, v = .str (f i) t) (room : n + 1 < scanBound) :
  ∀ (r i : Nat) (z : Shared), n - i = r -> i <= n -> St i z -> Joi pr wd z.heap C f i -> (∀ z2, Moved (C :: wrs) G z z2 -> Joi pr wd z2.heap C f n -> R (.ok (.ret .none)) z2) ->
   codeAny (model pr wd) B (.builtin "set.update.loop" ⟨[.ref C, .ref it], []⟩) R z := by
 have nw : C ∉ wrs := fun q => hC (W.sub _ q)
 have more : ∀ b ∈ wrs, b ∈ C :: wrs := fun b q => List.mem_cons_of_mem _ q
 intro r
 induction r with
 | zero =>
  intro i z hr hi st hS fin
  obtain rfl : i = n := by omega
  refine codeAny_builtin PyProof.Rows.F.entry_set_update_loop ?_
  rw [Around.under_plainId PyProof.Rows.F.plain_set_update_loop _]
  show wpAny _ B.in1 (pyNext (.ref it) >>= _) _ _ z
  refine wpAny_bind (W.done z _ _ st fun z2 mv => ?_)
  show wpAny _ B.in1 (ret Value.none) _ _ z2
  exact wpAny_pure (fin z2 (mv.mono more) (hS.moved fun o e => mv.heap C _ nw e))
 | succ r ih =>
  intro i z hr hi st hS fin
  have lt : i < n := by omega
  refine codeAny_builtin PyProof.Rows.F.entry_set_update_loop ?_
  rw [Around.under_plainId PyProof.Rows.F.plain_set_update_loop _]
  show wpAny _ B.in1 (pyNext (.ref it) >>= _) _ _ z
  refine wpAny_bind (W.item i z _ _ lt st fun v z2 hP st2 mv => ?_)
  obtain ⟨t, rfl⟩ := hf i v hP
  have hS2 : Joi pr wd z2.heap C f i := hS.moved fun o e => mv.heap C _ nw e
  have ki : (PySem.strKind pr wd).is (f i) (.str (f i) t) = true := strKind_is _ _ _ _
  show wpAny _ B.in1 (holding [Value.str (f i) t] (setAdd C (.str (f i) t)) >>= _) _ _ z2
  refine wpAny_bind (wpAny_holding ?_)
  unfold setAdd
  refine wpAny_holding ?_
  refine wpAny_bind ((PySem.strKind pr wd).pyHash (k := f i) ki ?_)
  have rm : cntD f i + 1 < scanBound := by have := Jrm f i; omega
  refine wpAny_setAddHashed_of (knd := PySem.strKind pr wd) (s := { z2 with toks := z2.toks + 1 }) ki rfl hS2 rm fun h3 sb hS3 => ?_
  have hS4 : Joi pr wd h3 C f (i + 1) := SetOf_congr hS3 (fun k => (Jvm f i k).symm) (by show _ = cntD f (i + 1); rfl)
  refine wpAny_pure ⟨plainId_quiet PyProof.Rows.F.plain_set_update_loop _, ih (i + 1) _ (by omega) lt (W.frame _ z2 _ _ st2 (Nat.le_succ _) fun b q o e => ?_) hS4 fun z5 m5 hS5 => ?_⟩
  ·rw [sb.2 b (fun e2 : b = C => hC (by rw [<- e2]; exact q))]; exact e
  ·refine fin z5 (Moved.trans W.gtrans ((mv.mono more).then_heap (Nat.le_succ _) fun b o q e => ?_) m5) hS5
   rw [sb.2 b (fun e2 : b = C => q (by rw [e2]; exact List.mem_cons_self))]; exact e
end
end L3
namespace L3
open PySem PySem.Spec PyProof.Rows L2
section
variable {pr : Program} {wd : World} {B : Around} {E : Value -> Shared -> Prop} {z : Shared} {l : Addr} {us : List Value} {zs : List Str} {Q : Value -> Shared -> Prop}
noncomputable abbrev Jft (led : Bool) : Obj := { cls := .type "set", dict := none, data := .set #[] 0 (.fresh 0 0 led) }
noncomputable abbrev Jev (zs : List Str) : Nat -> Str := fun i => zs.getD i Str.empty
set_option maxRecDepth 100000 in
theorem Jzj {l2 : List (Str × Tok)} (hh : B.handled = none) (hl : z.heap.IsList l us.toArray) (eu : us = strValues l2) (ez : l2.map (·.1) = zs) (room : zs.length + 1 < scanBound)
  (fin : ∀ (h2 : Heap) (tk : Nat), Joi pr wd h2 z.heap.objs.size (Jev zs) zs.length -> (∀ b o, z.heap.get? b = some o -> h2.get? b = some o) -> Q (.ref z.heap.objs.size) { z with heap := h2, toks := tk }) :
  wpAny (model pr wd) B (call (.type "set") [.ref l]) Q E z := by
 have len : us.toArray.size = zs.length := by rw [eu, <- ez]; simp [strValues]
 have vals : ∀ (i : Nat) (v : Value), us.toArray[i]? = some v -> ∃ t, v = .str (Jev zs i) t := fun i v q => by
  rw [eu] at q
  simp only [strValues, List.getElem?_toArray, List.getElem?_map] at q
  obtain ⟨p, hp, rfl⟩ := Option.map_eq_some_iff.mp q
  refine ⟨p.2, ?_⟩
  rw [<- ez]
  simp [Jev, List.getD_eq_getElem?_getD, List.getElem?_map, hp]
 obtain ⟨c, tl, hmro⟩ := PySem.F.called_set.mro
 have hmade := PySem.F.called_set.made
 have hsub := PySem.F.called_set.sub
 refine wpAny_call (codeAny_of_tree ?_)
 show wpAny _ _ (callAny (.type "set") _) _ _ _
 refine wpAny_pure ⟨Code.quiet_builtin _ (by decide +kernel), codeAny_builtin PySem.F.entry_type_call ?_⟩
 rw [Around.under_plain (weight_type_call_type "set" [.ref l] []) rfl]
 have no1 := PySem.F.called_set.notType
 have no2 := PySem.F.called_set.canCreate
 have ok1 := PySem.F.typeCall_set_1 (.ref l)
 repeat (any_goals (first | assumption | wp_step))
 refine codeAny_mono (code_set_new_1 (.ref l) (E := E) (Q₁ := fun obj z1 => ∃ led : Bool, obj = .ref z.heap.objs.size /\ z1 = { z with heap := z.heap.push (Jft led) }) fun led => ⟨led, rfl, rfl⟩) fun res z1 hr => ?_
 cases res with
 | error e => exact hr
 | ok fl =>
  cases fl with
  | ret obj =>
   obtain ⟨led, rfl, rfl⟩ := hr
   have gS : (z.heap.push (Jft led)).get? z.heap.objs.size = some (Jft led) := Heap.get?_push_size _ rfl
   have tS : Shared.TypeIs { z with heap := z.heap.push (Jft led) } (.ref z.heap.objs.size) "set" := ⟨_, gS, rfl⟩
   have in1 := PySem.F.called_set.init.lookup
   have in2 := PySem.F.called_set.init.bind (.ref z.heap.objs.size)
   repeat (any_goals (first | assumption | wp_step))
   refine codeAny_mono (codeAny_call_builtin (R := wants (fun res z2 => res = .none /\ ∃ h2 tk, z2 = { z with heap := h2, toks := tk } /\ Joi pr wd h2 z.heap.objs.size (Jev zs) zs.length /\ (∀ b o, z.heap.get? b = some o -> h2.get? b = some o)) E)
    PySem.F.called_set.init.plain PySem.F.entry_set_init (check_set_init_1 tS ?_)) fun res2 z2 hr2 => ?_
   ·obtain ⟨ol, hol, hcl, nl, hdl⟩ := hl
    obtain ⟨ocls, odict, odata, oslots⟩ := ol
    simp only at hcl hdl
    subst hcl; subst hdl
    have gl : (z.heap.push (Jft led)).get? l = some { cls := .type "list", dict := odict, data := .seq us.toArray nl, slots := oslots } := Heap.get?_push_of_some _ hol
    have sb1 := PySem.F.sub_list_set
    have sb2 := PySem.F.sub_list_frozenset
    have dne : (Value.type "list" == Value.type "dict") = false := by decide
    have hl1 : (z.heap.push (Jft led)).IsList l us.toArray := ⟨_, gl, rfl, nl, rfl⟩
    unfold Builtin.«set.__init__» noKeywords Builtin.Frozenset.updateFrom
    generalize hPI : pyIter = PI
    wp_walk
    subst hPI
    refine wpAny_pyIter_list hl1 ?_
    refine wpAny_bind (wpAny_runValue ?_)
    have lS : l < z.heap.objs.size := Heap.lt_size hol
    have h3 : B.in1.in1.in1.handled = none := by simp [hh]
    have neI : l ≠ (z.heap.push (Jft led)).objs.size := by rw [Heap.size_push]; exact Nat.ne_of_lt (Nat.lt_succ_of_lt lS)
    have nC : z.heap.objs.size ∉ [(z.heap.push (Jft led)).objs.size, l] := by
     rw [Heap.size_push]
     simp only [List.mem_cons, List.not_mem_nil, or_false, not_or]
     exact ⟨Nat.ne_of_lt (Nat.lt_succ_self _), Nat.ne_of_gt lS⟩
    refine Jx6 ((Walks.list h3 _ l neI us.toArray).toS) z.heap.objs.size nC (Jev zs) vals (by rw [len]; exact room) (us.toArray.size - 0) 0 _ (by omega) (Nat.zero_le _) ⟨⟨_, Heap.get?_push_size _ rfl, rfl, rfl⟩, (hl1.push _)⟩ ?start ?stop
    case start =>
     have g0 : ((z.heap.push (Jft led)).push { cls := .type "list_iterator", data := .fields #[.ref l, .int 0 0] }).get? z.heap.objs.size = some (Jft led) := Heap.get?_push_of_some _ gS
     exact SetOf_congr ((setObjOf_fresh (knd := PySem.strKind pr wd) led).setOf g0 (by unfold scanBound; omega)) (fun _ => rfl) rfl
    case stop =>
     intro z5 mv hS5
     obtain ⟨h5, g5, d5, tk5, os5⟩ := z5
     have eg : g5 = z.gens := mv.gens
     have ed : d5 = z.drawn := mv.drawn
     have eo : os5 = z.os := mv.os
     subst eg; subst ed; subst eo
     show wpAny _ _ _ _ _ _
     refine wpAny_pure ?_
     show wpAny _ _ (ret Value.none) _ _ _
     rw [len] at hS5
     refine wpAny_pure ⟨rfl, h5, tk5, rfl, hS5, fun b o e => ?_⟩
     have lb := Heap.lt_size e
     have b1 : b ≠ z.heap.objs.size := Nat.ne_of_lt lb
     have b2 : b ≠ (z.heap.push (Jft led)).objs.size := by rw [Heap.size_push]; exact Nat.ne_of_lt (Nat.lt_succ_of_lt lb)
     exact mv.heap b o (by simp only [List.mem_cons, List.not_mem_nil, or_false, not_or]; exact ⟨b1, b2⟩) (Heap.get?_push_of_some _ (Heap.get?_push_of_some _ e))
   ·cases res2 with
    | error e => exact hr2
    | ok fl2 =>
     cases fl2 with
     | ret rv =>
      obtain ⟨rfl, h2, tk, rfl, hS2, keep⟩ := hr2
      repeat (any_goals (first | assumption | wp_step))
      exact fin _ _ hS2 keep
     | _ => exact hr2.elim
  | _ => exact hr.elim
end
end L3
namespace L3
open PySem PySem.Spec PyProof.Rows L2
section
variable {ce : Str -> Option Addr} {X : Cx}
noncomputable def Jl7 (aa : A1) : E1 := fun σ h => (aa σ h).bind fun xs h1 => match xs with
 | [.ref i] => (match h1[i]? with
  | some (.lst ys) => (match Jhe ys with
   | some zs => if zs.length + 1 < scanBound then .ok (.int (cntD (Jev zs) zs.length)) h1 else .stuck
   | none => .stuck)
  | _ => .stuck)
 | _ => .stuck
theorem Jyi {a : Expr} {aa : A1} {p pos p2 pos2 : Pos} (hh : X.A.handled = none) (g1 : Gl X "len") (m1 : X.mg "len" = none) (g2 : Gl X "set") (m2 : X.mg "set" = none) (ha : PAi ce X [a] aa) (hs : starEach [a] X.env = [(false, eval a X.env)]) :
  PEi ce X (.Call (.Name "len" p) [.Call (.Name "set" p2) [a] [] pos2] [] pos) (Jl7 aa) := fun pins s σ H ι σi h Q E N K => by
 refine wpAny_Call_Name_kw (Jde N.inv g1 m1 rfl ?_)
 refine PyProof.Rows.callWith_builtin1 ?_ rfl rfl
 refine PyProof.Rows.spliced_more ?_
 refine wpAny_Call_Name_kw (Jde N.inv g2 m2 rfl ?_)
 refine PyProof.Rows.callWith_type1 ?_ hs rfl
 refine (ha pos2).run N K fun xs h1 us s1 H1 ι1 N1 n1 r1 K1 => ?_
 obtain ⟨vs, rv, qs⟩ := r1
 match xs, K1 with
 | [.ref i], K1 =>
  obtain ⟨w, rfl, ad, rfl, hav⟩ := qs.one_of
  obtain ⟨u, rfl, ru⟩ := Jiz rv
  cases ru
  dsimp only at K1
  cases hi : h1[i]? with
  | none => rw [hi] at K1; exact Zf K1
  | some ob =>
   rw [hi] at K1
   cases ob with
   | lst ys =>
    dsimp only at K1
    cases hb : Jhe ys with
    | none => rw [hb] at K1; exact Zf K1
    | some zs =>
     rw [hb] at K1
     dsimp only at K1
     split at K1
     ·rename_i room
      obtain ⟨ws, e1, r3⟩ := N1.at hi hav
      obtain ⟨its, rv2, pl, _⟩ := N1.inv.list (SqL.of e1)
      obtain ⟨l2, eu, ez⟩ := Jra hb r3 rv2
      refine Jzj hh pl.isList eu ez room fun h2 tk hS keep => PyProof.Rows.spliced_none ?_
      obtain ⟨o, es, ep, t, ho, hex, hd, hel, hmem, hbb, hf, hn⟩ := hS
      have fit : (es.size : Int) < 2 ^ 63 := by
       have := Jrm (Jev zs) zs.length
       have sb : scanBound <= 2 ^ 40 := by unfold scanBound; decide
       omega
      refine call_len_set ho hex hd hf fit ?_
      rw [hn]
      exact K1 _ _ _ _ ⟨(N1.inv.kept (t' := _) keep), N1.rel, N1.st⟩ .refl ⟨.int _, ⟨_, rfl⟩, rfl⟩
     ·exact Zf K1
   | _ => exact Zf K1
 | [], K1 => exact Zf K1
 | [.non], K1 => exact Zf K1
 | [.bl _], K1 => exact Zf K1
 | [.int _], K1 => exact Zf K1
 | [.str _], K1 => exact Zf K1
 | [.tup _], K1 => exact Zf K1
 | [.rol _], K1 => exact Zf K1
 | x :: _ :: _, K1 => cases x <;> exact Zf K1
end
end L3
namespace L3
open PySem PySem.Spec PyProof.Rows L2
section
variable {α β : Type} {h h1 : IH} {σ : ISt}
noncomputable def SRes.sq (r : SRes) (b : S1) : SRes := match r with
 | .next σ' h' => b σ' h'
 | r => r
noncomputable def SRes.fin (r : SRes) : Res IV := match r with
 | .next _ h' => .ok .non h'
 | .ret v h' => .ok v h'
 | _ => .stuck
theorem Jj9 (v : IV) (σ : ISt) : eVar 0 (some v :: σ) h = .ok v h := rfl
theorem Jk9 (n : Nat) (x : Option IV) (σ : ISt) : eVar (n + 1) (x :: σ) h = eVar n σ h := rfl
end
end L3
namespace L3
open PySem PySem.Spec PyProof.Rows L2
noncomputable def MulS (x : Str) (n : Int) : Bool := decide (x.length <= 1000 /\ -1000 <= n /\ n <= 1000)
theorem MulS.ok {x : Str} {n : Int} (h : MulS x n = true) : MulOk x n := by
 simp only [MulS, decide_eq_true_eq] at h
 obtain ⟨h1, h2, h3⟩ := h
 refine ⟨?_, fun hn _ => ?_, fun hn _ => ?_⟩
 ·simp only [Bool.or_eq_false_iff, decide_eq_false_iff_not]
  omega
 ·have e : (1000 : Int) <= (2 ^ 63 - 1) / n := by
   rw [Int.le_ediv_iff_mul_le (by omega)]
   have : (1000 : Int) * n <= 1000 * 1000 := Int.mul_le_mul_of_nonneg_left h3 (by decide)
   omega
  omega
 ·have : x.length * n.toNat <= 1000 * 1000 := Nat.mul_le_mul h1 (by omega)
  have hb : 1000000 < sizeLine := by decide
  unfold Builtin.Str.tooLong
  simp only [decide_eq_false_iff_not]
  omega
theorem J1r {X : L2.Cx} : OpR X (binaryOp .Mult) (fun x y H Q => ∃ i j, x = .str i /\ y = .int j /\ MulS i j = true /\ Q (.str (Txt.mul i j)) H) := by
 intro pins s σ H x y v u Q I rx ry h
 obtain ⟨i, j, rfl, rfl, hz, q⟩ := h
 obtain ⟨t, rfl⟩ := rx
 obtain ⟨t', rfl⟩ := ry
 exact SB.mul (MulS.ok hz) fun t' tk => ⟨.str (Txt.mul i j), H, I.tok _, ⟨_, rfl⟩, q⟩
noncomputable def Jbr (x y : IV) (h : IH) : Res IV := match x with
 | .str i => (match y with
  | .int j => if MulS i j then .ok (.str (Txt.mul i j)) h else .stuck
  | _ => .stuck)
 | x => Jua x y h
section
variable {ce : Str -> Option Addr} {X : Cx}
theorem J38 : OpI ce X (binaryOp .Mult) Jbr := by
 intro pins s σ H ι σi h x y v u Q E N rx ry K
 cases x with
 | str i =>
  obtain ⟨xv, rx, qx⟩ := rx
  obtain ⟨yv, ry, qy⟩ := ry
  cases y with
  | int j =>
   have e1 : xv = .str i := qx
   have e2 : yv = .int j := qy
   subst e1 e2
   dsimp only [Jbr] at K
   split at K
   ·rename_i hz
    exact Jbq (J1r (X := X.wish E)) N.inv rx ry ⟨i, j, rfl, rfl, hz, fin0 N K rfl⟩
   ·exact Zf K
  | _ => exact Zf K
 | _ => exact o_mul pins s σ H ι σi h _ y v u Q E N rx ry K
end
end L3
namespace L3
open PySem PySem.Spec PyProof.Rows L2
noncomputable def valI (kvs : List (Key × IV)) (k : Key) : Option IV := (kvs.find? fun kv => decide (kv.1 = k)).map (·.2)
theorem Jkr {p : Key × IV} {r : List (Key × IV)} {k : Key} (e : p.1 = k) : valI (p :: r) k = some p.2 := by simp [valI, List.find?_cons, e]
theorem Jkl {p : Key × IV} {r : List (Key × IV)} {k : Key} (e : ¬ p.1 = k) : valI (p :: r) k = valI r k := by simp [valI, List.find?_cons, e]
theorem RPs.get {K : W.Frag} {ι : List Addr} {H : Hp} (k : Key) : ∀ {xs : List (Key × IV)} {vs : List (Key × V)}, RPs K ι H xs vs -> (valI xs k = none /\ valV vs k = none) ∨ ∃ v w, valI xs k = some v /\ valV vs k = some w /\ RV K ι H v w
 | [], _, h => by
  have e : _ = [] := h
  subst e
  exact .inl ⟨rfl, rfl⟩
 | x :: xs, _, h => by
  obtain ⟨v, r, rfl, q, t⟩ := h
  by_cases e : x.1 = k
  ·exact .inr ⟨x.2, v, Jkr e, Jn2 e, q⟩
  ·rw [Jkl e, Jn7 e]
   exact RPs.get k t
theorem RPs.snoc {K : W.Frag} {ι : List Addr} {H : Hp} {k : Key} {v : IV} {w : V} (q : RV K ι H v w) : ∀ {xs : List (Key × IV)} {vs : List (Key × V)}, RPs K ι H xs vs -> RPs K ι H (xs ++ [(k, v)]) (vs ++ [(k, w)])
 | [], _, h => by
  have e : _ = [] := h
  subst e
  exact ⟨w, [], rfl, q, rfl⟩
 | x :: xs, _, h => by
  obtain ⟨v', r, rfl, q', t⟩ := h
  exact ⟨v', r ++ [(k, w)], rfl, q', RPs.snoc q t⟩
theorem Jn5 {vs : List (Key × V)} {k : Key} {w : V} (e : valV vs k = none) : putK vs k w = vs ++ [(k, w)] := by
 unfold putK
 rw [if_neg]
 rw [Jof, e]
 exact Bool.false_ne_true
section
variable {ce : Str -> Option Addr} {X : Cx}
noncomputable def Jyo : E1 := fun _ h => .ok (.ref h.length) (h ++ [.dct []])
theorem J5m {pos : Pos} : PEi ce X (.Dict [] [] pos) Jyo := fun pins s σ H ι σi h Q E N K => by
 have hn := N.inv.hok.fresh (Nat.le_refl s.heap.objs.size)
 have I1 := N.inv.laid (a := s.heap.objs.size) (o := .dK []) (h' := s.heap.push { cls := .type "dict", data := .dict #[] }) (t' := s.toks) (fun _ _ q => Heap.get?_push_of_some _ q) (Nat.le_refl _) (Jsd s.heap N.inv.big)
 obtain ⟨R1, n1⟩ := N.rel.alloc (o := .dK []) (io := .dct []) hn ⟨[], Jk, rfl⟩
 have N1 : Now ce X pins (ι ++ [s.heap.objs.size]) σi (h ++ [.dct []]) σ (upd H s.heap.objs.size (.dK [])) _ := ⟨I1, R1, N.st.mono n1⟩
 have h0 : (ι ++ [s.heap.objs.size])[h.length]? = some s.heap.objs.size := by rw [<- N.rel.len, List.getElem?_append_right (Nat.le_refl _)]; simp
 exact wpAny_Dict_empty (K _ _ _ (ι ++ [s.heap.objs.size]) N1 n1 ⟨.ref _, rfl, _, rfl, h0⟩)
noncomputable def getI : IV -> List IV -> IH -> Res IV
 | .ref i, [y], h => match h[i]? with
  | some (.dct kvs) => (match keyI y with
   | some k => .ok ((valI kvs k).getD .non) h
   | none => .stuck)
  | _ => .stuck
 | _, _, _ => .stuck
theorem m_get : MtI ce X "dict" "dict.get" getI := by
 intro pins s σ H ι σi h x xs v us Q E N rx rs K
 obtain ⟨xv, rx, qx⟩ := rx
 obtain ⟨vs, rv, qs⟩ := rs
 cases x with
 | ref i =>
  match xs, K with
  | [y], K =>
   obtain ⟨a, rfl, ha⟩ := qx
   obtain ⟨w, rfl, qw⟩ := qs.one_of
   dsimp only [getI] at K
   cases hi : h[i]? with
   | none => rw [hi] at K; exact Zf K
   | some ob =>
    rw [hi] at K
    cases ob with
    | dct kvs =>
     dsimp only at K
     cases ek : keyI y with
     | none => rw [ek] at K; exact Zf K
     | some k =>
      rw [ek] at K
      obtain ⟨ws, e1, r1⟩ := N.at hi ha
      cases Jim ek qw
      cases rv with
      | cons ru t =>
      cases t
      cases (show v = .ref a from rx)
      obtain ⟨z, hd, ps, rel, dd⟩ := Jxu N.inv.hok e1
      refine call_meetsIn PySem.F.slot_dict_get dd.typeIs PySem.F.entry_dict_get (PySem.F.args_dict_get_2 _ _) (meets_dict_get (Jbu X.prog X.w) a (Ju9 ru) hd) ⟨_, dd.mapOf, ?_⟩
      refine fin0 (w := (valV ws k).getD .non) N K ?_ _ _ (N.inv.tok _) ((rel.val k).getD rfl)
      rcases r1.get k with ⟨p, q⟩ | ⟨v1, w1, p, q, r⟩
      ·rw [p, q]; exact rfl
      ·rw [p, q]; exact r
    | _ => exact Zf K
  | [], K => exact Zf K
  | _ :: _ :: _, K => exact Zf K
 | _ => cases xs <;> exact Zf K
noncomputable def Jfz : IV -> List IV -> IH -> Res IV
 | .ref i, [y, v], h => match h[i]? with
  | some (.dct kvs) => (match keyI y with
   | some k => (match valI kvs k with
    | some w => .ok w h
    | none => if kvs.length < sizeLine then .ok v (h.set i (.dct (kvs ++ [(k, v)]))) else .stuck)
   | none => .stuck)
  | _ => .stuck
 | _, _, _ => .stuck
theorem Jzx : MtI ce X "dict" "dict.setdefault" Jfz := by
 intro pins s σ H ι σi h x xs v us Q E N rx rs K
 obtain ⟨xv, rx, qx⟩ := rx
 obtain ⟨vs, rv, qs⟩ := rs
 cases x with
 | ref i =>
  match xs, K with
  | [y, y2], K =>
   obtain ⟨a, rfl, ha⟩ := qx
   obtain ⟨w, w2, rfl, qw, qw2⟩ := qs.two_of
   dsimp only [Jfz] at K
   cases hi : h[i]? with
   | none => rw [hi] at K; exact Zf K
   | some ob =>
    rw [hi] at K
    cases ob with
    | dct kvs =>
     dsimp only at K
     cases ek : keyI y with
     | none => rw [ek] at K; exact Zf K
     | some k =>
      rw [ek] at K
      dsimp only at K
      obtain ⟨ws, e1, r1⟩ := N.at hi ha
      cases Jim ek qw
      cases rv with
      | @cons _ _ _ _ ru t =>
      cases t with
      | @cons _ u2 _ _ ru2 t =>
      cases t
      cases (show v = .ref a from rx)
      obtain ⟨z, hd, ps, rel, dd⟩ := Jxu N.inv.hok e1
      have hz : ps.length <= sizeLine := by rw [<- rel.length]; exact z
      refine call_meetsIn PySem.F.slot_dict_setdefault dd.typeIs PySem.F.entry_dict_setdefault (PySem.F.args_dict_setdefault_3 _ _ _) (kt_meets_setdefault (Jbu X.prog X.w) a (Ju9 ru) hd u2) ⟨ps, dd, hz, fun v' hv => ?_, fun hn h' dd' hs => ?_⟩
      ·rcases r1.get k with ⟨p, q⟩ | ⟨v1, w1, p, q, r⟩
       ·have rr := rel.val k
        rw [q] at rr
        rw [RelO.none_of rr] at hv
        cases hv
       ·rw [p] at K
        have rr := rel.val k
        rw [q, hv] at rr
        exact fin0 (w := w1) N K r _ _ (N.inv.tok _) rr
      ·rcases r1.get k with ⟨p, q⟩ | ⟨v1, w1, p, q, r⟩
       ·rw [p] at K
        dsimp only at K
        split at K
        ·rename_i hl
         have he : ∃ q, h'.get? a = some q := let ⟨q, _, _, hq, _⟩ := dd'; ⟨q, hq⟩
         have hlen : (putK ws k w2).length <= sizeLine := by rw [Jn5 q, List.length_append, r1.length]; exact hl
         have I4 := Jq6 (t' := s.toks + 1) N.inv (by rw [e1]; exact True.intro) hs he (Jwl hlen hd (rel.put k ru2) dd')
         have n : Nxt ι H ι (upd H a (.dK (putK ws k w2))) := ⟨⟨[], by simp⟩, Ext.upd_mut e1 (by rw [e1]; exact True.intro)⟩
         obtain ⟨R4, _⟩ := N.rel.write (o := .dK (putK ws k w2)) (io := .dct (kvs ++ [(k, y2)])) ha e1 (by rw [e1]; exact True.intro) ⟨_, Jk, (congrArg (fun P => RPs X.K ι (upd H a (.dK (putK ws k w2))) (kvs ++ [(k, y2)]) P) (Jn5 q)).mpr (RPs.mono n _ _ (r1.snoc qw2))⟩
         exact K _ _ _ ι ⟨I4, R4, N.st.mono n⟩ n ⟨w2, ru2, RV.mono n _ _ qw2⟩
        ·exact Zf K
       ·have rr := rel.val k
        rw [q, hn] at rr
        exact Zf rr
    | _ => exact Zf K
  | [], K => exact Zf K
  | [_], K => exact Zf K
  | _ :: _ :: _ :: _, K => exact Zf K
 | _ => cases xs <;> exact Zf K
end
end L3
namespace L3
open PySem PySem.Spec PyProof.Rows L2
noncomputable def putD (kvs : List (Key × IV)) (k : Key) (v : IV) : List (Key × IV) :=
 if (kvs.any fun kv => decide (kv.1 = k)) = true then kvs.map (fun kv => if kv.1 = k then (kv.1, v) else kv) else kvs ++ [(k, v)]
theorem RPs.any {K : W.Frag} {ι : List Addr} {H : Hp} (k : Key) : ∀ {xs : List (Key × IV)} {vs : List (Key × V)}, RPs K ι H xs vs -> (xs.any fun kv => decide (kv.1 = k)) = vs.any fun kv => decide (kv.1 = k)
 | [], _, h => by
  have e : _ = [] := h
  subst e
  rfl
 | x :: xs, _, h => by
  obtain ⟨v, r, rfl, q, t⟩ := h
  rw [List.any_cons, List.any_cons, RPs.any k t]
theorem RPs.upd {K : W.Frag} {ι : List Addr} {H : Hp} {k : Key} {v : IV} {w : V} (q : RV K ι H v w) : ∀ {xs : List (Key × IV)} {vs : List (Key × V)}, RPs K ι H xs vs -> RPs K ι H (xs.map fun kv => if kv.1 = k then (kv.1, v) else kv) (vs.map fun kv => if kv.1 = k then (kv.1, w) else kv)
 | [], _, h => by
  have e : _ = [] := h
  subst e
  exact rfl
 | x :: xs, _, h => by
  obtain ⟨v', r, rfl, q', t⟩ := h
  rw [List.map_cons, List.map_cons]
  by_cases e : x.1 = k
  ·rw [if_pos e, if_pos e]
   exact ⟨w, _, rfl, q, RPs.upd q t⟩
  ·rw [if_neg e, if_neg e]
   exact ⟨v', _, rfl, q', RPs.upd q t⟩
theorem RPs.putKK {K : W.Frag} {ι : List Addr} {H : Hp} {k : Key} {v : IV} {w : V} {xs : List (Key × IV)} {vs : List (Key × V)} (q : RV K ι H v w) (r : RPs K ι H xs vs) : RPs K ι H (putD xs k v) (putK vs k w) := by
 unfold putD putK
 rw [r.any k]
 split
 ·exact r.upd q
 ·exact r.snoc q
section
variable {ce : Str -> Option Addr} {X : Cx}
noncomputable def Jt6 (x y : IV) (h : IH) : Res IV := match x with
 | .ref i => (match h[i]? with
  | some (.dct kvs) => (match keyI y with
   | some k => (match valI kvs k with
    | some v => .ok v h
    | none => .stuck)
   | none => .stuck)
  | _ => .stuck)
 | _ => .stuck
theorem x_ixD : IxI ce X Jt6 := by
 intro value slice pins s σ H ι σi h x y v u Q E N rx ry K hs
 obtain ⟨xv, rx, qx⟩ := rx
 obtain ⟨yv, ry, qy⟩ := ry
 cases x with
 | ref i =>
  obtain ⟨a, e1, ha⟩ := qx
  subst e1
  dsimp only [Jt6] at K
  cases hi : h[i]? with
  | none => rw [hi] at K; exact Zf K
  | some ob =>
   rw [hi] at K
   cases ob with
   | dct kvs =>
    dsimp only at K
    cases ek : keyI y with
    | none => rw [ek] at K; exact Zf K
    | some k =>
     rw [ek] at K
     dsimp only at K
     obtain ⟨ws, e1, r1⟩ := N.at hi ha
     cases Jim ek qy
     cases (show v = .ref a from rx)
     obtain ⟨z, hd, ps, rel, dd⟩ := Jxu N.inv.hok e1
     rcases r1.get k with ⟨p, q⟩ | ⟨v1, w1, p, q, r⟩
     ·rw [p] at K; exact Zf K
     ·rw [p] at K
      have rr := rel.val k
      rw [q] at rr
      obtain ⟨w', hw, rw'⟩ := RelO.some_of rr
      exact subscriptTail_builtinR (x := w') dd.typeIs PySem.F.slot_dict_getitem.lookup (wpAny_getItem_of (Q := fun r s' => r = w' /\ Q r s') (Ju9 ry) dd.mapOf hw ⟨rfl, fin0 N K r _ _ (N.inv.tok _) rw'⟩) hs
   | _ => exact Zf K
 | _ => exact Zf K
noncomputable def cInD (x c : IV) (h : IH) : Res IV := match c with
 | .ref i => (match h[i]? with
  | some (.dct kvs) => (match keyI x with
   | some k => .ok (.bl (valI kvs k).isSome) h
   | none => .stuck)
  | _ => .stuck)
 | _ => .stuck
noncomputable def J4g : IV -> IV -> IV -> ISt -> IH -> SRes
 | .ref i, iv, v, σ, h => match h[i]? with
  | some (.dct kvs) => (match keyI iv with
   | some k => if kvs.length < sizeLine then .next σ (h.set i (.dct (putD kvs k v))) else .stuck
   | none => .stuck)
  | _ => .stuck
 | _, _, _, _, _ => .stuck
noncomputable def gSbD (o i : E1) : G1 := fun v σ h => rS σ (o σ h) fun ov h1 => rS σ (i σ h1) fun iv h2 => J4g ov iv v σ h2
theorem J27 {oe ie : Expr} {mo mi : E1} {pos : Pos} (ho : PEi ce X oe mo) (hi : PEi ce X ie mi)
  (ha : ∀ v, assign (.Subscript oe ie pos) X.env v = (do
   let ov <- holding [v] (eval oe X.env)
   let iv <- holding [v, ov] (eval ie X.env)
   standAt pos
   holding [v, ov, iv] (setItem ov iv v)
   release [v, ov, iv] [])) : PGi ce X (.Subscript oe ie pos) (gSbD mo mi) := by
 intro pins s σ H ι σi h v u Q E N r K
 rw [ha]
 refine wpAny_bind (wpAny_holding (krun ho N K fun ov h1 ou s1 H1 ι1 N1 n1 r1 K1 => ?_))
 refine wpAny_bind (wpAny_holding (krun hi N1 K1 fun iv h2 iu s2 H2 ι2 N2 n2 r2 K2 => ?_))
 have r' : RU X.K ι2 H2 v u := (r.mono n1).mono n2
 obtain ⟨ox, ro, qo⟩ := r1.mono n2
 obtain ⟨ix, ri, qi⟩ := r2
 obtain ⟨vx, rvx, qv⟩ := r'
 refine wpAny_bind (wpAny_standAt (wpAny_bind (wpAny_holding ?_)))
 cases ov with
 | ref i =>
  obtain ⟨a, rfl, haa⟩ := qo
  dsimp only [J4g] at K2
  cases hh : h2[i]? with
  | none => rw [hh] at K2; exact Zf K2
  | some ob =>
   rw [hh] at K2
   cases ob with
   | dct kvs =>
    dsimp only at K2
    cases ek : keyI iv with
    | none => rw [ek] at K2; exact Zf K2
    | some k =>
     rw [ek] at K2
     dsimp only at K2
     split at K2
     ·rename_i hl
      obtain ⟨ws, e1, r1'⟩ := N2.at hh haa
      cases Jim ek qi
      cases (show ou = .ref a from ro)
      obtain ⟨z, hd, ps, rel, dd⟩ := Jxu N2.inv.hok e1
      have hz : ps.length <= sizeLine := by rw [<- rel.length]; exact z
      have hlen : (putK ws k vx).length <= sizeLine := by
       have h1 := Jkz ws k vx
       have h2 := r1'.length
       omega
      refine wpAny_setItem_pairs (hsz := hz) (Ju9 ri) dd fun h' dd' hs => ?_
      have he : ∃ q, h'.get? a = some q := let ⟨q, _, _, hq, _⟩ := dd'; ⟨q, hq⟩
      have I4 := Jq6 (t' := s2.toks + 1) N2.inv (by rw [e1]; exact True.intro) hs he (Jwl hlen hd (rel.put k rvx) dd')
      have n : Nxt ι2 H2 ι2 (upd H2 a (.dK (putK ws k vx))) := ⟨⟨[], by simp⟩, Ext.upd_mut e1 (by rw [e1]; exact True.intro)⟩
      obtain ⟨R3, _⟩ := N2.rel.write (o := .dK (putK ws k vx)) (io := .dct (putD kvs k v)) haa e1 (by rw [e1]; exact True.intro) ⟨_, Jk, RPs.putKK (RV.mono n _ _ qv) (RPs.mono n _ _ r1')⟩
      exact wpAny_release (K2 _ σ _ ι2 ⟨I4, R3, N2.st.mono n⟩ n)
     ·exact Zf K2
   | _ => exact Zf K2
 | _ => exact Zf K2
end
end L3
namespace L3
open PySem PySem.Spec PyProof.Rows L2
noncomputable def leZ (a b : Int) : Bool := decide (a <= b)
noncomputable def leS (a b : Str) : Bool := decide (a.cps.toList <= b.cps.toList)
noncomputable def Jt3 (ns : List Int) : List Int := ns.mergeSort leZ
noncomputable def Jvy (zs : List Str) : List Str := zs.mergeSort leS
theorem J05 {a b : Str} (h : a.cps.toList = b.cps.toList) : a = b := by
 cases a; cases b
 simp only [Str.mk.injEq]
 exact Array.toList_inj.mp h
theorem Jy1 (ns : List Int) : (Jt3 ns).Pairwise (· <= ·) := by
 have := List.pairwise_mergeSort (le := leZ) (fun a b c h1 h2 => by simp only [leZ, decide_eq_true_eq] at *; omega) (fun a b => by simp only [leZ, Bool.or_eq_true, decide_eq_true_eq]; omega) ns
 exact this.imp fun h => by simpa [leZ] using h
theorem Jyf (zs : List Str) : (Jvy zs).Pairwise fun a b => a.cps.toList <= b.cps.toList := by
 have := List.pairwise_mergeSort (le := leS) (fun a b c h1 h2 => by simp only [leS, decide_eq_true_eq] at *; exact List.le_trans h1 h2) (fun a b => by simp only [leS, Bool.or_eq_true, decide_eq_true_eq]; exact List.le_total _ _) zs
 exact this.imp fun h => by simpa [leS] using h
theorem Jsg {ns ns' : List Int} (p : ns'.Perm ns) (s : ns'.Pairwise (· <= ·)) : ns' = Jt3 ns :=
 List.Perm.eq_of_pairwise (le := (· <= ·)) (fun a b _ _ h1 h2 => Int.le_antisymm h1 h2) s (Jy1 ns) (p.trans (List.mergeSort_perm ns leZ).symm)
theorem Jpe : ∀ (p : Str) (l : List Str), risingS p l = true -> (p :: l).Pairwise fun a b => a.cps.toList <= b.cps.toList
 | p, [], _ => List.pairwise_singleton ..
 | p, x :: r, h => by
  have h : (!ltCps x.cps.toList p.cps.toList && risingS x r) = true := h
  rw [Bool.and_eq_true, Bool.not_eq_true', ltCps_eq, decide_eq_false_iff_not, List.not_lt] at h
  have ih := Jpe x r h.2
  refine List.pairwise_cons.mpr ⟨fun y hy => ?_, ih⟩
  rcases List.mem_cons.mp hy with rfl | hy
  ·exact h.1
  ·exact List.le_trans h.1 ((List.pairwise_cons.mp ih).1 y hy)
theorem Jx5 {zs zs' : List Str} (p : zs'.Perm zs) (s : sortedS zs' = true) : zs' = Jvy zs := by
 have pw : zs'.Pairwise fun a b => a.cps.toList <= b.cps.toList := by
  cases zs' with
  | nil => exact .nil
  | cons x r => exact Jpe x r s
 exact List.Perm.eq_of_pairwise (le := fun a b : Str => a.cps.toList <= b.cps.toList) (fun a b _ _ h1 h2 => J05 (List.le_antisymm h1 h2)) pw (Jyf zs) (p.trans (List.mergeSort_perm zs leS).symm)
theorem Jm2 {K : W.Frag} {ι : List Addr} {H : Hp} : ∀ {xs : List IV} {zs : List Str} {vs : List V} {us : List Value}, Jhe xs = some zs -> RVs K ι H xs vs -> Vals vs us -> StrsAre us zs
 | [], zs, vs, us, e, q, r => by
  cases e
  have e1 : vs = [] := q
  subst e1
  cases r
  exact .nil
 | x :: xs, zs, vs, us, e, q, r => by
  obtain ⟨v, vr, e1, q1, q2⟩ := q
  subst e1
  cases r with
  | cons r1 r2 =>
   cases x with
   | str y =>
    obtain ⟨z2, e2, rfl⟩ := Option.map_eq_some_iff.mp (show (Jhe xs).map (y :: ·) = some zs from e)
    cases (show v = .str y from q1)
    obtain ⟨t, rfl⟩ := r1
    exact .cons y t (Jm2 e2 q2 r2)
   | _ => cases e
theorem Jd0 : ∀ {us : List Value} {ns : List Int}, IntsAre us ns -> Vals (ns.map V.int) us
 | _, _, .nil => .nil
 | _, _, .cons _ _ r => .cons ⟨_, rfl⟩ (Jd0 r)
theorem Jlt : ∀ {us : List Value} {zs : List Str}, StrsAre us zs -> Vals (zs.map V.str) us
 | _, _, .nil => .nil
 | _, _, .cons _ _ r => .cons ⟨_, rfl⟩ (Jlt r)
theorem Joe {K : W.Frag} {ι : List Addr} {H : Hp} : ∀ ns : List Int, RVs K ι H (ns.map IV.int) (ns.map V.int)
 | [] => rfl
 | _ :: ns => ⟨_, _, rfl, rfl, Joe ns⟩
theorem Jsi {K : W.Frag} {ι : List Addr} {H : Hp} : ∀ zs : List Str, RVs K ι H (zs.map IV.str) (zs.map V.str)
 | [] => rfl
 | _ :: zs => ⟨_, _, rfl, rfl, Jsi zs⟩
noncomputable def srtI (xs : List IV) : Option (List IV) := match Je7 xs with
 | some ns => some ((Jt3 ns).map .int)
 | none => (Jhe xs).map fun zs => (Jvy zs).map .str
section
variable {ce : Str -> Option Addr} {X : Cx}
noncomputable def Jjk : IV -> IH -> Res IV
 | .ref i, h => match h[i]? with
  | some (.lst xs) => if xs.length < 64 then (match srtI xs with
   | some ys => .ok (.ref h.length) (h ++ [.lst ys])
   | none => .stuck) else .stuck
  | _ => .stuck
 | _, _ => .stuck
theorem Jyv : Jkg ce X (.builtin "sorted") (on1 Jjk) := Jq0 fun pins s σ H ι σi h x xv u Q E N ru qx K => by
 cases x with
 | ref i =>
  obtain ⟨a, e1, ha⟩ := qx
  subst e1
  cases ru
  dsimp only [Jjk] at K
  cases hi : h[i]? with
  | none => rw [hi] at K; exact Zf K
  | some ob =>
   rw [hi] at K
   cases ob with
   | lst xs =>
    dsimp only at K
    split at K
    ·rename_i h64
     obtain ⟨vs, e1, r1⟩ := N.at hi ha
     obtain ⟨its, rv, pl, hz⟩ := N.inv.list (SqL.of e1)
     have li : its.length = xs.length := by rw [<- rv.length, r1.length]
     have hb : 64 <= sizeLine := by decide
     have fresh : H (s.heap.objs.size + 1) = none := N.inv.hok.fresh (Nat.le_succ _)
     unfold srtI at K
     cases ei : Je7 xs with
     | some ns =>
      rw [ei] at K
      have are := Jl4 ei r1 rv
      have ln := Jel are
      refine sorted_ints pl.isList are (by omega) fun out ns' hI hp hs => ?_
      have en := Jsg hp hs
      subst en
      obtain ⟨e, he⟩ := sortedAll_at s.heap its out
      have hl : ((Jt3 ns).map V.int).length <= sizeLine := by rw [List.length_map, hp.length_eq]; omega
      have I' := N.inv.laid (a := s.heap.objs.size + 1) (o := .lst ((Jt3 ns).map V.int)) (h' := sortedAll s.heap its out) (t' := s.toks) (fun _ _ => sortedAll_old) (Nat.le_succ _) ⟨hl, out.toList, e, Jd0 hI, he⟩
      exact finA N K (s.heap.objs.size + 1) fresh ⟨_, Jk, Joe _⟩ _ _ I' rfl
     | none =>
      rw [ei] at K
      cases es : Jhe xs with
      | none => rw [es] at K; exact Zf K
      | some zs =>
       rw [es] at K
       have are := Jm2 es r1 rv
       refine sorted_strs pl.isList are (by omega) fun out zs' hS hp hs => ?_
       have en := Jx5 hp hs
       subst en
       obtain ⟨e, he⟩ := sortedAll_at s.heap its out
       have lz : zs.length = its.length := by have := (Jlt are).length; rw [List.length_map] at this; exact this
       have hl : ((Jvy zs).map V.str).length <= sizeLine := by rw [List.length_map, hp.length_eq]; omega
       have I' := N.inv.laid (a := s.heap.objs.size + 1) (o := .lst ((Jvy zs).map V.str)) (h' := sortedAll s.heap its out) (t' := s.toks) (fun _ _ => sortedAll_old) (Nat.le_succ _) ⟨hl, out.toList, e, Jlt hS, he⟩
       exact finA N K (s.heap.objs.size + 1) fresh ⟨_, Jk, Jsi _⟩ _ _ I' rfl
    ·exact Zf K
   | _ => exact Zf K
 | _ => exact Zf K
end
end L3
namespace L3
open PySem PySem.Spec PyProof.Rows L2
noncomputable def J1y (f : Nat -> Int) : Nat -> Int
 | 0 => 0
 | 1 => f 0
 | j + 2 => if f (j + 1) < J1y f (j + 1) then f (j + 1) else J1y f (j + 1)
section
variable {pr : Program} {wd : World} {B : Around} {R : Result -> Shared -> Prop} {it : Addr} {fps wrs : List Addr} {n : Nat} {P : Nat -> Value -> Prop} {St : Nat -> Heap -> Prop}
end
section
variable {pr : Program} {wd : World} {B : Around} {E : Value -> Shared -> Prop} {z : Shared} {l : Addr} {us : List Value} {ns : List Int} {Q : Value -> Shared -> Prop}
end
section
variable {ce : Str -> Option Addr} {X : Cx}
noncomputable def minLI : IV -> IH -> Res IV
 | .ref i, h => match h[i]? with
  | some (.lst xs) => (match Je7 xs with
   | some ns => if ns = [] then .stuck else .ok (.int (J1y (fun i => ns.getD i 0) ns.length)) h
   | none => .stuck)
  | _ => .stuck
 | _, _ => .stuck
end
end L3
namespace L3
open PySem PySem.Spec PyProof.Rows L2
theorem RVs.erase {K : W.Frag} {ι : List Addr} {H : Hp} : ∀ {xs : List IV} {vs : List V} (k : Nat), RVs K ι H xs vs -> RVs K ι H (xs.eraseIdx k) (vs.eraseIdx k)
 | [], vs, k, h => by
  cases (show vs = [] from h)
  exact rfl
 | _ :: _, _, 0, h => by
  obtain ⟨v, r, rfl, q, t⟩ := h
  exact t
 | _ :: _, _, k + 1, h => by
  obtain ⟨v, r, rfl, q, t⟩ := h
  exact ⟨v, r.eraseIdx k, rfl, q, RVs.erase k t⟩
section
variable {ce : Str -> Option Addr} {X : Cx}
noncomputable def popI : IV -> List IV -> IH -> Res IV
 | .ref i, [.int k], h => match h[i]? with
  | some (.lst xs) => if 0 <= k /\ k < 1000000 then (match xs[k.toNat]? with
   | some y => .ok y (h.set i (.lst (xs.eraseIdx k.toNat)))
   | none => .stuck) else .stuck
  | _ => .stuck
 | _, _, _ => .stuck
theorem m_pop : MtI ce X "list" "list.pop" popI := by
 intro pins s σ H ι σi h x xs v us Q E N rx rs K
 obtain ⟨xv, rx, qx⟩ := rx
 obtain ⟨vs, rv, qs⟩ := rs
 cases x with
 | ref i =>
  match xs, K with
  | [y], K =>
   cases y with
   | int k =>
    obtain ⟨a, rfl, ha⟩ := qx
    obtain ⟨w, rfl, qw⟩ := qs.one_of
    cases (show w = .int k from qw)
    dsimp only [popI] at K
    cases hi : h[i]? with
    | none => rw [hi] at K; exact Zf K
    | some ob =>
     rw [hi] at K
     cases ob with
     | lst zs =>
      dsimp only at K
      split at K
      ·rename_i hk
       cases hy : zs[k.toNat]? with
       | none => rw [hy] at K; exact Zf K
       | some y =>
        rw [hy] at K
        obtain ⟨ws, e1, r1⟩ := N.at hi ha
        obtain ⟨z, hz, qz⟩ := r1.get hy
        have lt : k.toNat < ws.length := (List.getElem?_eq_some_iff.mp hz).1
        exact Joo (Jzk (X := X.wish E)) N.inv rx rv ⟨a, ws, k, k.toNat, z, rfl, rfl, e1, by omega, by omega, seqIndex_of hk.1 (by omega), hz, finW (ys := zs.eraseIdx k.toNat) N K ha e1 (r1.erase _) qz⟩
      ·exact Zf K
     | _ => exact Zf K
   | _ => exact Zf K
  | [], K => exact Zf K
  | y :: _ :: _, K => cases y <;> exact Zf K
 | _ => cases xs with
  | nil => exact Zf K
  | cons y r => cases y <;> cases r <;> exact Zf K
noncomputable def Jjt : IV -> List IV -> IH -> Res IV
 | .ref i, [.ref j], h => match h[i]? with
  | some (.lst xs) => (match h[j]? with
   | some (.lst ys) => if xs.length + ys.length <= sizeLine then .ok .non (h.set i (.lst (xs ++ ys))) else .stuck
   | _ => .stuck)
  | _ => .stuck
 | _, _, _ => .stuck
theorem Jy3 : MtI ce X "list" "list.extend" Jjt := by
 intro pins s σ H ι σi h x xs v us Q E N rx rs K
 obtain ⟨xv, rx, qx⟩ := rx
 obtain ⟨vs, rv, qs⟩ := rs
 cases x with
 | ref i =>
  match xs, K with
  | [y], K =>
   cases y with
   | ref j =>
    obtain ⟨a, rfl, ha⟩ := qx
    obtain ⟨w, rfl, b, rfl, hb⟩ := qs.one_of
    dsimp only [Jjt] at K
    cases hi : h[i]? with
    | none => rw [hi] at K; exact Zf K
    | some ob =>
     rw [hi] at K
     cases ob with
     | lst zs =>
      dsimp only at K
      cases hj : h[j]? with
      | none => rw [hj] at K; exact Zf K
      | some oj =>
       rw [hj] at K
       cases oj with
       | lst ys =>
        dsimp only at K
        split at K
        ·rename_i hl
         obtain ⟨ws, e1, r1⟩ := N.at hi ha
         obtain ⟨ws2, e2, r2⟩ := N.at hj hb
         exact Joo (Jw1 (X := X.wish E)) N.inv rx rv ⟨a, b, ws, ws2, rfl, rfl, e1, e2, by rw [r1.length, r2.length]; exact hl, finW (ys := zs ++ ys) N K ha e1 (r1.append r2) rfl⟩
        ·exact Zf K
       | _ => exact Zf K
     | _ => exact Zf K
   | _ => exact Zf K
  | [], K => exact Zf K
  | y :: _ :: _, K => cases y <;> exact Zf K
 | _ => cases xs with
  | nil => exact Zf K
  | cons y r => cases y <;> cases r <;> exact Zf K
noncomputable def Jng : IV -> List IV -> IH -> Res IV
 | .ref i, [], h => match h[i]? with
  | some (.lst xs) => .ok .non (h.set i (.lst xs.reverse))
  | _ => .stuck
 | _, _, _ => .stuck
theorem Ju1 : MtI ce X "list" "list.reverse" Jng := by
 intro pins s σ H ι σi h x xs v us Q E N rx rs K
 obtain ⟨xv, rx, qx⟩ := rx
 obtain ⟨vs, rv, qs⟩ := rs
 cases x with
 | ref i =>
  match xs, K with
  | [], K =>
   obtain ⟨a, rfl, ha⟩ := qx
   cases (show vs = [] from qs)
   dsimp only [Jng] at K
   cases hi : h[i]? with
   | none => rw [hi] at K; exact Zf K
   | some ob =>
    rw [hi] at K
    cases ob with
    | lst zs =>
     obtain ⟨ws, e1, r1⟩ := N.at hi ha
     exact Joo (Jtr (X := X.wish E)) N.inv rx rv ⟨a, ws, rfl, rfl, e1, finW (ys := zs.reverse) N K ha e1 r1.rev rfl⟩
    | _ => exact Zf K
  | _ :: _, K => exact Zf K
 | _ => cases xs <;> exact Zf K
noncomputable def Jm9 : IV -> List IV -> IH -> Res IV
 | .ref i, [.int k], h => match h[i]? with
  | some (.lst xs) => (match Je7 xs with
   | some ns => (match ns.findIdx? (· == k) with
    | some j => .ok (.int j) h
    | none => .stuck)
   | none => .stuck)
  | _ => .stuck
 | _, _, _ => .stuck
noncomputable def isK (k : Int) : Value -> Bool
 | .int a _ => a == k
 | _ => false
theorem J1p : MtI ce X "list" "list.index" Jm9 := by
 intro pins s σ H ι σi h x xs v us Q E N rx rs K
 obtain ⟨xv, rx, qx⟩ := rx
 obtain ⟨vs, rv, qs⟩ := rs
 cases x with
 | ref i =>
  match xs, K with
  | [y], K =>
   cases y with
   | int k =>
    obtain ⟨a, rfl, ha⟩ := qx
    obtain ⟨w, rfl, qw⟩ := qs.one_of
    cases (show w = .int k from qw)
    obtain ⟨u, rfl, ru⟩ := Jiz rv
    obtain ⟨t, rfl⟩ := ru
    cases rx
    dsimp only [Jm9] at K
    cases hi : h[i]? with
    | none => rw [hi] at K; exact Zf K
    | some ob =>
     rw [hi] at K
     cases ob with
     | lst zs =>
      dsimp only at K
      cases hb : Je7 zs with
      | none => rw [hb] at K; exact Zf K
      | some ns =>
       rw [hb] at K
       dsimp only at K
       cases hj : ns.findIdx? (· == k) with
       | none => rw [hj] at K; exact Zf K
       | some j =>
        rw [hj] at K
        obtain ⟨ws, e1, r1⟩ := N.at hi ha
        obtain ⟨z, its, n, r, hl, eo⟩ := N.inv.lstM e1
        have are := Jl4 hb r1 r
        have ln := Jel are
        obtain ⟨hlt, hp, hno⟩ := List.findIdx?_eq_some_iff_getElem.mp hj
        have at_ : ∀ m (hm : m < its.toArray.size), ∃ t, its.toArray[m] = .int (ns.getD m 0) t := fun m hm => IntsAre.int_at are m _ (by simp at hm; simp [hm])
        have sb : (2 : Nat) ^ 40 ≥ sizeLine := by decide
        refine call_meets F.slot_list_index ⟨_, eo, rfl⟩ F.entry_list_index (F.args_list_index_2 _ _)
         (SeqAt.list_indexAt a its.toArray n none #[] (.int k t) (isK k) j (by simp; omega) (by omega) ?_ (fun m hm hmj => ?_)) ⟨eo, fun y hy => ?_, ?_⟩
        ·obtain ⟨t', e⟩ := at_ j (by simp; omega)
         rw [e]
         simpa [isK, List.getD_eq_getElem?_getD, hlt] using hp
        ·obtain ⟨t', e⟩ := at_ m hm
         rw [e]
         have := hno m hmj
         have hm2 : m < ns.length := by omega
         simpa [isK, List.getD_eq_getElem?_getD, hm2] using this
        ·obtain ⟨m, hm, rfl⟩ := Array.mem_iff_getElem.mp hy
         obtain ⟨t', e⟩ := at_ m hm
         rw [e]
         exact SeqAt.EqAt.int_int _ _ _ _
        ·exact fin0 N K rfl _ _ (N.inv.kept (t' := s.toks + 1) fun _ _ e => e) ⟨_, rfl⟩
     | _ => exact Zf K
   | _ => exact Zf K
  | [], K => exact Zf K
  | y :: _ :: _, K => cases y <;> exact Zf K
 | _ => cases xs with
  | nil => exact Zf K
  | cons y r => cases y <;> cases r <;> exact Zf K
theorem Jxo : ∀ (us : List Value) (ns : List Int), us.length = ns.length -> (∀ i v, us[i]? = some v -> ∃ t : Tok, v = Value.int (ns.getD i 0) t) -> IntsAre us ns
 | [], [], _, _ => .nil
 | u :: us, n :: ns, hl, h => by
  obtain ⟨t, e⟩ := h 0 u rfl
  cases (show u = .int n t from e)
  exact .cons n t (Jxo us ns (by simpa using hl) fun i v q => h (i + 1) v q)
 | [], _ :: _, hl, _ => by cases hl
 | _ :: _, [], hl, _ => by cases hl
noncomputable def eLR (aa : A1) : E1 := fun σ h => (aa σ h).bind fun xs h1 => match xs with
 | [.int j] => if 0 <= j /\ j <= 1000 then .ok (.ref h1.length) (h1 ++ [.lst (rngI 0 j)]) else .stuck
 | _ => .stuck
theorem Jxm (j : Int) : rngI 0 j = ((List.range j.toNat).map fun k => ((k : Nat) : Int)).map IV.int := by
 simp [rngI]
theorem Jvr {a : Expr} {aa : A1} {p pos p2 pos2 : Pos} (hh : X.A.handled = none) (g1 : Gl X "list") (m1 : X.mg "list" = none) (g2 : Gl X "range") (m2 : X.mg "range" = none) (ha : PAi ce X [a] aa) (hs : starEach [a] X.env = [(false, eval a X.env)]) :
  PEi ce X (.Call (.Name "list" p) [.Call (.Name "range" p2) [a] [] pos2] [] pos) (eLR aa) := fun pins s σ H ι σi h Q E N K => by
 refine wpAny_Call_Name_kw (Jde N.inv g1 m1 rfl ?_)
 refine PyProof.Rows.callWith_type1 ?_ rfl rfl
 refine PyProof.Rows.spliced_more ?_
 refine wpAny_Call_Name_kw (Jde N.inv g2 m2 boot_range ?_)
 refine PyProof.Rows.callWith_type1 ?_ hs rfl
 refine (ha pos2).run N K fun xs h1 us s1 H1 ι1 N1 n1 r1 K1 => ?_
 obtain ⟨vs, rv, qs⟩ := r1
 match xs, K1 with
 | [.int j], K1 =>
  obtain ⟨w, rfl, qw⟩ := qs.one_of
  cases (show w = .int j from qw)
  obtain ⟨u, rfl, t, rfl⟩ := Jiz rv
  dsimp only at K1
  split at K1
  ·rename_i hj
   refine call_range_1 (PyProof.Rows.spliced_none ?_)
   have I2 := N1.inv.kept (h' := s1.heap.push { cls := .type "range", data := .fields #[.int 0 s1.toks, .int j t, .int 1 (s1.toks + 1)] }) (t' := s1.toks + 1 + 1) fun b o e => Heap.get?_push_of_some _ e
   refine call_list_range (n := j.toNat) hh (Heap.get?_push_size _ rfl) ?_ ?_ (by omega) fun h3 tk acc c' keep hget its => ?_
   ·exact small_one (by decide) (by decide) (by omega) (by omega)
   ·rw [rangeSize_one]
    split <;> omega
   ·have sb : (1000 : Nat) <= sizeLine := by decide
    have are : IntsAre acc.toList ((List.range j.toNat).map fun k => ((k : Nat) : Int)) := by
     refine Jxo _ _ (by simp [its.1]) fun i v hv => ?_
     obtain ⟨t, rfl⟩ := its.2 i v (by simpa using hv)
     have hi : i < j.toNat := by
      have := (List.getElem?_eq_some_iff.mp hv).1
      simp only [Array.length_toList, its.1] at this
      exact this
     exact ⟨t, by simp [List.getD_eq_getElem?_getD, hi]⟩
    rw [Jxm] at K1
    have fresh : H1 (s1.heap.objs.size + 1) = none := N1.inv.hok.fresh (Nat.le_succ _)
    have hz : (s1.heap.push { cls := .type "range", data := .fields #[.int 0 s1.toks, .int j t, .int 1 (s1.toks + 1)] }).objs.size = s1.heap.objs.size + 1 := size_push' ..
    rw [hz] at hget ⊢
    have I' := N1.inv.laid (a := s1.heap.objs.size + 1) (o := .lst (((List.range j.toNat).map fun k => ((k : Nat) : Int)).map V.int)) (h' := h3) (t' := tk) (fun b o e => keep b o (Heap.get?_push_of_some _ e)) (Nat.le_succ _) ⟨by simp; omega, acc.toList, c', Jd0 are, by simpa using hget⟩
    exact finA N1 K1 (s1.heap.objs.size + 1) fresh ⟨_, Jk, Joe _⟩ _ _ I' rfl
  ·exact Zf K1
 | [], K1 => exact Zf K1
 | [.non], K1 => exact Zf K1
 | [.bl _], K1 => exact Zf K1
 | [.ref _], K1 => exact Zf K1
 | [.str _], K1 => exact Zf K1
 | [.tup _], K1 => exact Zf K1
 | [.rol _], K1 => exact Zf K1
 | x :: _ :: _, K1 => cases x <;> exact Zf K1
end
end L3
namespace L3
open PySem PySem.Spec PyProof.Rows L2
section
variable {prog : Program} {w : World} {A : Around} {E : Value -> Shared -> Prop} {s : Shared}
theorem Jto {it t : Addr} {i : Nat} {items : Array Value} {x : Value} {Q : Value -> Shared -> Prop} (hit : s.heap.IsTupleIter it t i) (ht : s.heap.IsTuple t items) (hx : items[i]? = some x)
  (hQ : ∀ h', h'.IsTupleIter it t (i + 1) -> Heap.SameBut it s.heap h' -> Q x { s with heap := h' }) : wpAny (model prog w) A (Builtin.SmallTypes.nextOf (.ref it)) Q E s := by
 obtain ⟨oi, hi, ci, di⟩ := id hit
 obtain ⟨ot, hot, _, nt, dt⟩ := ht
 unfold Builtin.SmallTypes.nextOf
 refine wpAny_bind (wpAny_callSpecial?_slot (name := Str.ofString "__next__") hit.typeIs F.slot_tuple_iterator_next (wpAny_call_entry F.slot_tuple_iterator_next hit.typeIs F.entry_tuple_iterator_next ?_ (F.args_tuple_iterator_next_1 _)))
 show wpAny _ A.in1 (field (.ref it) 0 >>= _) _ _ s
 refine wpAny_bind (wpAny_field hi di (x := .ref t) rfl ?_)
 show wpAny _ A.in1 (if (Value.ref t == Value.none) = true then _ else _) _ _ s
 rw [if_neg (show ¬ (Value.ref t == Value.none) = true from Bool.false_ne_true)]
 show wpAny _ A.in1 (field (.ref it) 1 >>= _) _ _ s
 refine wpAny_bind (wpAny_field hi di (x := .int i 0) rfl ?_)
 show wpAny _ A.in1 (seqItems? (.ref t) >>= _) _ _ s
 refine wpAny_bind (wpAny_seqItems hot dt ?_); simp only [Int.toNat_natCast, hx]
 refine wpAny_bind (wpAny_setField hi di (by simp) (wpAny_pure ⟨x, rfl, wpAny_pure (hQ _ ⟨_, Heap.get?_update_self _ hi (Obj.isFreed_of_fields (Obj.data_mapFields di _)), (Obj.cls_mapFields ..).trans ci, ?_⟩ (Heap.SameBut.update ..))⟩))
 rw [Obj.data_mapFields di]; simp [rawInt]
theorem Jpk {it t : Addr} {i : Nat} {items : Array Value} {Q : Value -> Shared -> Prop} (hh : A.handled = none) (hit : s.heap.IsTupleIter it t i) (ht : s.heap.IsTuple t items) (hx : items[i]? = none)
  (hE : ∀ h' e, Heap.ExtBut it s.heap h' -> (∃ o, h'.get? e = some o /\ o.cls = .type "StopIteration") -> E (.ref e) { s with heap := h' }) : wpAny (model prog w) A (Builtin.SmallTypes.nextOf (.ref it)) Q E s := by
 obtain ⟨oi, hi, ci, di⟩ := id hit
 obtain ⟨ot, hot, _, nt, dt⟩ := ht
 unfold Builtin.SmallTypes.nextOf
 refine wpAny_bind (wpAny_callSpecial?_slot (name := Str.ofString "__next__") hit.typeIs F.slot_tuple_iterator_next (wpAny_call_entry F.slot_tuple_iterator_next hit.typeIs F.entry_tuple_iterator_next ?_ (F.args_tuple_iterator_next_1 _)))
 show wpAny _ A.in1 (field (.ref it) 0 >>= _) _ _ s
 refine wpAny_bind (wpAny_field hi di (x := .ref t) rfl ?_)
 show wpAny _ A.in1 (if (Value.ref t == Value.none) = true then _ else _) _ _ s
 rw [if_neg (show ¬ (Value.ref t == Value.none) = true from Bool.false_ne_true)]
 show wpAny _ A.in1 (field (.ref it) 1 >>= _) _ _ s
 refine wpAny_bind (wpAny_field hi di (x := .int i 0) rfl ?_)
 show wpAny _ A.in1 (seqItems? (.ref t) >>= _) _ _ s
 refine wpAny_bind (wpAny_seqItems hot dt ?_); simp only [Int.toNat_natCast, hx]
 refine wpAny_bind (wpAny_rule (wpAny_bind (wpAny_setField hi di (by simp) ?_)))
 show wpAny _ A.in1 (newExc (.type "StopIteration") [] >>= _) _ _ _
 refine wpAny_bind ?_; simp only [newExc, newTuple]
 refine wpAny_bind (wpAny_newObj_type ?_ (by size_fits)); refine wpAny_bind (m := firstArgMember _ _) (wpAny_of_eq (a := Value.none) (by first | rfl | (simp only [firstArgMember]; rfl)) ?_)
 refine wpAny_newObj_type ?_ (by size_fits); simp only [raiseNew]
 refine wpAny_bind (wpAny_handled ?_); rw [show A.in1.handled = none from hh]
 exact wpAny_bind (wpAny_pure (wpAny_throw (hE _ _ (((Heap.SameBut.update ..).extBut.push _).push _) ⟨_, Heap.get?_push_size _ rfl, rfl⟩)))
end
theorem J3i {prog : Program} {w : World} {A : Around} (hh : A.handled = none) (it l : Addr) (hne : l ≠ it) (items : Array Value) :
  Draws prog w A it [it, l] items.size (fun i v => items[i]? = some v) (fun i h => h.IsTupleIter it l i /\ h.IsTuple l items) where
 live := fun _ _ st => let ⟨o, ho, _⟩ := st.1; ⟨o, ho⟩
 frame := fun _ _ _ st hk => ⟨st.1.at fun o e => hk it (by simp) o e, let ⟨o, e, r⟩ := st.2; ⟨o, hk l (by simp) o e, r⟩⟩
 item := fun i s Q E hi st hQ => Jto st.1 st.2 (x := items[i]) (by simp [hi]) fun h' hit' hs' => hQ _ h' s.toks (by simp [hi]) ⟨hit', st.2.extBut hs'.extBut hne⟩ hs'
 done := fun s Q E st hE => Jpk hh st.1 st.2 (by simp) hE
theorem J4l {prog : Program} {w : World} {A : Around} (hh : A.handled = none) (it l : Addr) (i : Nat) (items : Array Value) (hx : items[i]? = none) :
  Draws prog w A it [it, l] i (fun _ _ => True) (fun j h => j = i /\ h.IsTupleIter it l i /\ h.IsTuple l items) where
 live := fun _ _ st => let ⟨o, ho, _⟩ := st.2.1; ⟨o, ho⟩
 frame := fun _ _ _ st hk => ⟨st.1, st.2.1.at fun o e => hk it (by simp) o e, let ⟨o, e, r⟩ := st.2.2; ⟨o, hk l (by simp) o e, r⟩⟩
 item := fun j s Q E hi st hQ => by have := st.1; omega
 done := fun s Q E st hE => Jpk hh st.2.1 st.2.2 hx hE
open AutoSeq1 (wpAny_loadPart') in
theorem Jxe (l : Addr) (items : Array Value) (n : Nat) (dct : Option Addr) (sl : Array (Option Value)) :
  Meets (Builtin.«enumerate.__new__» ⟨[.type "enumerate", .ref l], []⟩) (fun _ R s => s.heap.get? l = some { cls := .type "tuple", dict := dct, data := .seq items n, slots := sl } /\
   R (.ok (.ret (.ref (s.heap.push { cls := .type "tuple_iterator", data := .fields #[.ref l, .int 0 0] }).objs.size)))
    { s with heap := (s.heap.push { cls := .type "tuple_iterator", data := .fields #[.ref l, .int 0 0] }).push { cls := .type "enumerate", data := .fields #[.none, .bool false, .ref s.heap.objs.size, rawInt 0, .none, .none] } }) :=
 .of_wp fun prog w A R s h => by
  obtain ⟨hp, g, d, tk, os⟩ := s; obtain ⟨hl, h⟩ := h
  have hsub := sub_enumerate; have hT : Heap.IsTuple (Shared.heap ⟨hp, g, d, tk, os⟩) l items := ⟨_, hl, rfl, n, rfl⟩
  wp_walk using wpAny_loadPart' hl
  refine wpAny_stack_any fun st => wpAny_pure ?_
  split
  ·rename_i c _ _ _ _ _
   cases (c == Value.type "enumerate") <;> (wp_walk using wpAny_loadPart' hl, wpAny_pyIter_tuple hT; exact ⟨_, rfl, h⟩)
  ·wp_walk using wpAny_loadPart' hl, wpAny_pyIter_tuple hT
   exact ⟨_, rfl, h⟩
section
variable {prog : Program} {w : World} {A : Around} {E : Value -> Shared -> Prop} {s : Shared}
theorem Juc {l : Addr} {items : Array Value} {Q : Value -> Shared -> Prop} (hT : s.heap.IsTuple l items)
  (h : ∀ h', IsEnum h' (s.heap.objs.size + 1) s.heap.objs.size 0 .none -> h'.IsTupleIter s.heap.objs.size l 0 -> (∀ b o, s.heap.get? b = some o -> h'.get? b = some o) -> Q (.ref (s.heap.objs.size + 1)) { s with heap := h' }) :
  wpAny (model prog w) A (call (.type "enumerate") [.ref l]) Q E s := by
 obtain ⟨⟨c, dct, dt, sl⟩, hl, hc, n, hd⟩ := hT
 cases (show c = .type "tuple" from hc)
 cases (show dt = .seq items n from hd)
 refine callType_new F.called_enumerate (by decide) (F.typeCall_enumerate_1 _) (F.newCall_enumerate_1 _) (fun obj => F.args_object_init_2 obj _) F.entry_enumerate_new (Jxe l items n dct sl) ⟨hl, ?_⟩
 have hz : (s.heap.push { cls := .type "tuple_iterator", data := .fields #[.ref l, .int 0 0] }).objs.size = s.heap.objs.size + 1 := Heap.size_push ..
 show _ /\ _
 rw [hz]
 have he : IsEnum ((s.heap.push { cls := .type "tuple_iterator", data := .fields #[.ref l, .int 0 0] }).push { cls := .type "enumerate", data := .fields #[.none, .bool false, .ref s.heap.objs.size, rawInt 0, .none, .none] }) (s.heap.objs.size + 1) s.heap.objs.size 0 .none := by
  have := Heap.get?_push_size (s.heap.push { cls := .type "tuple_iterator", data := .fields #[.ref l, .int 0 0] }) (o := { cls := .type "enumerate", data := .fields #[.none, .bool false, .ref s.heap.objs.size, rawInt 0, .none, .none] }) rfl
  rw [hz] at this
  exact this
 exact ⟨⟨_, he, rfl⟩, h _ he ⟨_, Heap.get?_push_of_some _ (Heap.get?_push_size _ rfl), rfl, rfl⟩ fun b o x => Heap.get?_push_of_some _ (Heap.get?_push_of_some _ x)⟩
end
section
variable {ce : Str -> Option Addr} {X : Cx}
noncomputable def IteT (K : W.Frag) (a : Addr) : It :=
 ⟨fun i H => ∃ xs x, SqT K H a xs /\ xs[i]? = some x, fun i H y H' => ∃ p x, H p = none /\ y = .ref p /\ H' = upd H p (.tup [.int (i : Int), x]) /\ ∀ xs, SqT K H a xs -> xs[i]? = some x, fun i H => ∃ xs, SqT K H a xs /\ xs.length <= i⟩
theorem Jur {P : Program} {w : World} {K : W.Frag} {es : List Expr} {k : Nat} {p : Pos} (a it e : Addr) (hne : e ≠ it) : Turn P w K (.Tuple es k p) (IteT K a) [e, it] e (fun i h => (∃ old, IsEnum h e it (i : Int) old) /\ h.IsTupleIter it a i) where
 mem := by simp
 obj := fun i h st b hb => by
  obtain ⟨⟨old, he⟩, o, e1, c, d⟩ := st
  simp only [List.mem_cons, List.not_mem_nil, or_false] at hb
  rcases hb with rfl | rfl
  ·exact ⟨_, he, fun v z => by
    have z' : Data.fields _ = Data.cell v := z
    cases z'⟩
  ·exact ⟨o, e1, fun v z => by rw [d] at z; cases z⟩
 keep := fun i h h' st k => ⟨let ⟨old, he⟩ := st.1; ⟨old, k e (by simp) _ he⟩, st.2.at fun o e => k it (by simp) o e⟩
 item := by
  intro X hP hw hK hc i pins s σ H E I hf st hg
  subst hP hw hK
  obtain ⟨⟨old, he⟩, hit⟩ := st
  obtain ⟨xs, x, hq, hx⟩ := hg
  obtain ⟨its, rv, pl, hz⟩ := I.tuple hq
  have pt : s.heap.IsTuple a its.toArray := pl
  obtain ⟨u, hu, ru⟩ := rv.get hx
  have fe := hf e (by simp)
  have fi := hf it (by simp)
  have hn : H s.heap.objs.size = none := I.hok.fresh (Nat.le_refl _)
  obtain ⟨oe, hoe⟩ : ∃ o, s.heap.get? e = some o := ⟨_, he⟩
  obtain ⟨oi, hoi, ci, di⟩ := id hit
  have nea : a ≠ it := fun z => by
   obtain ⟨oa, ha, ca, _⟩ := pt
   rw [z, hoi] at ha; cases ha
   rw [ci] at ca
   injection ca with z1
   exact absurd z1 (by decide)
  have nee : e ∉ [it, a] := fun z => by
   simp only [List.mem_cons, List.not_mem_nil, or_false] at z
   rcases z with z | z
   ·exact hne z
   ·obtain ⟨oa, ha, ca, _⟩ := pt
    have he' : s.heap.get? e = some _ := he
    rw [<- z, he'] at ha; cases ha
    injection ca with z1
    exact absurd z1 (by decide)
  have lti : i < its.toArray.size := by have := (List.getElem?_eq_some_iff.mp hu).1; simpa using this
  refine wpAny_pyNext_enum_itemD (J3i (A := X.A.in1) (I.ok.hd hc) it a nea its.toArray) he ⟨hit, pt⟩ lti hne nee fun y h' tk hy he' st' ht hsz kk => ?_
  have ey : y = u := by
   have h2 : its[i]? = some y := by simpa using hy
   rw [hu] at h2; cases h2; rfl
  subst ey
  have hit' := st'.1
  refine ⟨_, rfl, wpAny_letOwnedTupleGo_enum he' fun h2 he2 sb => ?_⟩
  have ltE : e < s.heap.objs.size := Heap.lt_size he
  have neT : s.heap.objs.size ≠ e := Nat.ne_of_gt ltE
  have k2 : ∀ b o, b ≠ e -> b ≠ it -> s.heap.get? b = some o -> h2.get? b = some o := fun b o h1 h3 q => (sb.2 b h1).trans (kk b o h1 h3 q)
  have hl2 : h2.IsTupleIter it a (i + 1) := by
   obtain ⟨o, q, r⟩ := hit'
   exact ⟨o, (sb.2 it (Ne.symm hne)).trans q, r⟩
  have t2 : h2.get? s.heap.objs.size = some { cls := .type "tuple", data := .seq #[.int i tk, y] } := (sb.2 _ neT).trans ht
  have neP : ∀ b u, H b = some u -> b ≠ s.heap.objs.size := fun b u q => Jaq q hn
  have I1 : Inv X pins σ (upd H s.heap.objs.size (.tup [.int (i : Int), x])) { s with heap := h2, toks := tk + 1 } := by
   refine I.step (g' := s.gens) (d' := s.drawn) (ch := [e, it]) (fun b hb => ?_) (fun b o _ _ hc q _ => k2 b o (fun z => hc (by simp [z])) (fun z => hc (by simp [z])) q) (fun b o _ _ hc q _ => ⟨o.slots, k2 b o (fun z => hc (by simp [z])) (fun z => hc (by simp [z])) q⟩) (fun b o _ q n => ?_)
    (fun b o hc q => ⟨o, k2 b o (fun z => hc (by simp [z])) (fun z => hc (by simp [z])) q⟩) (fun b xs q => by rw [Jp (neP b _ q)]; exact q) (fun b o u q => by rw [Jp (neP b _ q)]; exact q) (fun b ps q => ⟨#[], by rw [Jp (neP b _ q), q]; simp⟩) (fun m hm => ?_) (fun b u q => ?_) I.bare
   ·simp only [List.mem_cons, List.not_mem_nil, or_false] at hb
    rcases hb with rfl | rfl
    ·exact ⟨fe.2.2.2.1, fe.2.1, fe.2.2.2.2.1, fe.2.2.2.2.2⟩
    ·exact ⟨fi.2.2.2.1, fi.2.1, fi.2.2.2.2.1, fi.2.2.2.2.2⟩
   ·rw [Jp (Nat.ne_of_lt (Heap.lt_size q))]; exact n
   ·obtain ⟨o, es, ep, ho, r⟩ := hm
    exact ⟨o, es, ep, k2 _ o (Ne.symm fe.2.1) (Ne.symm fi.2.1) ho, r⟩
   ·by_cases hb : b = s.heap.objs.size
    ·subst hb
     rw [Jk] at q
     cases q
     exact ⟨by show 2 <= sizeLine; decide, [.int i tk, y], .cons ⟨_, rfl⟩ (.cons ru .nil), ⟨_, t2, rfl, _, rfl⟩⟩
    ·rw [Jp hb] at q
     have n1 : b ≠ e := fun z => by rw [z, fe.1] at q; cases q
     have n2 : b ≠ it := fun z => by rw [z, fi.1] at q; cases q
     refine (I.hok b u q).stay (fun c v hc r => k2 c v ?_ ?_ r) (fun c q => by rw [Jp (neP c _ q)]; exact q) fun c ys q => by rw [Jp (neP c _ q)]; exact q
     ·rcases hc with z | z
      ·rw [z]; exact n1
      ·intro y; rw [y, fe.1] at z; cases z
     ·rcases hc with z | z
      ·rw [z]; exact n2
      ·intro y; rw [y, fi.1] at z; cases z
  refine ⟨.ref s.heap.objs.size, _, I1, rfl, ⟨s.heap.objs.size, x, hn, rfl, rfl, fun ys hy => by rw [I.tuple_inj hy hq]; exact hx⟩, ⟨⟨_, he2⟩, hl2⟩, fun b hb => ?_⟩
  simp only [List.mem_cons, List.not_mem_nil, or_false] at hb
  rcases hb with rfl | rfl
  ·rw [Jp (Nat.ne_of_lt ltE)]; exact fe.1
  ·rw [Jp (Nat.ne_of_lt (Heap.lt_size hoi))]; exact fi.1
 done := by
  intro X hP hw hK hc i pins s σ H E I hf st hg
  subst hP hw hK
  obtain ⟨⟨old, he⟩, hit⟩ := st
  obtain ⟨xs, hq, hx⟩ := hg
  obtain ⟨its, rv, p, hz⟩ := I.tuple hq
  obtain ⟨f0, f1, f2, f3, f4, f5⟩ := hf it (by simp)
  have hl := rv.length
  have pt : s.heap.IsTuple a its.toArray := p
  exact wpAny_pyNext_enum_endD (J4l (A := X.A.in1) (I.ok.hd hc) it a i its.toArray (by simp; omega)) he ⟨rfl, hit, pt⟩ fun h' eb => ⟨rfl, I.turned (t' := s.toks) (fun b o hb e => eb b o hb e) f0 f1 f3 f4 f5⟩
 self := fun _ _ _ _ _ st h => let ⟨_, he⟩ := st.1; wpAny_pyIter_enum he h
noncomputable def Jfi : List IV -> IH -> Res ItI
 | [.tup xs], h => .ok ⟨Jgy 0 xs, fun _ => True⟩ h
 | vs, h => Jis vs h
theorem J0w {a : Addr} {xs : List IV} {vs : List V} {ι : List Addr} {H₀ : Hp} (ha : SqT X.K H₀ a vs) (r : RVs X.K ι H₀ xs vs) : ItOk ce X.K ι H₀ (IteT X.K a) ⟨Jgy 0 xs, fun _ => True⟩ := by
 refine ⟨fun k v h H ι' hp R hck hx => ?_, fun k h H ι' hp R hck hx => ?_⟩
 ·have hx' : (Jgy 0 xs)[k]? = some v := hx
  rw [Jii] at hx'
  obtain ⟨x, hxk, rfl⟩ := Option.map_eq_some_iff.mp hx'
  have r1 := RVs.mono hp _ _ r
  have sa := hp.ext.sqT ha
  obtain ⟨u, hu, qu⟩ := r1.get hxk
  refine ⟨⟨vs, u, sa, hu⟩, fun y H' hy => ?_⟩
  obtain ⟨p, x', hp0, rfl, rfl, hy⟩ := hy
  have := hy vs sa
  rw [hu] at this
  cases this
  obtain ⟨R', n'⟩ := R.grow (o := .tup [.int (k : Int), u]) hp0
  refine ⟨R', n', p, _, rfl, SqT.of Jk, ⟨_, _, rfl, ?_, _, _, rfl, RV.mono n' _ _ qu, rfl⟩⟩
  show V.int (k : Int) = V.int ((0 + k : Nat) : Int)
  simp
 ·exact ⟨vs, hp.ext.sqT ha, by rw [r.length, <- Jdt xs 0]; exact hx⟩
theorem J1w {es : List Expr} {kt : Nat} {pt : Pos} {a : Expr} {ma : A1} {p pos : Pos} (hg : Gl X "enumerate") (hm : X.mg "enumerate" = none) (ha : PAi ce X [a] ma) (hs : starEach [a] X.env = [(false, eval a X.env)] := by rfl) : PIi ce X (.Tuple es kt pt) (.Call (.Name "enumerate" p) [a] [] pos) (iRg Jfi ma) := by
 intro pins s σ H ι σi h Q E N K
 by_cases ht : ∃ xs h', ma σi h = .ok [.tup xs] h'
 ·obtain ⟨xs, h', e0⟩ := ht
  refine Call_ (Jde N.inv hg hm boot_enumerate (PyProof.Rows.callWith_type1 ?_ hs rfl))
  refine ha pos pins s σ H ι σi h _ E N ?_
  unfold iRg at K
  rw [e0] at K ⊢
  intro us s1 H1 ι1 N1 n1 r1
  obtain ⟨ws, rv, qs⟩ := r1
  obtain ⟨w, e1, q⟩ := qs.one_of
  subst e1
  obtain ⟨b, vs, rfl, sb, rb⟩ := q
  obtain ⟨u, rfl, ru⟩ := Jiz rv
  cases ru
  obtain ⟨its, rv2, pl, hz⟩ := N1.inv.tuple sb
  refine Juc (show s1.heap.IsTuple b its.toArray from pl) fun h2 he hit kp => ?_
  refine wpAny_pyIter_enum he (K _ _ H1 ι1 ⟨N1.inv.kept (t' := s1.toks) kp, N1.rel, N1.st⟩ n1 ?_)
  refine ⟨s1.heap.objs.size + 1, [s1.heap.objs.size + 1, s1.heap.objs.size], _, IteT X.K b, rfl, Jur b s1.heap.objs.size (s1.heap.objs.size + 1) (Nat.ne_of_gt (Nat.lt_succ_self _)), ⟨⟨_, he⟩, hit⟩, fun c hc => ?_, J0w sb rb⟩
  simp only [List.mem_cons, List.not_mem_nil, or_false] at hc
  rcases hc with rfl | rfl
  ·exact N1.inv.fpOk (Nat.le_succ _) (N1.inv.hok.fresh (Nat.le_succ _))
  ·exact N1.inv.fpOk (Nat.le_refl _) (N1.inv.hok.fresh (Nat.le_refl _))
 ·refine J30 (es := es) (kt := kt) (pt := pt) hg hm ha hs pins s σ H ι σi h Q E N ?_
  have e : iRg Jis ma σi h = iRg Jfi ma σi h := by
   unfold iRg
   cases e0 : ma σi h with
   | ok vs h' =>
    show Jis vs h' = Jfi vs h'
    unfold Jfi
    split
    ·exact absurd ⟨_, _, e0⟩ ht
    ·rfl
   | _ => rfl
  rw [e]
  exact K
end
end L3
namespace L3
open PySem PySem.Spec PyProof.Rows L2
noncomputable def Jmx (a : Arguments) : Option Str := match a with
 | { posonlyargs := [], args := [p], vararg := none, kwonlyargs := [], kw_defaults := [], kwarg := none, defaults := [] } => some p.arg
 | _ => none
noncomputable abbrev lamQ (q : Str) : Str := q ++ ".<locals>." ++ "<lambda>"
noncomputable abbrev lamO (q : Str) (params : Arguments) (body : Expr) (scope : Scope) (cl : List (Str × Addr)) (pm ctv : Value) (c : Addr) : Obj := W.kla_obj "<lambda>" (lamQ q) params body scope cl pm c ctv
noncomputable def Jlu (mg : Str -> Option Value) (base : Heap) : Prop :=
 ∃ bm ob, mg "__builtins__" = some (.ref bm) /\ bm ≠ builtinsNs /\ bm ≠ mainGlobals /\ base.get? bm = some ob /\ ob.cls = .type "module" /\ ob.dict = some builtinsNs /\ ob.data = .plain
theorem Jdq.rec {H : Hp} {q : Str} {cv : Value} {P : Program} {w : World} {h : Heap} (l : Jdq H q cv) (hok : HOk P w H h) : h.CodeRec cv (lamQ q) := by
 obtain ⟨c, oc, vs, t, e1, e2, e3, e4⟩ := l
 exact ⟨c, oc, vs, t, e1, (hok c _ e2).1, e3, e4⟩
theorem Jdq.mono {H H' : Hp} {q : Str} {cv : Value} (fz : ∀ b o u, H b = some (.frz o u) -> H' b = some (.frz o u)) (l : Jdq H q cv) : Jdq H' q cv := by
 obtain ⟨c, oc, vs, t, e1, e2, r⟩ := l
 exact ⟨c, oc, vs, t, e1, fz _ _ _ e2, r⟩
theorem Jnb {pos : Pos} {a b : Int} {c cv : Value} : ∀ (l : List Value), TriplesOk l -> codeAmong pos (l ++ [rawInt a, rawInt b, c]) = some cv -> codeAmong pos l = some cv ∨ cv = c
 | [], _, e => by
  simp only [List.nil_append, rawInt, codeAmong] at e
  split at e
  ·cases e; exact .inr rfl
  ·cases e
 | .int x t :: .int y u :: z :: rest, h, e => by
  simp only [List.cons_append, codeAmong] at e ⊢
  split at e
  ·rename_i hh
   rw [if_pos hh]
   exact .inl e
  ·rename_i hh
   rw [if_neg hh]
   exact Jnb rest h e
 | [.int _ _], h, _ => (show False from h).elim
 | [.int _ _, .int _ _], h, _ => (show False from h).elim
section
variable {ce : Str -> Option Addr} {X : Cx}
theorem Now.pinO {pins : List (Addr × Obj)} {ι : List Addr} {σi : ISt} {h : IH} {σ : L2.St} {H : Hp} {s : Shared} {f : Addr} {fo : Obj} (N : Now ce X pins ι σi h σ H s) (e : s.heap.get? f = some fo) (F : FpOk X pins H f) (d : ∀ v, fo.data ≠ .cell v) : Now ce X (pins ++ [(f, fo)]) ι σi h σ H s := by
 have I := N.inv.pinned (fp := [f]) (fun b hb => by rw [List.mem_singleton.mp hb]; exact F) (fun b hb => by rw [List.mem_singleton.mp hb]; exact ⟨fo, e, d⟩)
 have ep : Jgb [f] s.heap = [(f, fo)] := by simp [Jgb, e]
 rw [ep] at I
 exact ⟨I, N.rel, N.st⟩
theorem Jze {q : Str} {j : Nat} {params : Arguments} {body : Expr} {scope : Scope} {pos : Pos} {cl : List (Str × Addr)} {pins : List (Addr × Obj)} {s : Shared} {σ : L2.St} {H : Hp} {ι : List Addr} {σi : ISt} {h : IH} {Q : Value -> Shared -> Prop} {E : Value -> Shared -> Prop}
  (N : Now ce X pins ι σi h σ H s) (hj : h[j]? = some (.tab q)) (hcd : W.codeIn X.K X.env.code q = true) (hq : X.env.qual = q ++ ".<locals>.") (hdef : defaultsOf params X.env = ([], [])) (hcl : closureFor scope X.env = pure cl) (B : Jlu X.mg X.base)
  (K : ∀ f c pm ctv s' H', Now ce X (pins ++ [(f, lamO q params body scope cl pm ctv c)]) ι σi h σ H' s' -> Nxt ι H ι H' -> Jdq H' q (.ref c) -> Q (.ref f) s') :
  wpAny (model X.prog X.w) X.A (eval (.Lambda params body scope pos) X.env) Q E s := by
 obtain ⟨a, ha, hc, ps, hP, ht, hcodes⟩ := N.rel.at_ j _ hj
 obtain ⟨c, ec, hhd⟩ := hc _ hcd
 have I := N.inv
 have C := W.codeHd_of_K I.kIn hhd
 have gP : s.heap.get? a = some (W.tabObj ps) := I.hok a _ hP
 have hg : s.heap.Ns mainGlobals X.mg := I.ok.mod.glob.keeps I.bk
 obtain ⟨bm, ob, b1, b2, b3, b4, b5, b6, b7⟩ := B
 have gb := I.bs bm ob b4
 have nba : bm ≠ a := fun z => by rw [z, hP] at gb; cases gb.2
 have hb : s.heap.BuiltinsAt X.mg a := ⟨bm, ob, b1, b2, b3, nba, gb.1, b5, b6, b7⟩
 have nga : mainGlobals ≠ a := fun z => by
  obtain ⟨o, es, ep, e, d, _⟩ := hg
  rw [z, gP] at e
  cases e
  cases d
 refine W.kla_eval hdef ?_
 rw [hq]
 cases ea : codeAmong pos ps.toList with
 | some cv =>
  have LC := hcodes pos cv ea
  obtain ⟨c', oc, vs, t, ecv, _⟩ := id LC
  subst ecv
  refine W.kla_makeFunctionHit hcl I.ok.glob hg ec C gP ht ea hb fun ctv h' tk hk hsz => ?_
  have I1 := I.kept (h' := h'.push (lamO q params body scope cl ((X.mg "__name__").getD .none) ctv c')) (t' := tk) fun b o e => Heap.get?_push_of_some _ (hk b o e)
  have N1 : Now ce X pins ι σi h σ H _ := ⟨I1, N.rel, N.st⟩
  exact K h'.objs.size c' _ ctv _ H (N1.pinO (Heap.get?_push_size _ rfl) (I.fpOk hsz (I.hok.fresh hsz)) fun v z => by
   have z' : Data.func _ = Data.cell v := z
   cases z') .refl LC
 | none =>
  refine W.kla_makeFunction hcl I.ok.glob hg ec C gP ht ea nga hb fun c' ctv h' tk hx hge hlt hrec htb => ?_
  obtain ⟨c2, oc, vs, t, e2, hoc, hd, hv⟩ := hrec
  cases e2
  generalize hps : ps ++ #[rawInt pos.line, rawInt pos.col, .ref c'] = ps' at htb
  generalize hob : lamO q params body scope cl ((X.mg "__name__").getD .none) ctv c' = fo
  have fc : H c' = none := I.hok.fresh hge
  have nca : c' ≠ a := fun z => by rw [z, hP] at fc; cases fc
  have lts : s.heap.objs.size <= h'.objs.size := Nat.le_trans hge (Nat.le_of_lt hlt)
  obtain ⟨H', hH⟩ : ∃ H', H' = upd (upd H a (.tbl ps')) c' (.frz oc (.own 0)) := ⟨_, rfl⟩
  have Ha : H' a = some (.tbl ps') := by rw [hH, Jp (Ne.symm nca), Jk]
  have Hc : H' c' = some (.frz oc (.own 0)) := by rw [hH, Jk]
  have Ho : ∀ b, b ≠ a -> b ≠ c' -> H' b = H b := fun b h1 h2 => by rw [hH, Jp h2, Jp h1]
  have kp : ∀ b o, b ≠ a -> s.heap.get? b = some o -> (h'.push fo).get? b = some o := fun b o hb e => Heap.get?_push_of_some _ (hx b o hb e)
  have ga : (h'.push fo).get? a = some (W.tabObj ps') := Heap.get?_push_of_some _ htb
  have frz : ∀ b o u, H b = some (.frz o u) -> H' b = some (.frz o u) := fun b o u e => by rw [Ho b (fun z => by rw [z, hP] at e; cases e) (fun z => by rw [z, fc] at e; cases e)]; exact e
  have tup : ∀ b xs, H b = some (.tup xs) -> H' b = some (.tup xs) := fun b xs e => by rw [Ho b (fun z => by rw [z, hP] at e; cases e) (fun z => by rw [z, fc] at e; cases e)]; exact e
  have own : ∀ b x, H b = some (.own x) -> H' b = some (.own x) := fun b x e => by rw [Ho b (fun z => by rw [z, hP] at e; cases e) (fun z => by rw [z, fc] at e; cases e)]; exact e
  have I1 : Inv X pins σ H' { s with heap := h'.push fo, toks := tk } := by
   refine I.step (g' := s.gens) (d' := s.drawn) (ch := []) (fun b hb => absurd hb (by simp)) (fun b o _ _ _ e n => kp b o (fun z => by rw [z, hP] at n; cases n) e) (fun b o _ _ _ e n => ⟨o.slots, kp b o (fun z => by rw [z, hP] at n; cases n) e⟩) (fun b o _ e n => ?_) (fun b o _ e => ?_) tup frz (fun b qs e => ?_) (fun m hm => ?_) (fun b u e => ?_) I.bare
   ·rw [Ho b (fun z => by rw [z, hP] at n; cases n) (Nat.ne_of_lt (Nat.lt_of_lt_of_le (Heap.lt_size e) hge))]; exact n
   ·by_cases hb : b = a
    ·subst hb; exact ⟨_, ga⟩
    ·exact ⟨o, kp b o hb e⟩
   ·by_cases hb : b = a
    ·subst hb
     rw [hP] at e
     cases e
     exact ⟨_, by rw [Ha, <- hps]⟩
    ·exact ⟨#[], by rw [Ho b hb (fun z => by rw [z, fc] at e; cases e), e]; simp⟩
   ·obtain ⟨o, es, ep, ho, r⟩ := hm
    exact ⟨o, es, ep, kp _ o (fun z => by have := I.free; rw [z, hP] at this; cases this) ho, r⟩
   ·by_cases hb : b = a
    ·subst hb
     rw [Ha] at e
     cases e
     exact ga
    ·by_cases hb2 : b = c'
     ·subst hb2
      rw [Hc] at e
      cases e
      exact ⟨Heap.get?_push_of_some _ hoc, _, Heap.get?_push_of_some _ hoc⟩
     ·rw [Ho b hb hb2] at e
      refine (I.hok b u e).stay (fun d v hd r => kp d v (fun z => ?_) r) (fun d z => own d _ z) tup
      subst z
      rcases hd with z | z
      ·exact hb z.symm
      ·rw [hP] at z; cases z
  have n : Nxt ι H ι H' := ⟨⟨[], by simp⟩, ⟨tup, frz⟩⟩
  have LC : Jdq H' q (.ref c') := ⟨c', oc, vs, t, rfl, Hc, hd, hv⟩
  have R : Rel ce X.K ι h H' := by
   refine ⟨N.rel.len, N.rel.nd, fun i o e => ?_⟩
   obtain ⟨b, eb, ro⟩ := N.rel.at_ i o e
   refine ⟨b, eb, ?_⟩
   by_cases hb : b = a
   ·subst hb
    have hij : i = j := N.rel.inj eb ha
    subst hij
    rw [hj] at e
    cases e
    refine ⟨hc, ps', Ha, ?_, fun pos' cv ea' => ?_⟩
    ·rw [<- hps, Array.toList_append]
     exact TriplesOk_snoc _ _ _ _ ht
    ·rw [<- hps, Array.toList_append] at ea'
     rcases Jnb ps.toList ht ea' with z | z
     ·exact (hcodes pos' cv z).mono frz
     ·rw [z]; exact LC
   ·refine ro.mono n fun u hu => ?_
    rw [Ho b hb (fun z => by rw [z, fc] at hu; cases hu)]
    exact hu
  have N1 : Now ce X pins ι σi h σ H' _ := ⟨I1, R, N.st.mono n⟩
  subst hob
  exact K h'.objs.size c' _ ctv _ H' (N1.pinO (Heap.get?_push_size _ rfl) (I.fpOk lts (by rw [Ho _ (Nat.ne_of_gt (Nat.lt_of_lt_of_le (Heap.lt_size gP) lts)) (Nat.ne_of_gt hlt)]; exact I.hok.fresh lts)) fun v z => by
   have z' : Data.func _ = Data.cell v := z
   cases z') n LC
end
end L3
namespace L3
open PySem PySem.Spec PyProof.Rows L2
noncomputable abbrev envL (q : Str) (scope : Scope) (L f : Addr) (cd : Value) (cl : List (Str × Addr)) : Env := newEnv scope L mainGlobals cl (lamQ q ++ ".<locals>.") (some f) cd none builtinsNs
noncomputable def cxL (X : Cx) (A : Around) (N' : List Str) (q : Str) (scope : Scope) (f : Addr) (cd : Value) (s : Shared) (H : Hp) : Cx :=
 { X with A := A.deeper (envL q scope s.heap.objs.size f cd (clOf X.env.cells scope.names [])), N := N', s₀ := s, H₀ := H, env := envL q scope s.heap.objs.size f cd (clOf X.env.cells scope.names []), outer := X.stack, stack := envL q scope s.heap.objs.size f cd (clOf X.env.cells scope.names []) :: X.stack, ex := [], calm := true, fn := fun _ => false, pn := [], xe := fun _ _ => False }
structure LamSc (N0 : List Str) (sc₀ : List (Str × NameKind)) (x : Str) (caps : List Str) (js : List Nat) (scope : Scope) : Prop where
 kind : scope.kind = .function
 co : scope.isCoroutine = false
 gen : scope.isGenerator = false
 nocell : ∀ y ∈ scope.names, y.2 ≠ .cell
 par : scope.names.lookup x = some .local
 free : ∀ y ∈ scope.names, y.2 = .free -> sc₀.lookup y.1 = some .cell
 fr : ∀ y, scope.names.lookup y = some .free -> (y, .free) ∈ scope.names
 cap : ∀ (k j : Nat) (y : Str), js[k]? = some j -> caps[k]? = some y -> N0[j]? = some y /\ scope.names.lookup y = some .free
 len : js.length = caps.length
 nd : (x :: caps).Nodup
theorem Jx3 {p : Arg} {nm qu : Str} {body : Expr} {scope : Scope} {cl : List (Str × Addr)} {pm cd ctv u : Value} : bindArgs (W.kla_fn nm qu { posonlyargs := [], args := [p], vararg := none, kwonlyargs := [], kw_defaults := [], kwarg := none, defaults := [] } body scope cl pm cd ctv) ⟨[u], []⟩ = pure [(p.arg, u)] := by
 have e : (List.lookup p.arg [(p.arg, u)]).isNone = false := by simp
 unfold bindArgs
 simp [seqItems?, e]
 rfl
section
variable {ce : Str -> Option Addr} {X : Cx}
theorem J1k {k : Nat} {A : Around} {q x : Str} {caps : List Str} {js : List Nat} {params : Arguments} {body : Expr} {scope : Scope} {pm ctv : Value} {c f : Addr} {m : E1} {v : IV} {u : Value} {pins : List (Addr × Obj)} {s : Shared} {σ : L2.St} {H : Hp} {ι : List Addr} {σi : ISt} {h : IH} {Q : Value -> Shared -> Prop} {E : Value -> Shared -> Prop}
  (hA : A.frames = some X.stack) (hr : Room (k + 1) A) (N : Now ce X pins ι σi h σ H s) (hf : s.heap.get? f = some (lamO q params body scope (clOf X.env.cells scope.names []) pm ctv c)) (LC : Jdq H q (.ref c)) (hx : Jmx params = some x) (S : LamSc X.N X.env.scope.names x caps js scope)
  (hb : ∀ s' H', PEi ce (cxL X A (x :: caps) q scope f (.ref c) s' H') body m) (ru : RU X.K ι H v u) (K : Kont ce X RU pins ι σi σ H ((m (some v :: js.map fun j => (σi[j]?).join) h).nx) Q E) :
  wpAny (model X.prog X.w) A (call (.ref f) [u]) Q E s := by
 have I := N.inv
 have e0 := I.env0
 have lim : s.heap.NoLimit := e0.mod.nolimit.keeps fun b o e => (e0.bs b o e).1
 refine wpAny_call (W.kla_callFunE hr.depth hf rfl S.co S.gen rfl (LC.rec I.hok) ?_)
 have hbind : bindArgs (W.kla_fn "<lambda>" (lamQ q) params body scope (clOf X.env.cells scope.names []) pm (.ref c) ctv) ⟨[u], []⟩ = pure [(x, u)] := by
  unfold Jmx at hx
  split at hx
  ·cases hx
   exact Jx3
  ·cases hx
 rw [hbind]
 refine wpAny_pure (wpAny_newFunctionEnv S.nocell (fun y hy => by rw [List.mem_singleton.mp hy]; exact S.par) (fun h3 hns hsb => ⟨lim.fresh _ hsb, ?_⟩) S.kind)
 obtain ⟨w, rw', qw⟩ := ru
 have keep : ∀ b o, s.heap.get? b = some o -> h3.get? b = some o := fun b o z => (hsb.2 b (Nat.ne_of_lt (Heap.lt_size z))).trans (Heap.get?_push_of_some _ z)
 have cells' : ∀ y d, (clOf X.env.cells scope.names []).lookup y = some d -> X.env.cells.lookup y = some d := Jnv _ _ (fun y d z => by simp at z)
 have okX : (cxL X A (x :: caps) q scope f (.ref c) s H).Ok := by
  have noA : ∀ b : Addr, b ∉ (cxL X A (x :: caps) q scope f (.ref c) s H).ex := fun b z => absurd (show b ∈ ([] : List Addr) from z) (by simp)
  refine ⟨I.ok.mod, S.kind, rfl, rfl, Nat.le_refl _, fun y y' d a b => I.ok.inj y y' d (cells' y d a) (cells' y' d b), fun y hy => ?_, fun y d z => absurd (show false = true from z) Bool.false_ne_true, fun _ => hr.hd, Around.frames_deeper hA, .inr ⟨rfl, rfl⟩, fun b z => absurd z (noA b), e0.bs, e0.bsz, fun b _ _ => noA b, fun b z => absurd z (noA b), e0.funs, e0.frf⟩
  have hy' : scope.names.lookup y = some .cell ∨ scope.names.lookup y = some .free := hy
  rcases hy' with z | z
  ·exact absurd rfl (S.nocell _ (PySem.mem_of_lookup z))
  ·have hm := PySem.mem_of_lookup z
   obtain ⟨d, hd⟩ := I.ok.has y (.inl (S.free (y, .free) hm rfl))
   exact Option.isSome_iff_exists.mp (Jht _ _ y d hm hd)
 have I3 : Inv (cxL X A (x :: caps) q scope f (.ref c) s H) [] (some w :: js.map fun j => (σ[j]?).join) H { s with heap := h3, toks := s.toks + [(x, u)].length } := by
  refine ⟨okX, rfl, I.bare, Un.kept keep, ⟨_, hns, fun i y z a b cc => ?_⟩, fun y d z => ?_, I.hok.fresh (Nat.le_refl _), fun y d z => I.freeC y d (cells' y d z), fun p hp => absurd (show p ∈ ([] : List (Addr × Obj)) from hp) (by simp), I.hok.kept keep, by show _ = (x :: caps).length; simp [S.len]⟩
  ·cases i with
   | zero =>
    have a' : some x = some y := a
    cases a'
    have b' : some (some w) = some (some z) := b
    cases b'
    exact ⟨u, rw', .inl ⟨S.par, by simp⟩⟩
   | succ i =>
    have a' : caps[i]? = some y := a
    have b' : (js.map fun j => (σ[j]?).join)[i]? = some (some z) := b
    rw [List.getElem?_map] at b'
    cases ej : js[i]? with
    | none => rw [ej] at b'; cases b'
    | some j =>
     rw [ej] at b'
     have b2 : (σ[j]?).join = some z := Option.some.inj b'
     have hσ : σ[j]? = some (some z) := by
      cases es : σ[j]? with
      | none => rw [es] at b2; cases b2
      | some o => rw [es] at b2; rw [show o = some z from b2]
     obtain ⟨hx1, hx2⟩ := S.cap i j y ej a'
     have hm := PySem.mem_of_lookup hx2
     have hk := S.free (y, .free) hm rfl
     obtain ⟨m0, hn, hl⟩ := I.loc
     obtain ⟨u', ru', lk⟩ := hl j y z hx1 hσ (.inr (.inl hk))
     rcases lk with ⟨e, _⟩ | ⟨e, d, hd, hcell⟩
     ·have hk' : X.env.scope.names.lookup y = some .cell := hk
      have e' : X.env.scope.names.lookup y = some .local := e
      rw [hk'] at e'
      cases e'
     ·obtain ⟨d', hd2⟩ := Option.isSome_iff_exists.mp (Jht (cells := X.env.cells) scope.names [] y d hm hd)
      have := cells' y d' hd2
      rw [hd] at this
      cases this
      obtain ⟨oc, hoc, hdd⟩ := hcell
      exact ⟨u', ru', .inr ⟨.inr hx2, d, hd2, oc, keep _ _ hoc, hdd⟩⟩
  ·obtain ⟨z', o, ho, hd⟩ := I.cell y d (cells' y d z)
   exact ⟨z', o, keep _ _ ho, hd⟩
 have N3 : Now ce (cxL X A (x :: caps) q scope f (.ref c) s H) [] ι (some v :: js.map fun j => (σi[j]?).join) h (some w :: js.map fun j => (σ[j]?).join) H { s with heap := h3, toks := s.toks + [(x, u)].length } := by
  refine ⟨I3, N.rel, by simp, fun i z a => ?_⟩
  cases i with
  | zero =>
   have a' : some (some v) = some (some z) := a
   cases a'
   exact ⟨w, rfl, qw⟩
  | succ i =>
   have a' : (js.map fun j => (σi[j]?).join)[i]? = some (some z) := a
   rw [List.getElem?_map] at a'
   cases ej : js[i]? with
   | none => rw [ej] at a'; cases a'
   | some j =>
    rw [ej] at a'
    have a2 : (σi[j]?).join = some z := Option.some.inj a'
    have hσ : σi[j]? = some (some z) := by
     cases es : σi[j]? with
     | none => rw [es] at a2; cases a2
     | some o => rw [es] at a2; rw [show o = some z from a2]
    obtain ⟨z', ez, qz⟩ := N.st.2 j z hσ
    refine ⟨z', ?_, qz⟩
    show (js.map fun j => (σ[j]?).join)[i]? = some (some z')
    rw [List.getElem?_map, ej]
    show some ((σ[j]?).join) = _
    rw [ez]
    rfl
 refine W.kla_codeExpr (wpAny_mono (hb s H [] _ _ H ι _ h (fun u' s' => Q u' s') (fun _ _ => False) N3 ?_) (fun _ _ z => z) fun _ _ z => z.elim)
 cases er : m (some v :: js.map fun j => (σi[j]?).join) h with
 | ok v' h' =>
  rw [er] at K
  intro u' s' H' ι' N' n' ⟨z, rz, qz⟩
  have J := N'.inv
  obtain ⟨_, _, I', rz', e1, e2⟩ := I.after (Q := fun z2 H2 => z2 = z /\ H2 = H') ⟨z, H', J.os, J.bare, J.base, J.hok, rz, rfl, rfl⟩
  subst e1
  subst e2
  exact K u' s' _ ι' ⟨I', N'.rel, N.st.mono n'⟩ n' ⟨_, rz', qz⟩
 | exc n h' => rw [er] at K; exact Zf K
 | stuck => rw [er] at K; exact Zf K
end
end L3
namespace L3
open PySem PySem.Spec PyProof.Rows L2
noncomputable def gtZ : IV -> IV -> Option Bool
 | .int a, .int b => some (decide (a > b))
 | _, _ => none
noncomputable def Jg9 (gt : IV -> IV -> Option Bool) (mk : IV -> IH -> Res IV) (i n : Nat) : Nat -> IV -> IV -> IH -> Res IV
 | 0, b, _, h => (match h[i]? with
  | some (.lst ys) => if ys.length = n then .ok b h else .stuck
  | _ => .stuck)
 | r + 1, b, kb, h => (match h[i]? with
  | some (.lst ys) => if ys.length = n then (match ys[n - (r + 1)]? with
    | some y => (mk y h).nx.bind fun k h' => (match gt k kb with
     | some true => Jg9 gt mk i n r y k h'
     | some false => Jg9 gt mk i n r b kb h'
     | none => .stuck)
    | none => .stuck) else .stuck
  | _ => .stuck)
noncomputable def Juj (gt : IV -> IV -> Option Bool) (mk : IV -> IH -> Res IV) (i : Nat) (d : IV) (h : IH) : Res IV := match h[i]? with
 | some (.lst ys) => (match ys[0]? with
  | some y => (mk y h).nx.bind fun k h' => Jg9 gt mk i ys.length (ys.length - 1) y k h'
  | none => .ok d h)
 | _ => .stuck
theorem FpOk.more {X : Cx} {pins : List (Addr × Obj)} {H : Hp} {b : Addr} {p : Addr × Obj} (F : FpOk X pins H b) (ne : p.1 ≠ b) : FpOk X (pins ++ [p]) H b := by
 refine ⟨F.1, F.2.1, F.2.2.1, F.2.2.2.1, F.2.2.2.2.1, fun q hq => ?_⟩
 rcases List.mem_append.mp hq with z | z
 ·exact F.2.2.2.2.2 q (List.mem_append_left _ z)
 ·rcases List.mem_append.mp z with z | z
  ·exact F.2.2.2.2.2 q (List.mem_append_right _ z)
  ·rw [List.mem_singleton.mp z]
   exact ne
theorem FpOk.at {X : Cx} {pins : List (Addr × Obj)} {H H' : Hp} {b : Addr} (F : FpOk X pins H b) (n : H' b = none) : FpOk X pins H' b := ⟨n, F.2⟩
theorem Jv9 {xs : List V} {us : List Value} {i : Nat} {u : Value} (r : Vals xs us) (e : us[i]? = some u) : ∃ x, xs[i]? = some x /\ RelV x u := by
 have hi := (List.getElem?_eq_some_iff.mp e).1
 have hl := r.length
 have hi2 : i < xs.length := by omega
 have hx : xs[i]? = some xs[i] := List.getElem?_eq_getElem hi2
 obtain ⟨u', e', q⟩ := r.get hx
 rw [e] at e'
 cases e'
 exact ⟨_, hx, q⟩
section
variable {ce : Str -> Option Addr} {X : Cx}
theorem Now.turned {pins : List (Addr × Obj)} {ι : List Addr} {σi : ISt} {h : IH} {σ : L2.St} {H : Hp} {s : Shared} {it : Addr} {h' : Heap} {t' : Nat} (N : Now ce X pins ι σi h σ H s) (F : FpOk X pins H it) (k : ∀ b o, b ≠ it -> s.heap.get? b = some o -> h'.get? b = some o) :
  Now ce X pins ι σi h σ H { s with heap := h', toks := t' } := ⟨N.inv.turned k F.1 F.2.1 F.2.2.2.1 F.2.2.2.2.1 F.2.2.2.2.2, N.rel, N.st⟩
theorem Now.keptH {pins : List (Addr × Obj)} {ι : List Addr} {σi : ISt} {h : IH} {σ : L2.St} {H : Hp} {s : Shared} {h' : Heap} {t' : Nat} (N : Now ce X pins ι σi h σ H s) (k : ∀ b o, s.heap.get? b = some o -> h'.get? b = some o) :
  Now ce X pins ι σi h σ H { s with heap := h', toks := t' } := ⟨N.inv.kept k, N.rel, N.st⟩
noncomputable def CmpK (ce : Str -> Option Addr) (X : Cx) (A : Around) (op : CmpOp) (gt : IV -> IV -> Option Bool) : Prop :=
 ∀ (pins : List (Addr × Obj)) (ι : List Addr) (σi : ISt) (h : IH) (σ : L2.St) (H : Hp) (s : Shared) (k kb : IV) (u ub : Value) (b : Bool) (Q : Value -> Shared -> Prop) (E : Value -> Shared -> Prop), Now ce X pins ι σi h σ H s -> RU X.K ι H k u -> RU X.K ι H kb ub -> gt k kb = some b ->
  (∀ h' t', (∀ a o, s.heap.get? a = some o -> h'.get? a = some o) -> Q (.bool b) { s with heap := h', toks := t' }) -> wpAny (model X.prog X.w) A (richCompare op u ub) Q E s
theorem J4z {A : Around} : CmpK ce X A .Gt gtZ := fun pins ι σi h σ H s k kb u ub b Q E N r rb e q => by
 cases k with
 | int a =>
  cases kb with
  | int c =>
   obtain ⟨x, rx, ex⟩ := r
   obtain ⟨y, ry, ey⟩ := rb
   have ex' : x = .int a := ex
   have ey' : y = .int c := ey
   subst ex'
   subst ey'
   obtain ⟨t, rfl⟩ := rx
   obtain ⟨t', rfl⟩ := ry
   have e' : some (decide (a > c)) = some b := e
   cases e'
   have cmp := CmpOf.ints_gt (prog := X.prog) (w := X.w) (A := A) (P := fun i v => ∃ t, v = .int (if i = 0 then a else c) t) (fun i => if i = 0 then a else c) (fun _ _ q => q)
   have := cmp 0 1 (.int a t) (.int c t') s Q E ⟨t, by simp⟩ ⟨t', by simp⟩
   simp only [if_true, show ¬ (1 : Nat) = 0 by decide, if_false] at this
   exact this (q s.heap s.toks fun _ _ e => e)
  | _ => cases e
 | _ => cases e
noncomputable def J3z (ce : Str -> Option Addr) (X : Cx) (A : Around) (σi : ISt) (σ : L2.St) (pins : List (Addr × Obj)) (G : Hp -> Prop) (fv : Value) (mk : IV -> IH -> Res IV) : Prop :=
 ∀ (pl : List (Addr × Obj)) (s : Shared) (H : Hp) (ι : List Addr) (h : IH) (v : IV) (u : Value) (Q : Value -> Shared -> Prop), Now ce X (pins ++ pl) ι σi h σ H s -> G H -> RU X.K ι H v u -> Kont ce X RU (pins ++ pl) ι σi σ H (mk v h).nx Q (fun _ _ => False) ->
  wpAny (model X.prog X.w) A (call fv [u]) Q (fun _ _ => False) s
theorem J0k {α γ : Type} {pins : List (Addr × Obj)} {ι : List Addr} {σi : ISt} {σ : L2.St} {H : Hp} {R : REL α Value} {R' : REL γ Value} {r : Res α} {g : α -> IH -> Res γ} {Q : Value -> Shared -> Prop} {E : Value -> Shared -> Prop} {pl : List (Addr × Obj)} {Q1 : Value -> Shared -> Prop}
  (K : Kont ce X R' pins ι σi σ H (r.nx.bind g) Q E)
  (step : ∀ x h1 u s1 H1 ι1, Now ce X (pins ++ pl) ι1 σi h1 σ H1 s1 -> Nxt ι H ι1 H1 -> R X.K ι1 H1 x u -> Kont ce X R' pins ι1 σi σ H1 (g x h1) Q E -> Q1 u s1) : Kont ce X R (pins ++ pl) ι σi σ H r.nx Q1 (fun _ _ => False) := by
 cases r with
 | ok v h' => exact fun u s' H' ι' N' n' q => step v h' u s' H' ι' N' n' q (Kont.mono (r := g v h') K n')
 | exc n h' => exact Zf K
 | stuck => exact Zf K
section
variable {A : Around} {R : Result -> Shared -> Prop} {Q : Value -> Shared -> Prop} {E : Value -> Shared -> Prop} {pins : List (Addr × Obj)} {σi : ISt} {σ : L2.St} {G : Hp -> Prop} {fq : Addr} {mk : IV -> IH -> Res IV} {gt : IV -> IV -> Option Bool} {i n : Nat} {l I C : Addr} {kw : List (Str × Value)}
theorem Jzv (hh : A.handled = none) (cm : CmpK ce X A.in1 .Gt gt) (ko : J3z ce X A.in1 σi σ pins G (.ref fq) mk) (hG : ∀ H H', Ext H H' -> G H -> G H') (hR : ∀ v s', Q v s' -> R (.ok (.ret v)) s') (hIC : I ≠ C) :
  ∀ (r j : Nat) (z : Shared) (H : Hp) (ι : List Addr) (h : IH) (b kb : IV) (vb uk : Value) (c : Nat), n - j = r -> 0 < j -> j <= n -> Now ce X pins ι σi h σ H z -> G H -> ι[i]? = some l -> FpOk X pins H I -> FpOk X pins H C -> z.heap.IsListIter I l j ->
   z.heap.get? C = some (seqObj "list" #[vb, uk] c) -> RU X.K ι H b vb -> RU X.K ι H kb uk -> Kont ce X RU pins ι σi σ H (Jg9 gt mk i n r b kb h) Q E ->
   codeAny (model X.prog X.w) A (.builtin "max.loop" ⟨[.ref I, .ref fq, .ref C], kw⟩) R z := by
 intro r
 induction r with
 | zero =>
  intro j z H ι h b kb vb uk c hr h0 hj N g hi fI fC st gC rb rk K
  obtain rfl : j = n := by omega
  unfold Jg9 at K
  cases eh : h[i]? with
  | none => rw [eh] at K; exact Zf K
  | some ob =>
   rw [eh] at K
   cases ob with
   | lst ys =>
    dsimp only at K
    split at K
    ·rename_i hlen
     obtain ⟨ws, e1, r3⟩ := N.at eh hi
     obtain ⟨its, rv2, pl, _⟩ := N.inv.list (SqL.of e1)
     have ne : l ≠ I := fun q => by have := fI.1; rw [<- q, e1] at this; cases this
     have sz : its.toArray.size = j := by
      rw [List.size_toArray, <- rv2.length, r3.length, hlen]
     have W := Walks.list (prog := X.prog) (w := X.w) (A := A.in1) hh I l ne its.toArray
     refine codeAny_builtin PySem.F.entry_max_loop ?_
     rw [Around.under_plainId PySem.F.plain_max_loop _]
     show wpAny _ A.in1 (seqItems? (.ref C) >>= _) _ _ z
     refine wpAny_bind (wpAny_seqItems gC rfl ?_)
     show wpAny _ A.in1 (tryCatch (pyNext (.ref I)) _ >>= _) _ _ z
     refine wpAny_bind (wpAny_tryCatch (W.done z _ _ ⟨by rw [sz]; exact st, pl.isList⟩ fun h2 tk keep => ?_))
     have gC2 := keep C _ (fun q => hIC (List.mem_singleton.mp q).symm) gC
     have N1 := N.turned (h' := h2) (t' := tk) fI fun b o hb e => keep b o (fun q => hb (List.mem_singleton.mp q)) e
     show wpAny _ A.in1 (updateSeq C (fun _ => #[]) >>= _) _ _ _
     refine wpAny_bind ?_
     refine wpAny_updateSeq gC2 rfl (wpAny_bind (wpAny_letGo (wpAny_pure ?_)))
     have N2 := N1.turned (h' := h2.update C (Obj.mapSeq fun _ => #[])) (t' := tk) fC fun b o hb e => (Heap.get?_update_other _ _ (Ne.symm hb)).trans e
     exact hR _ _ (K _ _ _ _ N2 .refl rb)
    ·exact Zf K
   | _ => exact Zf K
 | succ r ih =>
  intro j z H ι h b kb vb uk c hr h0 hj N g hi fI fC st gC rb rk K
  unfold Jg9 at K
  cases eh : h[i]? with
  | none => rw [eh] at K; exact Zf K
  | some ob =>
   rw [eh] at K
   cases ob with
   | lst ys =>
    dsimp only at K
    split at K
    ·rename_i hlen
     obtain ⟨ws, e1, r3⟩ := N.at eh hi
     obtain ⟨its, rv2, pl, _⟩ := N.inv.list (SqL.of e1)
     have ne : l ≠ I := fun q => by have := fI.1; rw [<- q, e1] at this; cases this
     have sz : its.toArray.size = n := by
      rw [List.size_toArray, <- rv2.length, r3.length, hlen]
     have ej : n - (r + 1) = j := by omega
     rw [ej] at K
     have W := Walks.list (prog := X.prog) (w := X.w) (A := A.in1) hh I l ne its.toArray
     refine codeAny_builtin PySem.F.entry_max_loop ?_
     rw [Around.under_plainId PySem.F.plain_max_loop _]
     show wpAny _ A.in1 (seqItems? (.ref C) >>= _) _ _ z
     refine wpAny_bind (wpAny_seqItems gC rfl ?_)
     show wpAny _ A.in1 (tryCatch (pyNext (.ref I)) _ >>= _) _ _ z
     refine wpAny_bind (wpAny_tryCatch (W.item j z _ _ (by rw [sz]; omega) ⟨st, pl.isList⟩ fun y h2 tk hP st2 keep => ?_))
     have ey : its[j]? = some y := by simpa using hP
     obtain ⟨x, ex, rx⟩ := Jv9 rv2 ey
     obtain ⟨yv, eyv, qy⟩ := r3.get' ex
     rw [eyv] at K
     dsimp only at K
     have gC2 := keep C _ (fun q => hIC (List.mem_singleton.mp q).symm) gC
     have N1 := N.turned (h' := h2) (t' := tk) fI fun b o hb e => keep b o (fun q => hb (List.mem_singleton.mp q)) e
     obtain ⟨oI, hoI, hoc, hod⟩ := id st2.1
     have N2 := (N1.pinO gC2 fC fun v z => by cases z).pinO hoI (FpOk.more (p := (C, seqObj "list" #[vb, uk] c)) fI (Ne.symm hIC)) fun v z => by rw [hod] at z; cases z
     rw [List.append_assoc] at N2
     show wpAny _ A.in1 (tryCatch (holding [y] (call (.ref fq) [y])) _ >>= _) _ _ _
     refine wpAny_bind (wpAny_tryCatch (wpAny_holding (nof (ko _ _ _ _ _ yv y _ N2 g ⟨x, rx, qy⟩ (J0k K fun k h3 u s3 H3 ι3 N3 n3 ru K3 => ?_)))))
     have pC := N3.inv.pin (C, seqObj "list" #[vb, uk] c) (List.mem_append_right _ (List.mem_append_right _ (by simp)))
     have pI := N3.inv.pin (I, oI) (List.mem_append_right _ (List.mem_append_right _ (by simp)))
     have N4 := N3.pins
     have hi3 := n3.at hi
     have g3 := hG _ _ n3.ext g
     have fI3 := FpOk.at (H' := H3) fI pI.2.1
     have fC3 := FpOk.at (H' := H3) fC pC.2.1
     have it3 : s3.heap.IsListIter I l (j + 1) := ⟨oI, pI.1, hoc, hod⟩
     have ry3 : RU X.K ι3 H3 yv y := RU.mono n3 ⟨x, rx, qy⟩
     cases eg : gt k kb with
     | none => rw [eg] at K3; exact Zf K3
     | some bb =>
      show wpAny _ A.in1 (tryCatch (holding [y, u] (richCompare .Gt u uk >>= _)) _ >>= _) _ _ _
      refine wpAny_bind (wpAny_tryCatch (wpAny_holding (wpAny_bind (cm _ _ _ _ _ _ _ k kb u uk bb _ _ N4 ru (rk.mono n3) eg fun h5 t5 k5 => ?_))))
      refine wpAny_bind (wpAny_holding (wpAny_truthy_bool ?_))
      refine wpAny_bind (wpAny_letGo (wpAny_pure ?_))
      have N5 := N4.keptH (h' := h5) (t' := t5) k5
      have gC5 := k5 _ _ pC.1
      obtain ⟨oI5, hoI5, hoc5, hod5⟩ := id it3
      have it5 : h5.IsListIter I l (j + 1) := ⟨oI5, k5 _ _ hoI5, hoc5, hod5⟩
      rw [eg] at K3
      cases bb with
      | true =>
       simp only [if_true]
       refine wpAny_bind ?_
       refine wpAny_updateSeq gC5 rfl (wpAny_bind (wpAny_letGo ?_))
       rw [Jfq]
       have N6 := N5.turned (h' := h5.update C (Obj.mapSeq fun _ => #[y, u])) (t' := t5) fC3 fun b o hb e => (Heap.get?_update_other _ _ (Ne.symm hb)).trans e
       obtain ⟨c2, hc2⟩ : ∃ c2, (h5.update C (Obj.mapSeq fun _ => #[y, u])).get? C = some (seqObj "list" #[y, u] c2) := ⟨_, get?_update_seq gC5 fun _ => #[y, u]⟩
       refine wpAny_pure ⟨plainId_quiet PySem.F.plain_max_loop _, ih (j + 1) _ H3 ι3 h3 yv k y u c2 (by omega) (by omega) (by omega) N6 g3 hi3 fI3 fC3 ?_ hc2 ry3 ru K3⟩
       exact ⟨oI5, (Heap.get?_update_other _ _ (Ne.symm hIC)).trans (k5 _ _ hoI5), hoc5, hod5⟩
      | false =>
       simp only [Bool.false_eq_true, if_false]
       refine wpAny_bind (wpAny_letGo ?_)
       rw [Jfq]
       exact wpAny_pure ⟨plainId_quiet PySem.F.plain_max_loop _, ih (j + 1) _ H3 ι3 h3 b kb vb uk c (by omega) (by omega) (by omega) N5 g3 hi3 fI3 fC3 it5 gC5 (rb.mono n3) (rk.mono n3) K3⟩
    ·exact Zf K
   | _ => exact Zf K
theorem Jvu (a v d : Value) : argsOk "max" ⟨[a], [(Str.ofString "key", v), (Str.ofString "default", d)]⟩ := by unfold argsOk; kernel_rfl
theorem Jzo {z : Shared} {H : Hp} {ι : List Addr} {h : IH} {dv : IV} {d : Value} (hh : A.handled = none) (cm : CmpK ce X A.in1 .Gt gt) (ko : J3z ce X A.in1 σi σ pins G (.ref fq) mk) (hG : ∀ H H', Ext H H' -> G H -> G H') (N : Now ce X pins ι σi h σ H z) (g : G H) (hi : ι[i]? = some l) (rd : RU X.K ι H dv d)
  (K : Kont ce X RU pins ι σi σ H (Juj gt mk i dv h) Q E) : wpAny (model X.prog X.w) A (call (.builtin "max") [.ref l] [(Str.ofString "key", .ref fq), (Str.ofString "default", d)]) Q E z := by
 unfold Juj at K
 cases eh : h[i]? with
 | none => rw [eh] at K; exact Zf K
 | some ob =>
  rw [eh] at K
  cases ob with
  | lst ys =>
   dsimp only at K
   obtain ⟨ws, e1, r3⟩ := N.at eh hi
   obtain ⟨its, rv2, pl, _⟩ := N.inv.list (SqL.of e1)
   have hl := pl.isList
   obtain ⟨ol, hol, _⟩ := id hl
   have lt : l < z.heap.objs.size := Heap.lt_size hol
   have sz : its.toArray.size = ys.length := by rw [List.size_toArray, <- rv2.length, r3.length]
   refine kmk_tree PySem.F.kind_max PySem.F.plain_max PySem.F.entry_max (Jvu _ _ _) ?_
   show wpAny _ A.in1 (Builtin.Builtins.bindParams "max" ["key", "default"] 0 ⟨[], [(Str.ofString "key", .ref fq), (Str.ofString "default", d)]⟩ >>= _) _ _ z
   refine wpAny_bind (wpAny_of_eq (show Builtin.Builtins.bindParams "max" ["key", "default"] 0 ⟨[], [(Str.ofString "key", .ref fq), (Str.ofString "default", d)]⟩ = pure [some (.ref fq), some d] from rfl) ?_)
   refine wpAny_bind (wpAny_pure ?_)
   refine wpAny_bind (wpAny_pyIter_list hl ?_)
   refine wpAny_bind (wpAny_newList ?_ (Nat.zero_le _))
   rw [Jfq]
   have ne : l ≠ z.heap.objs.size := Nat.ne_of_lt lt
   have W := Walks.list (prog := X.prog) (w := X.w) (A := A.in1) hh z.heap.objs.size l ne its.toArray
   have hS : (z.heap.push { cls := .type "list_iterator", data := .fields #[.ref l, .int 0 0] }).objs.size = z.heap.objs.size + 1 := size_push' ..
   obtain ⟨C, hC⟩ : ∃ C, C = (z.heap.push { cls := .type "list_iterator", data := .fields #[.ref l, .int 0 0] }).objs.size := ⟨_, rfl⟩
   have hIC : z.heap.objs.size ≠ C := by rw [hC, hS]; exact Nat.ne_of_lt (Nat.lt_succ_self _)
   have old : ∀ b o, z.heap.get? b = some o -> ((z.heap.push { cls := .type "list_iterator", data := .fields #[.ref l, .int 0 0] }).push (seqObj "list" #[] 0)).get? b = some o := fun b o e => Heap.get?_push_of_some _ (Heap.get?_push_of_some _ e)
   have gI : ((z.heap.push { cls := .type "list_iterator", data := .fields #[.ref l, .int 0 0] }).push (seqObj "list" #[] 0)).get? z.heap.objs.size = some { cls := .type "list_iterator", data := .fields #[.ref l, .int 0 0] } := Heap.get?_push_of_some _ (Heap.get?_push_size _ rfl)
   have gC : ((z.heap.push { cls := .type "list_iterator", data := .fields #[.ref l, .int 0 0] }).push (seqObj "list" #[] 0)).get? C = some (seqObj "list" #[] 0) := by rw [hC]; exact Heap.get?_push_size _ rfl
   rw [<- hC]
   have fI : FpOk X pins H z.heap.objs.size := N.inv.fpOk (Nat.le_refl _) (N.inv.hok.fresh (Nat.le_refl _))
   have fC : FpOk X pins H C := N.inv.fpOk (by rw [hC, hS]; exact Nat.le_succ _) (N.inv.hok.fresh (by rw [hC, hS]; exact Nat.le_succ _))
   have N0 := N.keptH (t' := z.toks) old
   refine wpAny_pure ⟨plainId_quiet PySem.F.plain_max_loop _, codeAny_builtin PySem.F.entry_max_loop ?_⟩
   rw [Around.under_plainId PySem.F.plain_max_loop _]
   show wpAny _ A.in1 (seqItems? (.ref _) >>= _) _ _ _
   refine wpAny_bind (wpAny_seqItems gC rfl ?_)
   show wpAny _ A.in1 (tryCatch (pyNext (.ref z.heap.objs.size)) _ >>= _) _ _ _
   cases e0 : ys[0]? with
   | none =>
    have h0 : ys.length = 0 := by
     have := List.getElem?_eq_none_iff.mp e0
     omega
    rw [e0] at K
    refine wpAny_bind (wpAny_tryCatch (W.done _ _ _ (by rw [sz, h0]; exact ⟨⟨_, gI, rfl, rfl⟩, (hl.push _).push _⟩) fun h2 tk keep => ?_))
    have N1 := N0.turned (h' := h2) (t' := tk) fI fun b o hb e => keep b o (fun q => hb (List.mem_singleton.mp q)) e
    show wpAny _ A.in1 (rule _ >>= _) _ _ _
    refine wpAny_bind (wpAny_rule (wpAny_pure ?_))
    exact K _ _ _ _ N1 .refl rd
   | some yv =>
    have h0 : 0 < ys.length := (List.getElem?_eq_some_iff.mp e0).1
    rw [e0] at K
    dsimp only at K
    refine wpAny_bind (wpAny_tryCatch (W.item 0 _ _ _ (by rw [sz]; exact h0) ⟨⟨_, gI, rfl, rfl⟩, (hl.push _).push _⟩ fun y h2 tk hP st2 keep => ?_))
    have ey : its[0]? = some y := by simpa using hP
    obtain ⟨x, ex, rx⟩ := Jv9 rv2 ey
    obtain ⟨yv', eyv, qy⟩ := r3.get' ex
    rw [e0] at eyv
    cases eyv
    have gC2 := keep C _ (fun q => hIC (List.mem_singleton.mp q).symm) gC
    have N1 := N0.turned (h' := h2) (t' := tk) fI fun b o hb e => keep b o (fun q => hb (List.mem_singleton.mp q)) e
    obtain ⟨oI, hoI, hoc, hod⟩ := id st2.1
    have N2 := (N1.pinO gC2 fC fun v z => by cases z).pinO hoI (FpOk.more (p := (C, seqObj "list" #[] 0)) fI (Ne.symm hIC)) fun v z => by rw [hod] at z; cases z
    rw [List.append_assoc] at N2
    show wpAny _ A.in1 (tryCatch (holding [y] (call (.ref fq) [y])) _ >>= _) _ _ _
    refine wpAny_bind (wpAny_tryCatch (wpAny_holding (nof (ko _ _ _ _ _ yv y _ N2 g ⟨x, rx, qy⟩ (J0k K fun k h3 u s3 H3 ι3 N3 n3 ru K3 => ?_)))))
    have pC := N3.inv.pin (C, seqObj "list" #[] 0) (List.mem_append_right _ (List.mem_append_right _ (by simp)))
    have pI := N3.inv.pin (z.heap.objs.size, oI) (List.mem_append_right _ (List.mem_append_right _ (by simp)))
    have N4 := N3.pins
    have fI3 := FpOk.at (H' := H3) fI pI.2.1
    have fC3 := FpOk.at (H' := H3) fC pC.2.1
    have ry3 : RU X.K ι3 H3 yv y := RU.mono n3 ⟨x, rx, qy⟩
    show wpAny _ A.in1 (updateSeq C (fun _ => #[y, u]) >>= _) _ _ _
    refine wpAny_bind ?_
    refine wpAny_updateSeq pC.1 rfl ?_
    rw [Jfq]
    have N6 := N4.turned (h' := s3.heap.update C (Obj.mapSeq fun _ => #[y, u])) (t' := s3.toks) fC3 fun b o hb e => (Heap.get?_update_other _ _ (Ne.symm hb)).trans e
    obtain ⟨c2, hc2⟩ : ∃ c2, (s3.heap.update C (Obj.mapSeq fun _ => #[y, u])).get? C = some (seqObj "list" #[y, u] c2) := ⟨_, get?_update_seq pC.1 fun _ => #[y, u]⟩
    refine wpAny_pure ⟨plainId_quiet PySem.F.plain_max_loop _, Jzv hh cm ko hG (fun v s' q => q) hIC (ys.length - 1) 1 _ H3 ι3 h3 yv k y u c2 rfl (by omega) (by omega) N6 (hG _ _ n3.ext g) (n3.at hi) fI3 fC3 ?_ hc2 ry3 ru K3⟩
    exact ⟨oI, (Heap.get?_update_other _ _ (Ne.symm hIC)).trans pI.1, hoc, hod⟩
  | _ => exact Zf K
end
theorem Kont.more {α β : Type} {R : REL α β} {pins pl : List (Addr × Obj)} {ι : List Addr} {σi : ISt} {σ : L2.St} {H : Hp} {r : Res α} {Q : β -> Shared -> Prop} {E : Value -> Shared -> Prop} (K : Kont ce X R pins ι σi σ H r Q E) : Kont ce X R (pins ++ pl) ι σi σ H r Q E := by
 cases r with
 | ok v h' => exact fun u s' H' ι' N n q => K u s' H' ι' N.pins n q
 | exc m h' => exact fun pl' a s' H' ι' N n q => K (pl ++ pl') a s' H' ι' (by rw [<- List.append_assoc]; exact N) n q
 | stuck => exact K
noncomputable def Jvn (gt : IV -> IV -> Option Bool) (q : Str) (j : Nat) (js : List Nat) (aa : A1) (m md : E1) : E1 := fun σ h => (aa σ h).bind fun xs h1 => match h1[j]? with
 | some (.tab q') => if q' = q then (md σ h1).bind fun d h2 => (match xs with
  | [.ref i] => Juj gt (fun v h' => m (some v :: js.map fun j => (σ[j]?).join) h') i d h2
  | _ => .stuck) else .stuck
 | _ => .stuck
theorem Jxw {params : Arguments} {x : Str} {env : Env} (hx : Jmx params = some x) : defaultsOf params env = ([], []) := by
 unfold Jmx at hx
 split at hx
 ·rfl
 ·cases hx
theorem J3t {k : Nat} {q x : Str} {caps : List Str} {js : List Nat} {j : Nat} {a body de : Expr} {aa : A1} {m md : E1} {params : Arguments} {scope : Scope} {p lp pos kp kp2 : Pos} (hg : Gl X "max") (hm : X.mg "max" = none) (ha : PAi ce X [a] aa) (hd : PEi ce X de md) (hs : starEach [a] X.env = [(false, eval a X.env)])
  (hr : Room (k + 2) X.A) (hcd : W.codeIn X.K X.env.code q = true) (hq : X.env.qual = q ++ ".<locals>.") (B : Jlu X.mg X.base) (hx : Jmx params = some x) (S : LamSc X.N X.env.scope.names x caps js scope)
  (hb : ∀ f cd s' H', PEi ce (cxL X X.A.in1 (x :: caps) q scope f cd s' H') body m) :
  PEi ce X (.Call (.Name "max" p) [a] [⟨some "key", .Lambda params body scope lp, kp⟩, ⟨some "default", de, kp2⟩] pos) (Jvn gtZ q j js aa m md) := fun pins s σ H ι σi h Q E N K => by
 have hcl : closureFor scope X.env = pure (clOf X.env.cells scope.names []) := Jil fun y hm hk => N.inv.ok.has y.1 (.inl (S.free y hm hk))
 refine wpAny_Call_Name_kw (Jde N.inv hg hm rfl ?_)
 refine callWith_kw ?_ (by rw [hs]; rfl) (by rw [hs]; rfl) rfl rfl
 refine (ha pos).run N K fun xs h1 us s1 H1 ι1 N1 n1 r1 K1 => ?_
 cases ej : h1[j]? with
 | none => rw [ej] at K1; exact Zf K1
 | some ob =>
  rw [ej] at K1
  cases ob with
  | tab q' =>
   dsimp only at K1
   split at K1
   ·rename_i eq
    subst eq
    refine PyProof.Rows.evalAll_cons (wpAny_bind (Jze N1 ej hcd hq (Jxw hx) hcl B fun f c pm ctv s2 H2 N2 n2 LC => wpAny_bind (wpAny_standAt (wpAny_pure ?_))))
    refine PyProof.Rows.evalAll_cons (wpAny_bind (PX.run hd N2 (Kont.more (Kont.mono K1 n2)) fun d h3 du s3 H3 ι3 N3 n3 r3 K3 => wpAny_bind (wpAny_standAt (wpAny_pure (PyProof.Rows.evalAll_nil ?_)))))
    obtain ⟨vs, rv, qs⟩ := r1.mono (n2.trans n3)
    match xs, K3 with
    | [.ref i], K3 =>
     obtain ⟨w, rfl, ad, rfl, hav⟩ := qs.one_of
     obtain ⟨u, rfl, ru⟩ := Jiz rv
     cases ru
     refine Jzo (G := fun H => Jdq H q' (.ref c)) (mk := fun v h' => m (some v :: js.map fun j => (σi[j]?).join) h') hr.hd J4z ?_ (fun H H' e g => g.mono e.frzs) N3 (LC.mono n3.ext.frzs) hav r3 ?_
     ·intro pl s4 H4 ι4 h4 v u Q4 N4 g4 ru4 K4
      have pf := N4.inv.pin (f, lamO q' params body scope (clOf X.env.cells scope.names []) pm ctv c) (List.mem_append_right _ (List.mem_append_left _ (List.mem_append_right _ (List.mem_singleton.mpr rfl))))
      exact J1k (A := X.A.in1) N.inv.ok.frames hr.in1 N4 pf.1 g4 hx S (hb f (.ref c)) ru4 K4
     ·exact K3
    | [], K3 => exact Zf K3
    | [.non], K3 => exact Zf K3
    | [.bl _], K3 => exact Zf K3
    | [.int _], K3 => exact Zf K3
    | [.str _], K3 => exact Zf K3
    | [.tup _], K3 => exact Zf K3
    | [.rol _], K3 => exact Zf K3
    | x :: _ :: _, K3 => cases x <;> exact Zf K3
   ·exact Zf K1
  | _ => exact Zf K1
end
end L3
namespace L4
open PySem PySem.Spec PyProof.Rows L2 L3
noncomputable def stE : E1 := fun _ _ => .stuck
noncomputable def stT : T1 := fun _ _ => .stuck
noncomputable def stO : O1 := fun _ _ => .stuck
noncomputable def stI : I1 := fun _ _ => .stuck
noncomputable def stG : G1 := fun _ _ _ => .stuck
noncomputable def stS : S1 := fun _ _ => .stuck
structure Fn where
 np : Nat
 dvs : List IV
 run : List IV -> IH -> Res IV
structure Pg where
 fn : Str -> Option Fn
 cls : Str -> Option Fn
 meth : Str -> Str -> Option Fn
 con : Str -> Option IV
 isa : Str -> Option (Str -> Bool)
 fld : Str -> Bool
 free : Str -> Bool
 tabs : Str -> Option Nat
structure Sc where
 N : List Str
 names : List (Str × NameKind)
 own : Bool
 q : Str
noncomputable def ixOf (x : Str) : List Str -> Option Nat
 | [] => none
 | y :: r => if y == x then some 0 else (ixOf x r).map (· + 1)
noncomputable def Sc.vis (S : Sc) (x : Str) : Option Nat :=
 match S.names.lookup x with
 | some .local => if x == "__debug__" || x == "__classdict__" then none else ixOf x S.N
 | some .cell => if x == "__debug__" || x == "__classdict__" then none else ixOf x S.N
 | some .free => if x == "__debug__" || x == "__classdict__" then none else ixOf x S.N
 | _ => none
noncomputable def Sc.gl (S : Sc) (x : Str) : Bool := S.names.lookup x == some .globalImplicit && !(x == "__debug__") && !(x == "__name__")
noncomputable def Sc.sto (S : Sc) (x : Str) : Option Nat :=
 match S.names.lookup x with
 | some .local => ixOf x S.N
 | some .cell => if S.own then ixOf x S.N else none
 | _ => none
noncomputable def evC : Const -> E1
 | .int i => eC (.int i)
 | .bool b => eC (.bl b)
 | .none => eC .non
 | .str x => eC (.str x)
 | _ => stE
noncomputable def binI : Operator -> IV -> IV -> IH -> Res IV
 | .Add => Jal
 | .Sub => Jl6
 | .Mult => Jbr
 | .FloorDiv => Ja8
 | .Mod => Jbf
 | .Pow => Jph
 | _ => fun _ _ _ => .stuck
noncomputable def cmpI : CmpOp -> IV -> IV -> IH -> Res IV
 | .Lt => cLt
 | .LtE => cLe
 | .Gt => cGt
 | .GtE => cGe
 | .Eq => cEq
 | .NotEq => cNe
 | .Is => cIs
 | .IsNot => Ju8
 | _ => fun _ _ _ => .stuck
noncomputable def unI : UnaryOp -> IV -> IH -> Res IV
 | .Not => Jtx tru
 | .USub => J2q
 | _ => fun _ _ => .stuck
noncomputable def J07 : List E1 -> E1
 | [] => stE
 | [a] => a
 | a :: b :: r => eAnd a (J07 (b :: r)) tru
noncomputable def eOrs : List E1 -> E1
 | [] => stE
 | [a] => a
 | a :: b :: r => eOr a (eOrs (b :: r)) tru
noncomputable def J2y : List T1 -> T1
 | [] => stT
 | [a] => a
 | a :: b :: r => Jxd a (J2y (b :: r))
noncomputable def tOrs : List T1 -> T1
 | [] => stT
 | [a] => a
 | a :: b :: r => tOrI a (tOrs (b :: r))
noncomputable def aAll : List E1 -> A1
 | [] => aNil
 | a :: r => Ja a (aAll r)
noncomputable def Jx : Expr -> Bool
 | .Starred .. => false
 | _ => true
noncomputable def Jt5 : Expr -> Bool
 | .Set .. => false
 | _ => true
noncomputable def Jn8 : Expr -> Bool
 | .Slice .. => false
 | _ => true
noncomputable def Ji9 : Expr -> Bool
 | .ListComp .. => false
 | .SetComp .. => false
 | .DictComp .. => false
 | _ => true
noncomputable def Jfl : Expr -> Bool
 | .Call (.Name ..) [] [] _ => false
 | _ => true
noncomputable def isM1 : Expr -> Bool
 | .UnaryOp .USub (.Constant (.int 1) _ _) _ => true
 | _ => false
noncomputable def Fn.fill (f : Fn) (n : Nat) : Option (List IV) := if n <= f.np /\ f.np <= n + f.dvs.length then some (f.dvs.drop (f.dvs.length - (f.np - n))) else none
noncomputable def Jsq (f : Fn) (n : Nat) (a : A1) : E1 := match f.fill n with
 | some d => Jm f.run d a
 | none => stE
noncomputable def Jso (c : Str) (f : Fn) (n : Nat) (a : A1) : E1 := match f.fill (n + 1) with
 | some d => Jku c f.run d a
 | none => stE
noncomputable def bltF (x : Str) : List IV -> IH -> Res IV :=
 if x == "len" then on1 lenI else if x == "all" then on1 allI else if x == "sum" then on1 sumI else if x == "sorted" then on1 Jjk else fun _ _ => .stuck
noncomputable def bltT (x : Str) : List IV -> IH -> Res IV :=
 if x == "list" then on1 Jh5 else if x == "tuple" then on1 Jlg else if x == "int" then on1 intI else fun _ _ => .stuck
noncomputable def Jxp (x : Str) : Bool := x == "len" || x == "all" || x == "sum" || x == "sorted"
noncomputable def Jwa (x : Str) : Bool := x == "list" || x == "tuple" || x == "int"
noncomputable def Jxy (P : Pg) (x : Str) : Option (Ty -> Option Bool) :=
 match P.isa x with
 | some g => some fun t => match t with | .ins c => some (g c) | _ => some false
 | none => if P.free x then (if x == "int" then some Jco else if x == "bool" then some Jbh else if x == "str" then some Jc3 else if x == "list" then some Jay else if x == "tuple" then some Jcw else none) else none
noncomputable def J0u (o : Option (Ty -> Option Bool)) (e : E1) : E1 := match o with
 | some ans => eIsi ans e
 | none => stE
noncomputable def bmOf (T : String) (m : Str) (n : Nat) : Option (IV -> List IV -> IH -> Res IV) :=
 if T == "list" then (if m == "append" && n == 1 then some Jjm else if m == "clear" && n == 0 then some Ju6 else if m == "pop" && n == 1 then some popI else if m == "extend" && n == 1 then some Jjt else if m == "reverse" && n == 0 then some Jng else if m == "index" && n == 1 then some Jm9 else none)
 else if T == "str" then (if m == "join" && n == 1 then some J16 else none)
 else if T == "dict" then (if m == "get" && n == 1 then some getI else if m == "setdefault" && n == 2 then some Jfz else none) else none
noncomputable def Jnq (P : Pg) (m : Str) (n : Nat) : Str -> Option ((List IV -> IH -> Res IV) × List IV) := fun c => match P.meth c m with
 | some f => (match f.fill (n + 1) with
  | some d => some (f.run, d)
  | none => none)
 | none => none
noncomputable def Jrh (v : IV) (h : IH) : Bool := match v with
 | .ref i => (match h[i]? with
  | some (.ins ..) => true
  | _ => false)
 | _ => false
noncomputable def tyS (v : IV) (h : IH) : String := match v with
 | .str _ => "str"
 | .rol _ => "list"
 | .ref i => (match h[i]? with
  | some (.lst _) => "list"
  | some (.dct _) => "dict"
  | _ => "")
 | _ => ""
noncomputable def eDot (P : Pg) (m : Str) (n : Nat) (o : E1) (a : A1) : E1 := fun σ h => match o σ h with
 | .ok v h1 => if Jrh v h1 then Jzl m (Jnq P m n) o a σ h else (match bmOf (tyS v h1) m n with
  | some g => eBm (tyS v h1) g o a σ h
  | none => .stuck)
 | _ => .stuck
noncomputable def J21 (n : Nat) (a : A1) : I1 := match n with
 | 1 => iRg Jbp a
 | 2 => iRg Jj5 a
 | _ => stI
noncomputable def gAll : List G1 -> List IV -> ISt -> IH -> SRes
 | [] => gN
 | g :: r => gC g (gAll r)
noncomputable def Jny (sc : Scope) : List Str := sc.names.filterMap fun x => if x.2 == .local && !(x.1 == (".0" : Str)) then some x.1 else none
noncomputable def Jke (sc : Scope) : List Str := sc.names.filterMap fun x => if x.2 == .free then some x.1 else none
noncomputable def jsOf (S : Sc) (sc : Scope) : List Nat := (Jke sc).map fun x => (ixOf x S.N).getD 0
noncomputable def Sc.comp (S : Sc) (sc : Scope) : Sc where
 N := Jny sc ++ Jke sc
 names := sc.names.map fun x => if x.2 == .free && S.names.lookup x.1 == some .cell then (x.1, .cell) else x
 own := false
 q := ""
noncomputable def Sc.lam (S : Sc) (x : Str) (sc : Scope) : Sc where
 N := x :: Jke sc
 names := sc.names
 own := false
 q := ""
noncomputable def Jrg (S : Sc) (x : Str) (sc : Scope) : Bool :=
 sc.kind == .function && !sc.isCoroutine && !sc.isGenerator && sc.names.all (fun y => !(y.2 == .cell)) && sc.names.lookup x == some .local && sc.names.all (fun y => !(y.2 == .free) || S.names.lookup y.1 == some .cell)
  && (Jke sc).all (fun y => decide (S.N[(ixOf y S.N).getD 0]? = some y) && sc.names.lookup y == some .free) && decide (x :: Jke sc).Nodup
noncomputable def Sc.fake (S : Sc) : Scope := { kind := .function, names := S.names, isGenerator := false, isCoroutine := false }
noncomputable def Jz5 : Expr -> Bool
 | .Name x _ => x == "last_come" || x == "tops" || x == "last" || x == "_law_last"
 | _ => false
noncomputable def ixD (a : Expr) : IV -> IV -> IH -> Res IV := if Jz5 a then Jt6 else opIx
noncomputable def cmpD (o : CmpOp) (_ : Expr) : IV -> IV -> IH -> Res IV := cmpI o
noncomputable def gSbF (a : Expr) (o i : E1) : G1 := if Jz5 a then gSbD o i else gSb o i
noncomputable def Jz2 : Expr -> Option Expr
 | .Call (.Name y _) [e] [] _ => if y == "set" && Jx e then some e else none
 | _ => none
noncomputable def Jz3 : Expr -> Option Expr
 | .Call (.Name y _) [e] [] _ => if y == "range" && Jx e then some e else none
 | _ => none
noncomputable def Jnx (P : Pg) (S : Sc) (x : Str) (f : Expr -> E1) : List Expr -> E1
 | [a, b] => if x == "max" then eCB (on2 maxI) (Ja (f a) (Ja (f b) aNil)) else if x == "min" then eCB (on2 minI) (Ja (f a) (Ja (f b) aNil)) else (match b with
  | .Name y _ => if x == "isinstance" && S.gl y then J0u (Jxy P y) (f a) else stE
  | _ => stE)
 | [a] => (match (if x == "len" && S.gl "set" && P.free "set" then Jz2 a else none) with
  | some e => Jl7 (Ja (f e) aNil)
  | none => match (if x == "list" && S.gl "range" && P.free "range" then Jz3 a else none) with
  | some e => eLR (Ja (f e) aNil)
  | none => if Jxp x then eCB (bltF x) (Ja (f a) aNil) else if Jwa x then eCB (bltT x) (Ja (f a) aNil) else stE)
 | _ => stE
noncomputable def Jwn (P : Pg) (S : Sc) (f : Sc -> Expr -> E1) (x : Str) (args : List Expr) (kws : List Keyword) : E1 := match args, kws with
 | [a], [⟨some k, d, _⟩] => if x == "max" && k == "default" && S.gl x && P.free x && Jx a then Jwi (Ja (f S a) aNil) (f S d) else stE
 | [a], [⟨some k, .Lambda ps body sc _, _⟩, ⟨some k2, d, _⟩] => (match Jmx ps, P.tabs S.q with
  | some y, some j => if x == "max" && k == "key" && k2 == "default" && S.gl x && P.free x && Jx a && S.own && Jrg S y sc then Jvn gtZ S.q j (jsOf S sc) (Ja (f S a) aNil) (f (S.lam y sc) body) (f S d) else stE
  | _, _ => stE)
 | _, _ => stE
noncomputable def Jw2 (ifs : List Expr) (f : Expr -> T1) (m : T1 -> E1) : E1 := match ifs with
 | [] => m Jav
 | [c] => m (f c)
 | _ => stE
noncomputable section
mutual
noncomputable def ev (P : Pg) : Nat -> Sc -> Expr -> E1
 | 0, _, _ => stE
 | n + 1, S, e => match e with
  | .Constant c _ _ => evC c
  | .Name x _ => (match S.vis x with
   | some i => eVar i
   | none => if S.gl x then (match P.con x with
    | some v => eC v
    | none => stE) else stE)
  | .BinOp a op b _ => eBin (binI op) (ev P n S a) (ev P n S b)
  | .UnaryOp op a _ => eUn (unI op) (ev P n S a)
  | .BoolOp .And vs _ => J07 (vs.map (ev P n S))
  | .BoolOp .Or vs _ => eOrs (vs.map (ev P n S))
  | .IfExp t a b _ => eIf (evT P n S t) (ev P n S a) (ev P n S b)
  | .Compare a [o] [b] _ => if behindInMarks o b then stE else eBin (cmpD o b) (ev P n S a) (ev P n S b)
  | .Compare a [o, o'] [b, c] _ => if lastMarks [o, o'] [b, c] then stE else Jgd (cmpI o) (cmpI o') (ev P n S a) (ev P n S b) (ev P n S c)
  | .Tuple es _ _ => if es.all Jx then eTup (aAll (es.map (ev P n S))) else stE
  | .Dict [] [] _ => Jyo
  | .Dict [some k] [v] _ => J4n (ev P n S k) (ev P n S v)
  | .List es _ => if es.all Jx then eLst (aAll (es.map (ev P n S))) else stE
  | .Subscript a (.Slice lo hi none _) _ => eSl slI (ev P n S a) (evO P n S lo) (evO P n S hi)
  | .Subscript a i _ => if Jn8 i then eBin (ixD a) (ev P n S a) (ev P n S i) else stE
  | .Attribute o f _ => if Jfl o && P.fld f then eFld f (ev P n S o) else stE
  | .Call (.Name x _) args [] _ => if S.gl x && args.all Jx then Jv5 P n S x args else stE
  | .Call (.Name x _) args (kw :: kws) _ => Jwn P S (fun S e => ev P n S e) x args (kw :: kws)
  | .Call (.Attribute o m ap) args [] p => if args.all Jx && Jfl o && (ap.endLine == p.line) && decide (args.length < 30) then eDot P m args.length (ev P n S o) (aAll (args.map (ev P n S))) else stE
  | .ListComp elt [⟨tg, iter, ifs, as⟩] sc _ =>
   if as = 0 /\ Jt5 iter = true /\ Je4 S.N (Jny sc) (Jke sc) (jsOf S sc) S.fake sc = true then
    Jw2 ifs (evT P n (S.comp sc)) fun mt => Jaj (evI P n S tg iter) (Jny sc).length (jsOf S sc) (tgt P n (S.comp sc) tg) mt (ev P n (S.comp sc) elt)
   else stE
  | _ => stE
noncomputable def evT (P : Pg) : Nat -> Sc -> Expr -> T1
 | 0, _, _ => stT
 | n + 1, S, e => match e with
  | .UnaryOp .Not a _ => Jc9 (evT P n S a)
  | .BoolOp .And vs _ => J2y (vs.map (evT P n S))
  | .BoolOp .Or vs _ => tOrs (vs.map (evT P n S))
  | .IfExp .. => stT
  | .Compare a [o] [b] _ => if behindInMarks o b then stT else tOfB asB (eBin (cmpD o b) (ev P n S a) (ev P n S b))
  | .Compare a [o, o'] [b, c] _ => if lastMarks [o, o'] [b, c] then stT else tOfB asB (Jgd (cmpI o) (cmpI o') (ev P n S a) (ev P n S b) (ev P n S c))
  | .Compare .. => stT
  | e => tOfB tru (ev P n S e)
noncomputable def evO (P : Pg) : Nat -> Sc -> Option Expr -> O1
 | 0, _, _ => stO
 | _ + 1, _, none => Jgz
 | n + 1, S, some e => Jfk (ev P n S e)
noncomputable def Jv5 (P : Pg) : Nat -> Sc -> Str -> List Expr -> E1
 | 0, _, _, _ => stE
 | n + 1, S, x, args => match P.fn x with
  | some f => Jsq f args.length (aAll (args.map (ev P n S)))
  | none => match P.cls x with
   | some f => Jso x f args.length (aAll (args.map (ev P n S)))
   | none => if P.free x then Jnx P S x (ev P n S) args else stE
noncomputable def evI (P : Pg) : Nat -> Sc -> Expr -> Expr -> I1
 | 0, _, _, _ => stI
 | n + 1, S, tg, e => match e with
  | .Call (.Name x _) args [] _ =>
   if S.gl x && P.free x && args.all Jx && (x == "range") then J21 args.length (aAll (args.map (ev P n S)))
   else if S.gl x && P.free x && args.all Jx && (x == "enumerate") then (match tg, args with
    | .Tuple .., [a] => iRg Jfi (Ja (ev P n S a) aNil)
    | _, _ => stI)
   else iAny (ev P n S e)
  | e => iAny (ev P n S e)
noncomputable def tgt (P : Pg) : Nat -> Sc -> Expr -> G1
 | 0, _, _ => stG
 | n + 1, S, e => match e with
  | .Name x _ => (match S.sto x with
   | some i => gNm i
   | none => stG)
  | .Tuple es _ _ => if es.all Jx then gTp es.length (gAll (es.map (tgt P n S))) else stG
  | .Subscript o i _ => if Jn8 i then gSbF o (ev P n S o) (ev P n S i) else stG
  | _ => stG
end
end
end L4
namespace L4
open PySem PySem.Spec PyProof.Rows L2 L3
noncomputable def Jk5 (t : T1) (b : S1) : Nat -> S1
 | 0, _, _ => .stuck
 | n + 1, σ, h => match t σ h with
  | .ok c h1 => if c then (match b σ h1 with
   | .next σ2 h2 => Jk5 t b n σ2 h2
   | .cont σ2 h2 => Jk5 t b n σ2 h2
   | .brk σ2 h2 => .next σ2 h2
   | .ret v h2 => .ret v h2
   | _ => .stuck) else .next σ h1
  | _ => .stuck
@[irreducible] noncomputable def J47 : Nat := 1000000
noncomputable def Jw8 (t : T1) (b : S1) : S1 := Jk5 t b J47
noncomputable def ipI : Operator -> IV -> IV -> IH -> Res IV
 | .Add, .int i, .int j, h => .ok (.int (i + j)) h
 | _, _, _, _ => .stuck
noncomputable def sAug (op : Operator) (i : Nat) (e : E1) : S1 := fun σ h => rS σ (eVar i σ h) fun x h1 => rS σ (e σ h1) fun y h2 => rS σ (ipI op x y h2) fun z h3 => .next (σ.set i (some z)) h3
noncomputable def sAugF (op : Operator) (f : Str) (o e : E1) : S1 := fun σ h => rS σ (o σ h) fun ov h1 => match ov with
 | .ref i => (match h1[i]? with
  | some (.ins _ fs) => (match fs.lookup f with
   | some x => rS σ (e σ h1) fun y h2 => rS σ (ipI op x y h2) fun z h3 => (match h3[i]? with
    | some (.ins c gs) => if gs.length < 1000 then .next σ (h3.set i (.ins c (putI f z gs))) else .stuck
    | _ => .stuck)
   | none => .stuck)
  | _ => .stuck)
 | _ => .stuck
noncomputable def ixL : IV -> IV -> IH -> Res IV
 | .ref i, .int k, h => match h[i]? with
  | some (.lst xs) => (match atI xs k with
   | some v => if 0 <= k then .ok v h else .stuck
   | none => .stuck)
  | _ => .stuck
 | _, _, _ => .stuck
noncomputable def sAugS (op : Operator) (o k e : E1) : S1 := fun σ h => rS σ (o σ h) fun ov h1 => rS σ (k σ h1) fun kv h2 => rS σ (ixL ov kv h2) fun x h3 => rS σ (e σ h3) fun y h4 => rS σ (ipI op x y h4) fun z h5 => setI ov kv z σ h5
noncomputable def sAll : List S1 -> S1
 | [] => sNil
 | [a] => a
 | a :: b :: r => sSeq a (sAll (b :: r))
noncomputable def J2i : Expr -> Bool
 | .Tuple .. => false
 | _ => true
noncomputable def Jzt : Expr -> Bool
 | .Tuple .. => true
 | _ => false
noncomputable def isLC : Expr -> Bool
 | .ListComp .. => true
 | _ => false
noncomputable def Jyp : Expr -> Bool
 | .Subscript .. => true
 | _ => false
noncomputable section
noncomputable def ex (P : Pg) : Nat -> Sc -> Stmt -> S1
 | 0, _, _ => stS
 | n + 1, S, st => match st with
  | .Pass _ => J2f
  | .Break _ => Jz9
  | .Continue _ => J3p
  | .Expr e _ => if Ji9 e then Jmi (ev P n S e) else stS
  | .Return none _ => J2z
  | .Return (some e) _ => sRet (ev P n S e)
  | .If c a b _ => sIf (evT P n S c) (sAll (a.map (ex P n S))) (sAll (b.map (ex P n S)))
  | .While c a [] _ => Jw8 (evT P n S c) (sAll (a.map (ex P n S)))
  | .For tg it a [] _ => if Jt5 it then sFor (evI P n S tg it) (tgt P n S tg) (sAll (a.map (ex P n S))) else stS
  | .Assign [.Name x _] e _ => if Ji9 e || isLC e then (match S.sto x with
   | some i => sSet i (ev P n S e)
   | none => stS) else stS
  | .Assign [.Attribute o f _] e _ => if Ji9 e && P.fld f then Jkc f (ev P n S o) (ev P n S e) else stS
  | .Assign [tg] e _ => if Ji9 e && ((Jzt tg && J2i e) || Jyp tg) then sAsg (ev P n S e) (tgt P n S tg) else stS
  | _ => stS
end
end L4
namespace L4
open PySem PySem.Spec PyProof.Rows L2 L3
structure FnD (ce : Str -> Option Addr) (prog : Program) (w : World) (K : W.Frag) (mg : Str -> Option Value) (base : Heap) (k : Nat) (f : Fn) (fa : Addr) (fd : FuncData) (ps : List Str) : Prop where
 len : ps.length = f.np
 ok : FnOk prog w K mg base CX0 k fa fd ps (spI ce K ps f.run)
 dv : ∀ j, j <= f.dvs.length -> ∃ ds, Jhh K fd ps ds /\ ds.length = f.dvs.length - j /\ ∃ vs, Vals vs ds /\ ∀ ι H, RVs K ι H (f.dvs.drop j) vs
structure PgOk (ce : Str -> Option Addr) (k : Nat) (P : Pg) (prog : Program) (w : World) (K : W.Frag) (mg : Str -> Option Value) (base : Heap) : Prop where
 fn : ∀ x f, P.fn x = some f -> ∃ fa fd ps, mg x = some (.ref fa) /\ W.keepIn K (.ref fa) = true /\ FnD ce prog w K mg base k f fa fd ps
 cls : ∀ x f, P.cls x = some f -> ∃ C fa fd ps, mg x = some (.ref C) /\ ce x = some C /\ Mk K C fa /\ FnD ce prog w K mg base k f fa fd ps
 meth : ∀ c m f, P.meth c m = some f -> ∃ C fa fd ps, ce c = some C /\ Cls K C /\ Meth K C m fa /\ FnD ce prog w K mg base k f fa fd ps
 con : ∀ x v, P.con x = some v -> ∃ u y, mg x = some u /\ RelV y u /\ ∀ ι H, RV K ι H v y
 isa : ∀ D g, P.isa D = some g -> ∃ c, mg D = some c /\ IsOk ce K c fun t => match t with | .ins c => some (g c) | _ => some false
 fld : ∀ f, P.fld f = true -> Jxv ce K f
 free : ∀ x, P.free x = true -> mg x = none
 blt : ∀ q j, P.tabs q = some j -> Jlu mg base
structure Good (ce : Str -> Option Addr) (k : Nat) (P : Pg) (S : Sc) (X : Cx) : Prop where
 n : X.N = S.N
 sc : X.env.scope.names = S.names
 nd : S.N.Nodup
 fk : X.env.scope.kind = .function
 calm : X.calm = true
 room : Room (k + 1) X.A
 st : S.own = true -> ∀ x, X.fn x = true
 pg : PgOk ce k P X.prog X.w X.K X.mg X.base
 code : S.own = true -> W.codeIn X.K X.env.code S.q = true /\ X.env.qual = S.q ++ ".<locals>."
 room3 : S.own = true -> Room (k + 3) X.A
section
variable {ce : Str -> Option Addr} {k : Nat} {P : Pg} {S : Sc} {X : Cx} {α β : Type} {R : REL α β}
theorem Jc {t : Sem β} : PX ce X R t (fun _ _ => .stuck) := fun _ _ _ _ _ _ _ _ _ _ K => (show False from K).elim
theorem px_pt {t : Sem β} {m : ISt -> IH -> Res α} (hh : ∀ σi h, ∃ m', m σi h = m' σi h /\ PX ce X R t m') : PX ce X R t m := by
 intro pins s σ H ι σi h Q E N K
 obtain ⟨m', e, p⟩ := hh σi h
 rw [e] at K
 exact p pins s σ H ι σi h Q E N K
theorem Jkp {tg e : Expr} : PIi ce X tg e stI := fun _ _ _ _ _ _ _ _ _ _ K => (show False from K).elim
theorem Jhv {e : Expr} : PGi ce X e stG := fun _ _ _ _ _ _ _ _ _ _ _ _ _ K => (show False from K).elim
theorem Jbb {t : Sem Flow} : PSi ce X t stS := fun _ _ _ _ _ _ _ _ _ _ K => (show False from K).elim
theorem Jko {x : Str} : ∀ {l : List Str} {i : Nat}, ixOf x l = some i -> l[i]? = some x
 | [], _, h => by cases h
 | y :: r, i, h => by
  unfold ixOf at h
  split at h
  ·rename_i e
   cases h
   simp [beq_iff_eq.mp e]
  ·obtain ⟨j, hj, rfl⟩ := Option.map_eq_some_iff.mp h
   simpa using Jko hj
theorem Good.kind (G : Good ce k P S X) (x : Str) : X.env.kindOf x = S.names.lookup x := by
 show X.env.scope.names.lookup x = _
 rw [G.sc]
theorem Good.vis (G : Good ce k P S X) {x : Str} {i : Nat} (h : S.vis x = some i) : X.N[i]? = some x /\ Vis X.env.scope x /\ (x == ("__debug__" : Str)) = false /\ (x == ("__classdict__" : Str)) = false := by
 unfold Sc.vis at h
 have fin : ∀ {o : NameKind}, (o = .local ∨ o = .cell ∨ o = .free) -> S.names.lookup x = some o -> (if (x == ("__debug__" : Str) || x == ("__classdict__" : Str)) = true then none else ixOf x S.N) = some i ->
   X.N[i]? = some x /\ Vis X.env.scope x /\ (x == ("__debug__" : Str)) = false /\ (x == ("__classdict__" : Str)) = false := fun ho e h => by
  split at h
  ·cases h
  ·rename_i hd
   have hd' := Bool.eq_false_iff.mpr hd
   rw [Bool.or_eq_false_iff] at hd'
   refine ⟨by rw [G.n]; exact Jko h, ?_, hd'.1, hd'.2⟩
   unfold Vis
   rw [G.sc, e]
   rcases ho with rfl | rfl | rfl
   ·exact .inl rfl
   ·exact .inr (.inl rfl)
   ·exact .inr (.inr rfl)
 cases e : S.names.lookup x with
 | none => rw [e] at h; cases h
 | some o =>
  rw [e] at h
  cases o with
  | «local» => exact fin (.inl rfl) e h
  | cell => exact fin (.inr (.inl rfl)) e h
  | free => exact fin (.inr (.inr rfl)) e h
  | _ => cases h
theorem Good.gl (G : Good ce k P S X) {x : Str} (h : S.gl x = true) : Gl X x /\ (x == ("__debug__" : Str)) = false /\ x ≠ "__name__" := by
 unfold Sc.gl at h
 simp only [Bool.and_eq_true, beq_iff_eq, Bool.not_eq_true'] at h
 refine ⟨?_, h.1.2, fun e => ?_⟩
 ·show X.env.kindOf x = _
  rw [G.kind]
  exact h.1.1
 ·have := h.2
  rw [e] at this
  exact absurd this (by decide)
theorem Good.sto (G : Good ce k P S X) {x : Str} {i : Nat} (h : S.sto x = some i) : X.N[i]? = some x /\ Loc X.env.scope x /\ (X.fn x = true ∨ X.env.scope.names.lookup x = some .local) := by
 unfold Sc.sto at h
 unfold L2.Loc
 rw [G.sc]
 cases e : S.names.lookup x with
 | none => rw [e] at h; cases h
 | some o =>
  rw [e] at h
  cases o with
  | «local» => exact ⟨by rw [G.n]; exact Jko h, .inl rfl, .inr rfl⟩
  | cell =>
   dsimp only at h
   split at h
   ·rename_i ho
    exact ⟨by rw [G.n]; exact Jko h, .inr rfl, .inl (G.st ho x)⟩
   ·cases h
  | _ => cases h
theorem Good.nodup (G : Good ce k P S X) : X.N.Nodup := by rw [G.n]; exact G.nd
theorem Jf {a : Expr} {es : List Expr} {env : Env} (h : Jx a = true) : starEach (a :: es) env = (false, eval a env) :: starEach es env := by
 cases a <;> first | rfl | cases h
theorem Jgx {pos : Pos} {env : Env} : ∀ {es : List Expr}, es.all Jx = true -> (backTo pos (starEach es env)).any (·.1) = false
 | [], _ => rfl
 | a :: es, h => by
  simp only [List.all_cons, Bool.and_eq_true] at h
  rw [Jf h.1]
  show (false || (backTo pos (starEach es env)).any (·.1)) = false
  rw [Jgx h.2] <;> rfl
theorem Jlo {pos : Pos} {env : Env} : ∀ {es : List Expr}, es.all Jx = true -> (backTo pos (starEach es env)).all (fun x => !x.1) = true
 | [], _ => rfl
 | a :: es, h => by
  simp only [List.all_cons, Bool.and_eq_true] at h
  rw [Jf h.1]
  show (true && (backTo pos (starEach es env)).all (fun x => !x.1)) = true
  rw [Jlo h.2] <;> rfl
theorem J04 {pos : Pos} {env : Env} {es : List Expr} (ha : es.all Jx = true) (hn : es.length < 30) : ((backTo pos (starEach es env)).all (fun x => !x.1) && (backToKw pos (keywordEach [] env)).all (fun x => x.1.isSome)
   && decide (es.length + ([] : List Keyword).length + (if ([] : List Keyword).isEmpty then 0 else 1) < 30)) = true := by
 show ((backTo pos (starEach es env)).all (fun x => !x.1) && true && decide (es.length + 0 + 0 < 30)) = true
 rw [Jlo ha]
 simpa using hn
theorem Jkn : ∀ (l : List E1), ALen l.length (aAll l)
 | [] => Jzf
 | _ :: r => Jwy (Jkn r)
theorem Jpy {f : Expr -> E1} : ∀ {es : List Expr}, es.all Jx = true -> (∀ e, PEi ce X e (f e)) -> PAi ce X es (aAll (es.map f))
 | [], _, _ => Jnp
 | a :: es, h, hf => by
  simp only [List.all_cons, Bool.and_eq_true] at h
  exact Jg4 (hf a) (Jpy h.2 hf) (Jf h.1)
theorem Jz7 {f : Expr -> E1} {pos : Pos} (hf : ∀ e, PEi ce X e (f e)) : ∀ (vs : List Expr), PEi ce X (.BoolOp .And vs pos) (J07 (vs.map f))
 | [] => Jc
 | [a] => J36 (hf a)
 | a :: b :: r => i_and Jqh (hf a) (Jz7 hf (b :: r))
theorem J3o {f : Expr -> E1} {pos : Pos} (hf : ∀ e, PEi ce X e (f e)) : ∀ (vs : List Expr), PEi ce X (.BoolOp .Or vs pos) (eOrs (vs.map f))
 | [] => Jc
 | [a] => J36 (hf a)
 | a :: b :: r => i_or Jqh (hf a) (J3o hf (b :: r))
theorem J0t {f : Expr -> T1} {pos : Pos} (hf : ∀ e, PTi ce X e (f e)) : ∀ (vs : List Expr), PWi ce X (.BoolOp .And vs pos) (J2y (vs.map f))
 | [] => fun _ => Jc
 | [a] => J2t (hf a)
 | a :: b :: r => J40 (hf a) (J0t hf (b :: r))
theorem J3l {f : Expr -> T1} {pos : Pos} (hf : ∀ e, PTi ce X e (f e)) : ∀ (vs : List Expr), PWi ce X (.BoolOp .Or vs pos) (tOrs (vs.map f))
 | [] => fun _ => Jc
 | [a] => J5n (hf a)
 | a :: b :: r => tw_or (hf a) (J3l hf (b :: r))
theorem J0r {f : Expr -> G1} : ∀ {es : List Expr}, es.all Jx = true -> (∀ e, PGi ce X e (f e)) -> PGsi ce X es (gAll (es.map f))
 | [], _, _ => J4q
 | a :: es, h, hf => by
  simp only [List.all_cons, Bool.and_eq_true] at h
  refine J13 (hf a) (J0r h.2 hf) ?_
  cases a <;> first | rfl | exact absurd h.1 Bool.false_ne_true
theorem J0j {env : Env} : ∀ {es : List Expr}, es.all Jx = true -> (assignEach es env).length = es.length
 | [], _ => rfl
 | a :: es, h => by
  simp only [List.all_cons, Bool.and_eq_true] at h
  have : assignEach (a :: es) env = (false, assign a env) :: assignEach es env := by cases a <;> first | rfl | exact absurd h.1 Bool.false_ne_true
  rw [this, List.length_cons, List.length_cons, J0j h.2]
theorem Jv7 {env : Env} : ∀ {es : List Expr}, es.all Jx = true -> (assignEach es env).findIdx? (·.1) = none
 | [], _ => rfl
 | a :: es, h => by
  simp only [List.all_cons, Bool.and_eq_true] at h
  have : assignEach (a :: es) env = (false, assign a env) :: assignEach es env := by cases a <;> first | rfl | exact absurd h.1 Bool.false_ne_true
  rw [this, List.findIdx?_cons, Jv7 h.2]
  rfl
theorem o_bin (op : Operator) : OpI ce X (binaryOp op) (binI op) := by
 cases op with
 | Add => exact o_add
 | Sub => exact o_sub
 | Mult => exact J38
 | FloorDiv => exact J20
 | Mod => exact o_mod
 | Pow => exact o_pow
 | _ => exact fun _ _ _ _ _ _ _ _ _ _ _ _ _ _ _ _ K => (show False from K).elim
theorem Jwt (hu : X.A.units + 64 < cLine) (op : CmpOp) : OpI ce X (compareOp op) (cmpI op) := by
 cases op with
 | Lt => exact o_lt
 | LtE => exact o_le
 | Gt => exact o_gt
 | GtE => exact o_ge
 | Eq => exact o_eq hu
 | NotEq => exact o_ne hu
 | Is => exact o_is
 | IsNot => exact J01
 | _ => exact fun _ _ _ _ _ _ _ _ _ _ _ _ _ _ _ _ K => (show False from K).elim
theorem J0h (hu : X.A.units + 64 < cLine) (op : CmpOp) (b : Expr) : OpI ce X (compareOp op) (cmpD op b) := Jwt hu op
theorem x_ixF (a : Expr) : IxI ce X (ixD a) := by
 unfold ixD
 split
 ·exact x_ixD
 ·exact x_ix
theorem o_un (op : UnaryOp) : UnI ce X (unaryOp op) (unI op) := by
 cases op with
 | Not => exact J1n Jqh
 | USub => exact u_neg
 | _ => exact fun _ _ _ _ _ _ _ _ _ _ _ _ _ K => (show False from K).elim
theorem Jgw {o : Expr} {m : Str} {env : Env} {w : Sem Value} (h : Jfl o = true) : attributeBase o m env w = w := by
 cases o with
 | Call f as ks p =>
  cases f with
  | Name x q =>
   cases as with
   | nil =>
    cases ks with
    | nil => cases h
    | cons _ _ => rfl
   | cons _ _ => rfl
  | _ => rfl
 | _ => rfl
theorem Jbz {e : Expr} {env : Env} (h : Jt5 e = true) (x : Value) : foldedSetIterable e env x = pure x := by
 cases e <;> first | rfl | cases h
theorem Jgv {e : Expr} {t : Option Expr} {l : Nat} {env : Env} (h : Ji9 e = true) : swapsWith e t l env = pure false := by
 cases e <;> first | rfl | cases h
theorem Jya {i : Expr} (h : Jn8 i = true) : Jw7 i := fun _ _ => by
 cases i <;> first | rfl | cases h
theorem Jqv {o : Expr} {m : Str} {ap pos : Pos} {es : List Expr} {env : Env} (hb : Jfl o = true) (hs : es.all Jx = true) (hl : (ap.endLine == pos.line) = true) (hn : es.length < 30) :
  eval (.Call (.Attribute o m ap) es [] pos) env = (do
   let ov <- eval o env
   standAt ap.atName
   let (f, first) <- holding [ov] (getMethod ov m (do return (<- importBound o env).getD true))
   callWith pos f first (backTo pos (starEach es env)) (backToKw pos (keywordEach [] env))) := by
 have hform : methodCallForm (es.length + ([] : List Keyword).length) (backTo pos (starEach es env)) (backToKw pos (keywordEach [] env)) = true := by
  show ((backTo pos (starEach es env)).all (fun x => !x.1) && true && decide (es.length + 0 + 0 < 30)) = true
  rw [Jlo hs]
  simpa using hn
 have hpos : methodCallPos true o env ap pos = pure pos := by unfold methodCallPos; simp [hl]
 rw [arm_eval_Call, Jgw hb]
 unfold methodCall
 rw [hform, hpos]
 rfl
end
section
variable {ce : Str -> Option Addr} {k : Nat} {P : Pg} {S : Sc} {X : Cx}
theorem Jpz (G : Good ce k P S X) (N0 l c : List Str) (js : List Nat) (sc : Scope) : Je4 N0 l c js X.env.scope sc = Je4 N0 l c js S.fake sc := by
 unfold Je4
 rw [G.fk, G.sc]
 rfl
theorem Good.comp (G : Good ce k P S X) {sc : Scope} (h : Je4 S.N (Jny sc) (Jke sc) (jsOf S sc) S.fake sc = true) (C : Addr) (s : Shared) (H : Hp) (fp : List Addr) : Good ce k P (S.comp sc) (cxC X (Jny sc ++ Jke sc) sc C s H fp) := by
 simp only [Je4, Bool.and_eq_true, decide_eq_true_eq] at h
 obtain ⟨⟨⟨⟨⟨⟨⟨⟨⟨kF, kF0⟩, kNC⟩, kL⟩, kFr⟩, kFx⟩, kJ⟩, kLen⟩, kNd⟩, kLo⟩ := h
 refine ⟨rfl, ?_, kNd, kF, G.calm, G.room, fun z => absurd z Bool.false_ne_true, G.pg, fun z => absurd z Bool.false_ne_true, fun z => absurd z Bool.false_ne_true⟩
 show (relabel sc X.env).names = _
 unfold relabel Sc.comp
 dsimp only
 refine List.map_congr_left fun x _ => ?_
 obtain ⟨n, kd⟩ := x
 dsimp only
 rw [G.fk, G.kind]
 simp
end
structure Snd (ce : Str -> Option Addr) (k : Nat) (P : Pg) (n : Nat) : Prop where
 e : ∀ S X e, Good ce k P S X -> PEi ce X e (ev P n S e)
 t : ∀ S X e, Good ce k P S X -> PTi ce X e (evT P n S e)
 o : ∀ S X e, Good ce k P S X -> PPi ce X e (evO P n S e)
 c : ∀ S X x args p pos, Good ce k P S X -> S.gl x = true -> args.all Jx = true -> PEi ce X (.Call (.Name x p) args [] pos) (Jv5 P n S x args)
 i : ∀ S X tg e, Good ce k P S X -> PIi ce X tg e (evI P n S tg e)
 g : ∀ S X e, Good ce k P S X -> PGi ce X e (tgt P n S e)
section
variable {ce : Str -> Option Addr} {k : Nat} {P : Pg} {n : Nat} {S : Sc} {X : Cx}
theorem Jyr : Snd ce k P 0 := ⟨fun _ _ _ _ => Jc, fun _ _ _ _ => Jc, fun _ _ _ _ => Jc, fun _ _ _ _ _ _ _ _ _ => Jc, fun _ _ _ _ _ => Jkp, fun _ _ _ _ => Jhv⟩
theorem Jrf {prog : Program} {w : World} {K : W.Frag} {mg : Str -> Option Value} {base : Heap} {f : Fn} {fa : Addr} {fd : FuncData} {ps : List Str} {m : Nat} {d : List IV} (D : FnD ce prog w K mg base k f fa fd ps) (h : f.fill m = some d) :
  ∃ ds, Jhh K fd ps ds /\ m + ds.length = ps.length /\ ∃ vs, Vals vs ds /\ ∀ ι H, RVs K ι H d vs := by
 unfold Fn.fill at h
 split at h
 ·rename_i hz
  cases h
  obtain ⟨ds, hb, hl, q⟩ := D.dv (f.dvs.length - (f.np - m)) (by omega)
  exact ⟨ds, hb, by rw [hl, D.len]; omega, q⟩
 ·cases h
theorem Jzm (G : Good ce k P S X) {x : Str} {f : Fn} (hx : P.fn x = some f) (hg : S.gl x = true) {args : List Expr} (ha : args.all Jx = true) {g : Expr -> E1} (hf : ∀ e, PEi ce X e (g e)) {p pos : Pos} :
  PEi ce X (.Call (.Name x p) args [] pos) (Jsq f args.length (aAll (args.map g))) := by
 obtain ⟨fa, fd, ps, hm, hk, D⟩ := G.pg.fn x f hx
 obtain ⟨gl, hdb, _⟩ := G.gl hg
 unfold Jsq
 cases hd : f.fill args.length with
 | none => exact Jc
 | some d =>
  obtain ⟨ds, hb, hl, q⟩ := Jrf D hd
  have hr : Room k X.A := G.room.mono (Nat.le_succ k)
  cases args with
  | nil => exact J2k D.ok hr gl hm hk hb q (by simpa using hl) hdb
  | cons a es =>
   have ha' := ha
   simp only [List.all_cons, Bool.and_eq_true] at ha'
   refine J4p D.ok hr gl hm hk hb q (Jpy ha hf) (fun σ h xs h' e => ?_) hdb (Jf ha'.1) (Jgx ha'.2)
   have := Jkn _ σ h xs h' e
   rw [List.length_map] at this
   rw [this]
   exact hl
theorem Jyg (G : Good ce k P S X) {x : Str} {f : Fn} (hx : P.cls x = some f) (hg : S.gl x = true) {args : List Expr} (ha : args.all Jx = true) {g : Expr -> E1} (hf : ∀ e, PEi ce X e (g e)) {p pos : Pos} :
  PEi ce X (.Call (.Name x p) args [] pos) (Jso x f args.length (aAll (args.map g))) := by
 obtain ⟨C, fa, fd, ps, hm, hC, M, D⟩ := G.pg.cls x f hx
 obtain ⟨gl, hdb, _⟩ := G.gl hg
 unfold Jso
 cases hd : f.fill (args.length + 1) with
 | none => exact Jc
 | some d =>
  obtain ⟨ds, hb, hl, q⟩ := Jrf D hd
  cases args with
  | nil => exact J15 M D.ok hC G.room gl hm hb q (by simp at hl; omega) hdb
  | cons a es =>
   have ha' := ha
   simp only [List.all_cons, Bool.and_eq_true] at ha'
   refine J3m M D.ok hC G.room gl hm hb q (Jpy ha hf) (fun σ h xs h' e => ?_) hdb (Jf ha'.1) (Jgx ha'.2)
   have := Jkn _ σ h xs h' e
   rw [List.length_map] at this
   omega
theorem Jv8 (G : Good ce k P S X) (m : Str) (n : Nat) : Jvq ce X m n (Jnq P m n) := by
 intro c f dvs h
 unfold Jnq at h
 cases hm : P.meth c m with
 | none => rw [hm] at h; cases h
 | some fn =>
  rw [hm] at h
  dsimp only at h
  cases hd : fn.fill (n + 1) with
  | none => rw [hd] at h; cases h
  | some d =>
   rw [hd] at h
   cases h
   obtain ⟨C, fa, fd, ps, hC, hcl, hM, D⟩ := G.pg.meth c m fn hm
   obtain ⟨ds, hb, hl, q⟩ := Jrf D hd
   exact ⟨C, fa, fd, k, ps, ds, hC, hcl, hM, D.ok, G.room.mono (Nat.le_succ k), hb, q, by omega⟩
theorem bm_ok {T : String} {m : Str} {n : Nat} {g : IV -> List IV -> IH -> Res IV} (h : bmOf T m n = some g) : ∃ id, PlainAttrs T /\ Slot T m id /\ typeOf (.builtin id) = pure (.type "method_descriptor") /\ MtI ce X T id g := by
 unfold bmOf at h
 split at h
 ·rename_i hT
  have hT' : T = "list" := beq_iff_eq.mp hT
  subst hT'
  split at h
  ·rename_i hm
   simp only [Bool.and_eq_true, beq_iff_eq] at hm
   obtain ⟨rfl, _⟩ := hm
   cases h
   exact ⟨_, PySem.F.plainAttrs_list, PySem.F.slot_list_append, PySem.F.type_list_append, Jyk⟩
  ·split at h
   ·rename_i hm
    simp only [Bool.and_eq_true, beq_iff_eq] at hm
    obtain ⟨rfl, _⟩ := hm
    cases h
    exact ⟨_, PySem.F.plainAttrs_list, PySem.F.slot_list_clear, PySem.F.type_list_clear, J1h⟩
   ·split at h
    ·rename_i hm
     simp only [Bool.and_eq_true, beq_iff_eq] at hm
     obtain ⟨rfl, _⟩ := hm
     cases h
     exact ⟨_, PySem.F.plainAttrs_list, PySem.F.slot_list_pop, PySem.F.type_list_pop, m_pop⟩
    ·split at h
     ·rename_i hm
      simp only [Bool.and_eq_true, beq_iff_eq] at hm
      obtain ⟨rfl, _⟩ := hm
      cases h
      exact ⟨_, PySem.F.plainAttrs_list, PySem.F.slot_list_extend, PySem.F.type_list_extend, Jy3⟩
     ·split at h
      ·rename_i hm
       simp only [Bool.and_eq_true, beq_iff_eq] at hm
       obtain ⟨rfl, _⟩ := hm
       cases h
       exact ⟨_, PySem.F.plainAttrs_list, PySem.F.slot_list_reverse, PySem.F.type_list_reverse, Ju1⟩
      ·split at h
       ·rename_i hm
        simp only [Bool.and_eq_true, beq_iff_eq] at hm
        obtain ⟨rfl, _⟩ := hm
        cases h
        exact ⟨_, PySem.F.plainAttrs_list, PySem.F.slot_list_index, PySem.F.type_list_index, J1p⟩
       ·cases h
 ·split at h
  ·rename_i hT
   have hT' : T = "str" := beq_iff_eq.mp hT
   subst hT'
   split at h
   ·rename_i hm
    simp only [Bool.and_eq_true, beq_iff_eq] at hm
    obtain ⟨rfl, _⟩ := hm
    cases h
    exact ⟨_, PySem.F.plainAttrs_str, PySem.F.slot_str_join, PySem.F.type_str_join, J42⟩
   ·cases h
  ·split at h
   ·rename_i hT
    have hT' : T = "dict" := beq_iff_eq.mp hT
    subst hT'
    split at h
    ·rename_i hm
     simp only [Bool.and_eq_true, beq_iff_eq] at hm
     obtain ⟨rfl, _⟩ := hm
     cases h
     exact ⟨_, PySem.F.plainAttrs_dict, PySem.F.slot_dict_get, PySem.F.type_dict_get, m_get⟩
    ·split at h
     ·rename_i hm
      simp only [Bool.and_eq_true, beq_iff_eq] at hm
      obtain ⟨rfl, _⟩ := hm
      cases h
      exact ⟨_, PySem.F.plainAttrs_dict, PySem.F.slot_dict_setdefault, PySem.F.type_dict_setdefault, Jzx⟩
     ·cases h
   ·cases h
theorem J5f {o : Expr} {m : Str} {mo : E1} {args : List Expr} {f : Expr -> E1} {ap pos : Pos} {T : String} {g : IV -> List IV -> IH -> Res IV} {n : Nat} (hg : bmOf T m n = some g) (ho : PEi ce X o mo) (hf : ∀ e, PEi ce X e (f e)) (ha : args.all Jx = true) (hb : Jfl o = true) (hl : (ap.endLine == pos.line) = true) (hn : args.length < 30) :
  PEi ce X (.Call (.Attribute o m ap) args [] pos) (eBm T g mo (aAll (args.map f))) := by
 obtain ⟨id, pa, sl, ty, mt⟩ := bm_ok (ce := ce) (X := X) hg
 cases args with
 | nil => exact i_bm0 pa sl ty mt ho (Jgw hb) hl
 | cons a es =>
  have ha' := ha
  simp only [List.all_cons, Bool.and_eq_true] at ha'
  exact i_bm pa sl ty mt ho (Jpy ha hf) (Jgw hb) (J04 ha hn) hl (Jf ha'.1) (Jgx ha'.2)
theorem J1l (G : Good ce k P S X) {o : Expr} {m : Str} {mo : E1} {args : List Expr} {f : Expr -> E1} {ap pos : Pos} (ho : PEi ce X o mo) (hf : ∀ e, PEi ce X e (f e)) (ha : args.all Jx = true) (hb : Jfl o = true) (hl : (ap.endLine == pos.line) = true) (hn : args.length < 30) :
  PEi ce X (.Call (.Attribute o m ap) args [] pos) (eDot P m args.length mo (aAll (args.map f))) := by
 refine px_pt fun σi h => ?_
 unfold eDot
 cases e : mo σi h with
 | exc n h1 => exact ⟨fun _ _ => .stuck, rfl, Jc⟩
 | stuck => exact ⟨fun _ _ => .stuck, rfl, Jc⟩
 | ok v h1 =>
  dsimp only
  split
  ·refine ⟨_, rfl, ?_⟩
   cases args with
   | nil => exact J2o ho (Jv8 G m 0) (Jqv hb ha hl hn)
   | cons a es =>
    have ha' := ha
    simp only [List.all_cons, Bool.and_eq_true] at ha'
    refine J5j ho (Jv8 G m (a :: es).length) (Jpy ha hf) (fun σ h xs h' e => ?_) (Jf ha'.1) (Jgx ha'.2) (Jqv hb ha hl hn)
    have := Jkn _ σ h xs h' e
    rwa [List.length_map] at this
  ·cases hg : bmOf (tyS v h1) m args.length with
   | none => exact ⟨fun _ _ => .stuck, rfl, Jc⟩
   | some g => exact ⟨_, rfl, J5f hg ho hf ha hb hl hn⟩
theorem J1x (G : Good ce k P S X) {a : Expr} {ma : E1} {y : Str} {p p2 pos : Pos} (ha : PEi ce X a ma) (hs : Jx a = true) (hg : S.gl "isinstance" = true) (hfr : P.free "isinstance" = true) (hy : S.gl y = true) :
  PEi ce X (.Call (.Name "isinstance" p) [a, .Name y p2] [] pos) (J0u (Jxy P y) ma) := by
 unfold J0u
 cases e : Jxy P y with
 | none => exact Jc
 | some ans =>
  obtain ⟨gy, ydb, yn⟩ := G.gl hy
  have fin : ∀ {c : Value}, ClsE X (.Name y p2) c -> IsOk ce X.K c ans -> PEi ce X (.Call (.Name "isinstance" p) [a, .Name y p2] [] pos) (eIsi ans ma) := fun hc O =>
   i_isi hc O ha (G.gl hg).1 (G.pg.free _ hfr) rfl (Jf hs) rfl rfl
  unfold Jxy at e
  cases hi : P.isa y with
  | some g =>
   rw [hi] at e
   cases e
   obtain ⟨c, hm, O⟩ := G.pg.isa y g hi
   exact fin (J12 gy hm ydb) O
  | none =>
   rw [hi] at e
   dsimp only at e
   split at e
   ·rename_i hf
    have hm := G.pg.free y hf
    split at e
    ·rename_i q; cases (beq_iff_eq.mp q); cases e; exact fin (Jlb gy hm rfl yn ydb) Jyu
    ·split at e
     ·rename_i q; cases (beq_iff_eq.mp q); cases e; exact fin (Jlb gy hm rfl yn ydb) Jvl
     ·split at e
      ·rename_i q; cases (beq_iff_eq.mp q); cases e; exact fin (Jlb gy hm rfl yn ydb) Jy7
      ·split at e
       ·rename_i q; cases (beq_iff_eq.mp q); cases e; exact fin (Jlb gy hm rfl yn ydb) Jxn
       ·split at e
        ·rename_i q; cases (beq_iff_eq.mp q); cases e; exact fin (Jlb gy hm rfl yn ydb) Jy0
        ·cases e
   ·cases e
theorem Jy4 (G : Good ce k P S X) {a : Expr} {ma : E1} {x : Str} {p pos : Pos} (ha : PEi ce X a ma) (hs : Jx a = true) (hg : S.gl x = true) (hfr : P.free x = true) (hx : Jxp x = true) :
  PEi ce X (.Call (.Name x p) [a] [] pos) (eCB (bltF x) (Ja ma aNil)) := by
 obtain ⟨gx, xdb, xn⟩ := G.gl hg
 have hm := G.pg.free x hfr
 have hh := G.room.hd
 have pa : PAi ce X [a] (Ja ma aNil) := Jg4 ha Jnp (Jf hs)
 unfold Jxp at hx
 simp only [Bool.or_eq_true, beq_iff_eq] at hx
 rcases hx with ((rfl | rfl) | rfl) | rfl
 ·exact Jji c_len gx hm rfl pa xn xdb (Jf hs) rfl
 ·exact Jji (c_all hh) gx hm rfl pa xn xdb (Jf hs) rfl
 ·exact Jji (c_sum hh) gx hm rfl pa xn xdb (Jf hs) rfl
 ·exact Jji Jyv gx hm rfl pa xn xdb (Jf hs) rfl
theorem Jyy (G : Good ce k P S X) {a : Expr} {ma : E1} {x : Str} {p pos : Pos} (ha : PEi ce X a ma) (hs : Jx a = true) (hg : S.gl x = true) (hfr : P.free x = true) (hx : Jwa x = true) :
  PEi ce X (.Call (.Name x p) [a] [] pos) (eCB (bltT x) (Ja ma aNil)) := by
 obtain ⟨gx, xdb, xn⟩ := G.gl hg
 have hm := G.pg.free x hfr
 have pa : PAi ce X [a] (Ja ma aNil) := Jg4 ha Jnp (Jf hs)
 unfold Jwa at hx
 simp only [Bool.or_eq_true, beq_iff_eq] at hx
 rcases hx with (rfl | rfl) | rfl
 ·exact Jru J3v gx hm rfl pa xn xdb (Jf hs) rfl
 ·exact Jru J2m gx hm rfl pa xn xdb (Jf hs) rfl
 ·exact Jru c_int gx hm rfl pa xn xdb (Jf hs) rfl
theorem Jwm (G : Good ce k P S X) {f : Expr -> E1} (hf : ∀ e, PEi ce X e (f e)) {x : Str} {args : List Expr} {p pos : Pos} (hg : S.gl x = true) (ha : args.all Jx = true) (hfr : P.free x = true) :
  PEi ce X (.Call (.Name x p) args [] pos) (Jnx P S x f args) := by
 unfold Jnx
 split
 ·rename_i a b
  simp only [List.all_cons, Bool.and_eq_true] at ha
  obtain ⟨gx, xdb, xn⟩ := G.gl hg
  have hm := G.pg.free x hfr
  have pa : PAi ce X [a, b] (Ja (f a) (Ja (f b) aNil)) := Jg4 (hf a) (Jg4 (hf b) Jnp (Jf ha.2.1)) (Jf ha.1)
  have h1 : ∀ pos, (backTo pos (starEach [b] X.env)).any (·.1) = false := fun pos => Jgx (by simp [ha.2.1])
  split
  ·rename_i hs
   cases (beq_iff_eq.mp hs)
   exact Jji (c_max G.calm) gx hm rfl pa xn xdb (Jf ha.1) (h1 _)
  ·split
   ·rename_i hs
    cases (beq_iff_eq.mp hs)
    exact Jji (c_min G.calm) gx hm rfl pa xn xdb (Jf ha.1) (h1 _)
   ·split
    ·rename_i y p2 _
     split
     ·rename_i hs
      simp only [Bool.and_eq_true, beq_iff_eq] at hs
      obtain ⟨rfl, hy⟩ := hs
      exact J1x G (hf a) ha.1 hg hfr hy
     ·exact Jc
    ·exact Jc
 ·rename_i a
  simp only [List.all_cons, Bool.and_eq_true] at ha
  split
  ·rename_i e he
   split at he
   ·rename_i hc
    simp only [Bool.and_eq_true, beq_iff_eq] at hc
    obtain ⟨⟨rfl, g2⟩, f2⟩ := hc
    unfold Jz2 at he
    split at he
    ·split at he
     ·rename_i hq
      simp only [Bool.and_eq_true, beq_iff_eq] at hq
      obtain ⟨rfl, ns⟩ := hq
      cases he
      exact Jyi G.room.hd (G.gl hg).1 (G.pg.free _ hfr) (G.gl g2).1 (G.pg.free _ f2) (Jg4 (hf e) Jnp (Jf ns)) (Jf ns)
     ·cases he
    ·cases he
   ·cases he
  ·split
   ·rename_i e he
    split at he
    ·rename_i hc
     simp only [Bool.and_eq_true, beq_iff_eq] at hc
     obtain ⟨⟨rfl, g2⟩, f2⟩ := hc
     unfold Jz3 at he
     split at he
     ·split at he
      ·rename_i hq
       simp only [Bool.and_eq_true, beq_iff_eq] at hq
       obtain ⟨rfl, ns⟩ := hq
       cases he
       exact Jvr G.room.hd (G.gl hg).1 (G.pg.free _ hfr) (G.gl g2).1 (G.pg.free _ f2) (Jg4 (hf e) Jnp (Jf ns)) (Jf ns)
      ·cases he
     ·cases he
    ·cases he
   ·split
    ·rename_i hb
     exact Jy4 G (hf a) ha.1 hg hfr hb
    ·split
     ·rename_i hb
      exact Jyy G (hf a) ha.1 hg hfr hb
     ·exact Jc
 ·exact Jc
theorem Jrg.of (G : Good ce k P S X) {y : Str} {sc : Scope} (h : Jrg S y sc = true) : LamSc X.N X.env.scope.names y (Jke sc) (jsOf S sc) sc := by
 rw [G.n, G.sc]
 simp only [Jrg, Bool.and_eq_true, beq_iff_eq, Bool.not_eq_true', decide_eq_true_eq, List.all_eq_true, Bool.or_eq_true, beq_eq_false_iff_ne] at h
 obtain ⟨⟨⟨⟨⟨⟨⟨h1, h2⟩, h3⟩, h4⟩, h5⟩, h6⟩, h7⟩, h8⟩ := h
 refine ⟨h1, h2, h3, h4, h5, fun z hz e => (h6 z hz).resolve_left fun q => q e, fun z e => PySem.mem_of_lookup e, fun i j z ej ez => ?_, by simp [jsOf], h8⟩
 unfold jsOf at ej
 rw [List.getElem?_map, ez] at ej
 cases ej
 exact h7 z (List.mem_of_getElem? ez)
theorem Good.lam (G : Good ce k P S X) (ho : S.own = true) {y : Str} {sc : Scope} (h : Jrg S y sc = true) (f : Addr) (cd : Value) (s : Shared) (H : Hp) : Good ce k P (S.lam y sc) (cxL X X.A.in1 (y :: Jke sc) S.q sc f cd s H) := by
 have L := Jrg.of G h
 exact ⟨rfl, rfl, L.nd, L.kind, rfl, (G.room3 ho).in1.deeper _, fun z => absurd z Bool.false_ne_true, G.pg, fun z => absurd z Bool.false_ne_true, fun z => absurd z Bool.false_ne_true⟩
theorem J3b (G : Good ce k P S X) {f : Sc -> Expr -> E1} (hf : ∀ S X e, Good ce k P S X -> PEi ce X e (f S e)) {x : Str} {args : List Expr} {kws : List Keyword} {p pos : Pos} : PEi ce X (.Call (.Name x p) args kws pos) (Jwn P S f x args kws) := by
 unfold Jwn
 split
 ·split
  ·rename_i hq
   simp only [Bool.and_eq_true, beq_iff_eq] at hq
   obtain ⟨⟨⟨⟨rfl, rfl⟩, g1⟩, f1⟩, ns⟩ := hq
   exact J4i G.room.hd (G.gl g1).1 (G.pg.free _ f1) (Jg4 (hf _ _ _ G) Jnp (Jf ns)) (hf _ _ _ G) (Jf ns)
  ·exact Jc
 ·split
  ·rename_i y j hy hj
   split
   ·rename_i hq
    simp only [Bool.and_eq_true, beq_iff_eq] at hq
    obtain ⟨⟨⟨⟨⟨⟨⟨rfl, rfl⟩, rfl⟩, g1⟩, f1⟩, ns⟩, ho⟩, ok⟩ := hq
    exact J3t (k := k + 1) (G.gl g1).1 (G.pg.free _ f1) (Jg4 (hf _ _ _ G) Jnp (Jf ns)) (hf _ _ _ G) (Jf ns) (G.room3 ho) (G.code ho).1 (G.code ho).2 (G.pg.blt _ _ hj) hy (Jrg.of G ok) fun f cd s' H' => hf _ _ _ (G.lam ho ok f cd s' H')
   ·exact Jc
  ·exact Jc
 ·exact Jc
theorem Jyl (ih : Snd ce k P n) : Snd ce k P (n + 1) := by
 refine ⟨fun S X e G => ?_, fun S X e G => ?_, fun S X e G => ?_, fun S X x args p pos G hg ha => ?_, fun S X tg e G => ?_, fun S X e G => ?_⟩
 ·have ihe := fun e => ih.e S X e G
  have hu := G.room.units
  cases e with
  | Constant c j p =>
   cases c with
   | int i => exact i_int
   | bool b => exact i_bl
   | none => exact i_non
   | str x => exact i_str
   | _ => exact Jc
  | Name x p =>
   show PEi ce X (.Name x p) (match S.vis x with | some i => eVar i | none => if S.gl x then (match P.con x with | some v => eC v | none => stE) else stE)
   cases hv : S.vis x with
   | some i =>
    obtain ⟨h1, h2, h3, h4⟩ := G.vis hv
    exact i_var i h1 h2 h3 h4
   | none =>
    dsimp only
    split
    ·rename_i hg
     obtain ⟨gx, xdb, _⟩ := G.gl hg
     cases hc : P.con x with
     | none => exact Jc
     | some v =>
      obtain ⟨u, y, hm, r, q⟩ := G.pg.con x v hc
      exact J3n gx hm r q xdb
    ·exact Jc
  | BinOp a op b p => exact i_bin (o_bin op) (ihe a) (ihe b)
  | UnaryOp op a p => exact i_un (o_un op) (ihe a)
  | BoolOp op vs p =>
   cases op with
   | And => exact Jz7 ihe vs
   | Or => exact J3o ihe vs
  | IfExp t a b p => exact J1q (ih.t S X t G) (ihe a) (ihe b)
  | Compare a ops cs p =>
   match ops, cs with
   | [o], [b] =>
    show PEi ce X _ (if behindInMarks o b then stE else eBin (cmpD o b) (ev P n S a) (ev P n S b))
    split
    ·exact Jc
    ·rename_i hb
     exact i_cmp (J0h hu o b) (ihe a) (ihe b) (Bool.eq_false_iff.mpr hb)
   | [o, o'], [b, c] =>
    show PEi ce X _ (if lastMarks [o, o'] [b, c] then stE else Jgd (cmpI o) (cmpI o') (ev P n S a) (ev P n S b) (ev P n S c))
    split
    ·exact Jc
    ·rename_i hb
     exact J11 (Jwt hu o) (Jwt hu o') (ihe a) (ihe b) (ihe c) (Bool.eq_false_iff.mpr hb)
   | [], _ => exact Jc
   | [_], [] => exact Jc
   | [_], _ :: _ :: _ => exact Jc
   | [_, _], [] => exact Jc
   | [_, _], [_] => exact Jc
   | [_, _], _ :: _ :: _ :: _ => exact Jc
   | _ :: _ :: _ :: _, _ => exact Jc
  | Tuple es j p =>
   show PEi ce X _ (if es.all Jx then eTup (aAll (es.map (ev P n S))) else stE)
   split
   ·rename_i hs
    exact i_tup (Jpy hs ihe)
   ·exact Jc
  | List es p =>
   show PEi ce X _ (if es.all Jx then eLst (aAll (es.map (ev P n S))) else stE)
   split
   ·rename_i hs
    exact i_lst (Jpy hs ihe)
   ·exact Jc
  | Dict ks vs p =>
   match ks, vs with
   | [some k], [v] => exact J5h (ihe k) (ihe v)
   | [], [] => exact J5m
   | [], _ :: _ => exact Jc
   | [none], _ => exact Jc
   | [some _], [] => exact Jc
   | [some _], _ :: _ :: _ => exact Jc
   | some _ :: _ :: _, _ => exact Jc
   | none :: _ :: _, _ => exact Jc
  | Subscript a i p =>
   cases i with
   | Slice lo hi st q =>
    cases st with
    | none => exact J1t x_sl (ihe a) (ih.o S X lo G) (ih.o S X hi G)
    | some st => exact Jc
   | _ => exact i_ix (x_ixF a) (ihe a) (ihe _) (Jya rfl)
  | Attribute o f p =>
   show PEi ce X _ (if Jfl o && P.fld f then eFld f (ev P n S o) else stE)
   split
   ·rename_i hs
    simp only [Bool.and_eq_true] at hs
    exact i_fld (ihe o) (G.pg.fld f hs.2) (Jgw hs.1)
   ·exact Jc
  | Call f args kws p =>
   cases kws with
   | cons kw kws =>
    cases f with
    | Name x q => exact J3b G fun S X e G => ih.e S X e G
    | _ => exact Jc
   | nil =>
    cases f with
    | Name x q =>
     show PEi ce X _ (if S.gl x && args.all Jx then Jv5 P n S x args else stE)
     split
     ·rename_i hs
      simp only [Bool.and_eq_true] at hs
      exact ih.c S X x args q p G hs.1 hs.2
     ·exact Jc
    | Attribute o m ap =>
     show PEi ce X _ (if args.all Jx && Jfl o && (ap.endLine == p.line) && decide (args.length < 30) then eDot P m args.length (ev P n S o) (aAll (args.map (ev P n S))) else stE)
     split
     ·rename_i hs
      simp only [Bool.and_eq_true, decide_eq_true_eq] at hs
      exact J1l G (ihe o) ihe hs.1.1.1 hs.1.1.2 hs.1.2 hs.2
     ·exact Jc
    | _ => exact Jc
  | ListComp elt gens sc p =>
   match gens with
   | [⟨tg, iter, ifs, as⟩] =>
    show PEi ce X _ (if as = 0 /\ Jt5 iter = true /\ Je4 S.N (Jny sc) (Jke sc) (jsOf S sc) S.fake sc = true then
     Jw2 ifs (evT P n (S.comp sc)) (fun mt => Jaj (evI P n S tg iter) (Jny sc).length (jsOf S sc) (tgt P n (S.comp sc) tg) mt (ev P n (S.comp sc) elt)) else stE)
    split
    ·rename_i hs
     obtain ⟨rfl, hi, ok⟩ := hs
     have Gc := G.comp ok
     have ok' := ok
     rw [<- Jpz G] at ok'
     match ifs with
     | [] => exact J0n G.calm (ih.i S X tg iter G) (fun C s H fp => ih.g _ _ tg (Gc C s H fp)) (fun C s H fp => J0m) (fun C s H fp => ih.e _ _ elt (Gc C s H fp)) ok' G.n rfl (Jbz hi)
     | [c] => exact J0n G.calm (ih.i S X tg iter G) (fun C s H fp => ih.g _ _ tg (Gc C s H fp)) (fun C s H fp => J0s (ih.t _ _ c (Gc C s H fp))) (fun C s H fp => ih.e _ _ elt (Gc C s H fp)) ok' G.n rfl (Jbz hi)
     | _ :: _ :: _ => exact Jc
    ·exact Jc
   | [] => exact Jc
   | ⟨_, _, _, _⟩ :: _ :: _ => exact Jc
  | _ => exact Jc
 ·have ihe := fun e => ih.e S X e G
  have hu := G.room.units
  cases e with
  | UnaryOp op a p =>
   cases op with
   | Not => exact t_not (ih.t S X a G)
   | _ => exact J34 Jqh (ihe _)
  | BoolOp op vs p =>
   cases op with
   | And => exact (J0t (fun e => ih.t S X e G) vs).t
   | Or => exact (J3l (fun e => ih.t S X e G) vs).t
  | IfExp t a b p => exact Jc
  | Compare a ops cs p =>
   match ops, cs with
   | [o], [b] =>
    show PTi ce X _ (if behindInMarks o b then stT else tOfB asB (eBin (cmpD o b) (ev P n S a) (ev P n S b)))
    split
    ·exact Jc
    ·rename_i hb
     exact t_cmp (J0h hu o b) (ihe a) (ihe b) (Bool.eq_false_iff.mpr hb)
   | [o, o'], [b, c] =>
    show PTi ce X _ (if lastMarks [o, o'] [b, c] then stT else tOfB asB (Jgd (cmpI o) (cmpI o') (ev P n S a) (ev P n S b) (ev P n S c)))
    split
    ·exact Jc
    ·rename_i hb
     exact J2w (Jwt hu o) (Jwt hu o') (ihe a) (ihe b) (ihe c) (Bool.eq_false_iff.mpr hb)
   | [], _ => exact Jc
   | [_], [] => exact Jc
   | [_], _ :: _ :: _ => exact Jc
   | [_, _], [] => exact Jc
   | [_, _], [_] => exact Jc
   | [_, _], _ :: _ :: _ :: _ => exact Jc
   | _ :: _ :: _ :: _, _ => exact Jc
  | _ => exact J34 Jqh (ihe _)
 ·cases e with
  | none => exact J4u
  | some e => exact J4b (ih.e S X e G)
 ·have ihe := fun e => ih.e S X e G
  show PEi ce X _ (match P.fn x with
  | some f => Jsq f args.length (aAll (args.map (ev P n S)))
  | none => match P.cls x with
   | some f => Jso x f args.length (aAll (args.map (ev P n S)))
   | none => if P.free x then Jnx P S x (ev P n S) args else stE)
  cases hx : P.fn x with
  | some f => exact Jzm G hx hg ha ihe
  | none =>
   dsimp only
   cases hc : P.cls x with
   | some f => exact Jyg G hc hg ha ihe
   | none =>
    dsimp only
    split
    ·rename_i hfr
     exact Jwm G ihe hg ha hfr
    ·exact Jc
 ·have ihe := fun e => ih.e S X e G
  cases e with
  | Call f args kws p =>
   cases kws with
   | cons _ _ => cases f <;> exact Jzu (ihe _)
   | nil =>
    cases f with
    | Name x q =>
     show PIi ce X tg _ (if S.gl x && P.free x && args.all Jx && (x == "range") then J21 args.length (aAll (args.map (ev P n S)))
      else if S.gl x && P.free x && args.all Jx && (x == "enumerate") then (match tg, args with
       | .Tuple .., [a] => iRg Jfi (Ja (ev P n S a) aNil)
       | _, _ => stI)
      else iAny (ev P n S (.Call (.Name x q) args [] p)))
     split
     ·rename_i hs
      simp only [Bool.and_eq_true, beq_iff_eq] at hs
      obtain ⟨⟨⟨hg, hf⟩, ha⟩, rfl⟩ := hs
      obtain ⟨gx, _, _⟩ := G.gl hg
      have hm := G.pg.free _ hf
      have pa := Jpy ha ihe
      match args, ha, pa with
      | [], _, _ => exact Jkp
      | [a], ha, pa =>
       simp only [List.all_cons, Bool.and_eq_true] at ha
       exact Jzq gx hm pa (Jf ha.1)
      | [a, b], ha, pa =>
       simp only [List.all_cons, Bool.and_eq_true] at ha
       exact Jzw gx hm pa (by rw [Jf ha.1, Jf ha.2.1]; rfl) (Jf ha.2.1)
      | _ :: _ :: _ :: _, _, _ => exact Jkp
     ·split
      ·rename_i hs
       simp only [Bool.and_eq_true, beq_iff_eq] at hs
       obtain ⟨⟨⟨hg, hf⟩, ha⟩, rfl⟩ := hs
       obtain ⟨gx, _, _⟩ := G.gl hg
       have hm := G.pg.free _ hf
       split
       ·simp only [List.all_cons, Bool.and_eq_true] at ha
        exact J1w gx hm (Jg4 (ihe _) Jnp (Jf ha.1)) (Jf ha.1)
       ·exact Jkp
      ·exact Jzu (ihe _)
    | _ => exact Jzu (ihe _)
  | _ => exact Jzu (ihe _)
 ·cases e with
  | Name x p =>
   show PGi ce X _ (match S.sto x with | some i => gNm i | none => stG)
   cases hv : S.sto x with
   | none => exact Jhv
   | some i =>
    obtain ⟨h1, h2, h3⟩ := G.sto hv
    exact g_nm G.nodup h1 h2 h3
  | Tuple es j p =>
   show PGi ce X _ (if es.all Jx then gTp es.length (gAll (es.map (tgt P n S))) else stG)
   split
   ·rename_i hs
    exact g_tup G.calm (J0r hs fun e => ih.g S X e G) (J0j hs) (Jv7 hs)
   ·exact Jhv
  | Subscript o i p =>
   show PGi ce X _ (if Jn8 i then gSbF o (ev P n S o) (ev P n S i) else stG)
   split
   ·rename_i hs
    unfold gSbF
    split
    ·refine J27 (ih.e S X o G) (ih.e S X i G) fun v => ?_
     cases i <;> first | rfl | cases hs
    ·refine g_sub (ih.e S X o G) (ih.e S X i G) fun v => ?_
     cases i <;> first | rfl | cases hs
   ·exact Jhv
  | _ => exact Jhv
theorem Joa (ce : Str -> Option Addr) (k : Nat) (P : Pg) : ∀ n, Snd ce k P n
 | 0 => Jyr
 | n + 1 => Jyl (Joa ce k P n)
end
end L4
namespace L4
open PySem PySem.Spec PyProof.Rows L2 L3
section
variable {ce : Str -> Option Addr} {X : Cx} {pos : Pos}
theorem J1s {c : Expr} {body : List Stmt} {mt : T1} {mb : S1} (hc : PTi ce X c mt) (hb : PS2 ce X body mb) : PS1 ce X (.While c body [] pos) (Jw8 mt mb) := by
 intro pins s σ H ι σi h Q E N K
 unfold Jw8 at K
 generalize J47 = m0 at K
 refine wpAny_While (codeAny_whileLoop (fun n s' => ∃ ιk σk hk σ' H', Now ce X pins ιk σk hk σ' H' s' /\ Nxt ι H ιk H' /\ Jdr ce X pins ιk H' (Jk5 mt mb n σk hk) Q E) ?_ m0 ⟨ι, σi, h, σ, H, N, .refl, K⟩)
 rintro n s1 ⟨ι1, σ1i, h1, σ1, H1, N1, n1, K1⟩
 cases n with
 | zero => exact Zf K1
 | succ n =>
  unfold Jk5 at K1
  refine nof (hc pins s1 σ1 H1 ι1 σ1i h1 _ (fun _ _ => False) N1 ?_)
  cases et : mt σ1i h1 with
  | exc m h2 => rw [et] at K1; exact Zf K1
  | stuck => rw [et] at K1; exact Zf K1
  | ok b h2 =>
   rw [et] at K1
   intro b' s2 H2 ι2 N2 n2 r2
   have r' : b' = b := r2
   subst r'
   dsimp only at K1
   cases b' with
   | false => exact wpAny_execs_nil (K1 s2 σ1 H2 ι2 N2 n2)
   | true =>
    rw [if_pos rfl]
    rw [if_pos rfl] at K1
    refine nof (hb pins s2 σ1 H2 ι2 σ1i h2 _ (fun _ _ => False) N2 ?_)
    cases eb : mb σ1i h2 with
    | next σ3 h3 =>
     rw [eb] at K1
     exact fun s3 σ3' H3 ι3 N3 n3 => ⟨n, Nat.lt_succ_self n, ι3, σ3, h3, σ3', H3, N3, (n1.trans n2).trans n3, Jdr.mono (r := Jk5 mt mb n σ3 h3) K1 (n2.trans n3)⟩
    | cont σ3 h3 =>
     rw [eb] at K1
     exact fun s3 σ3' H3 ι3 N3 n3 => ⟨n, Nat.lt_succ_self n, ι3, σ3, h3, σ3', H3, N3, (n1.trans n2).trans n3, Jdr.mono (r := Jk5 mt mb n σ3 h3) K1 (n2.trans n3)⟩
    | brk σ3 h3 =>
     rw [eb] at K1
     exact fun s3 σ3' H3 ι3 N3 n3 => K1 s3 σ3' H3 ι3 N3 (n2.trans n3)
    | ret v h3 =>
     rw [eb] at K1
     exact fun u s3 σ3i σ3' H3 ι3 N3 n3 r => K1 u s3 σ3i σ3' H3 ι3 N3 (n2.trans n3) r
    | exc m σ3 h3 => rw [eb] at K1; exact Zf K1
    | stuck => rw [eb] at K1; exact Zf K1
end
end L4
namespace L4
open PySem PySem.Spec PyProof.Rows L2 L3
section
variable {ce : Str -> Option Addr} {k : Nat} {P : Pg} {n : Nat} {S : Sc} {X : Cx}
theorem Jmz {f : Stmt -> S1} (hf : ∀ s, PS1 ce X s (f s)) : ∀ (l : List Stmt), PS2 ce X l (sAll (l.map f))
 | [] => J28
 | [a] => J5d (hf a)
 | a :: b :: r => J2j (hf a) (Jmz hf (b :: r))
theorem J18 {tg : Expr} {env : Env} (h : Jx tg = true) : (assignEach [tg] env).map (·.2) = [assign tg env] := by
 cases tg <;> first | rfl | cases h
theorem Jx4 (G : Good ce k P S X) (i : Nat) {e : Expr} {x : Str} {p q : Pos} (h : isLC e = true) (h1 : X.N[i]? = some x) (h2 : L2.Loc X.env.scope x) (h3 : X.fn x = true ∨ X.env.scope.names.lookup x = some .local) :
  PS1 ce X (.Assign [.Name x q] e p) (sSet i (ev P n S e)) := by
 cases e with
 | ListComp elt gens sc cp =>
  cases hb : (X.env.blockKind == .function && X.env.kindOf x == some .local && q.line == cp.line && !(sc.names.any fun (n, k) => n == x && (k == .local || k == .cell))) with
  | false =>
   refine J3h G.nodup ((Joa ce k P n).e S X _ G) h1 h2 ?_ h3
   show (pure (X.env.blockKind == .function && X.env.kindOf x == some .local && q.line == cp.line && !(sc.names.any fun (n, k) => n == x && (k == .local || k == .cell))) : Sem Bool) = pure false
   rw [hb]
  | true =>
   have hsw : swapsWith (.ListComp elt gens sc cp) (some (.Name x q)) p.line X.env = pure true := by
    show (pure (X.env.blockKind == .function && X.env.kindOf x == some .local && q.line == cp.line && !(sc.names.any fun (n, k) => n == x && (k == .local || k == .cell))) : Sem Bool) = pure true
    rw [hb]
   have dead : ∀ m : E1, (∀ σ h, m σ h = .stuck) -> PS1 ce X (.Assign [.Name x q] (.ListComp elt gens sc cp) p) (sSet i m) := fun m hm => by
    intro pins s σ H ι σi h Q E N K
    unfold sSet at K
    rw [hm] at K
    exact Zf K
   cases n with
   | zero => exact dead _ fun _ _ => rfl
   | succ n =>
    have ih := Joa ce k P n
    match gens, hsw with
    | [⟨tg, iter, ifs, as⟩], hsw =>
     show PS1 ce X _ (sSet i (if as = 0 /\ Jt5 iter = true /\ Je4 S.N (Jny sc) (Jke sc) (jsOf S sc) S.fake sc = true then
      Jw2 ifs (evT P n (S.comp sc)) (fun mt => Jaj (evI P n S tg iter) (Jny sc).length (jsOf S sc) (tgt P n (S.comp sc) tg) mt (ev P n (S.comp sc) elt)) else stE))
     split
     ·rename_i hs
      obtain ⟨rfl, hi, ok⟩ := hs
      have Gc := G.comp ok
      have ok' := ok
      rw [<- Jpz G] at ok'
      match ifs, hsw with
      | [], hsw => exact J0c G.calm (ih.i S X tg iter G) (fun C s H fp => ih.g _ _ tg (Gc C s H fp)) (fun C s H fp => J0m) (fun C s H fp => ih.e _ _ elt (Gc C s H fp)) ok' G.n rfl (Jbz hi) G.nodup h1 h2 h3 hsw
      | [c], hsw => exact J0c G.calm (ih.i S X tg iter G) (fun C s H fp => ih.g _ _ tg (Gc C s H fp)) (fun C s H fp => J0s (ih.t _ _ c (Gc C s H fp))) (fun C s H fp => ih.e _ _ elt (Gc C s H fp)) ok' G.n rfl (Jbz hi) G.nodup h1 h2 h3 hsw
      | _ :: _ :: _, _ => exact dead _ fun _ _ => rfl
     ·exact dead _ fun _ _ => rfl
    | [], _ => exact dead _ fun _ _ => rfl
    | ⟨_, _, _, _⟩ :: _ :: _, _ => exact dead _ fun _ _ => rfl
 | _ => cases h
theorem Jsp (ce : Str -> Option Addr) (k : Nat) (P : Pg) : ∀ (n : Nat) (S : Sc) (X : Cx) (st : Stmt), Good ce k P S X -> PS1 ce X st (ex P n S st)
 | 0, _, _, _, _ => Jbb
 | n + 1, S, X, st, G => by
  have ih := fun st => Jsp ce k P n S X st G
  have E := Joa ce k P n
  have ihe := fun e => E.e S X e G
  cases st with
  | Pass p => exact J4w
  | Break p => exact J1e
  | Continue p => exact J45
  | Expr e p =>
   show PS1 ce X _ (if Ji9 e then Jmi (ev P n S e) else stS)
   split
   ·rename_i h
    exact J4y (ihe e) (Jgv h)
   ·exact Jbb
  | Return v p =>
   cases v with
   | none => exact J3f
   | some e => exact s_ret (ihe e)
  | If c a b p => exact s_if (E.t S X c G) (Jmz ih a) (Jmz ih b)
  | While c a o p =>
   cases o with
   | nil => exact J1s (E.t S X c G) (Jmz ih a)
   | cons _ _ => exact Jbb
  | For tg it a o p =>
   cases o with
   | nil =>
    show PS1 ce X _ (if Jt5 it then sFor (evI P n S tg it) (tgt P n S tg) (sAll (a.map (ex P n S))) else stS)
    split
    ·rename_i h
     exact s_for G.calm (E.i S X tg it G) (E.g S X tg G) (Jmz ih a) (Jbz h)
    ·exact Jbb
   | cons _ _ => exact Jbb
  | Assign tgs e p =>
   match tgs with
   | [] => exact Jbb
   | a :: _ :: _ => cases a <;> exact Jbb
   | [tg] =>
    have gen : PS1 ce X (.Assign [tg] e p) (if Ji9 e && ((Jzt tg && J2i e) || Jyp tg) then sAsg (ev P n S e) (tgt P n S tg) else stS) := by
     split
     ·rename_i h
      simp only [Bool.and_eq_true, Bool.or_eq_true] at h
      have hst : Jx tg = true := by
       rcases h.2 with q | q
       ·cases tg <;> first | rfl | (simp [Jzt] at q)
       ·cases tg <;> first | rfl | (simp [Jyp] at q)
      refine s_asg (ihe e) (E.g S X tg G) (Jgv h.1) ?_ (J18 hst)
      rcases h.2 with q | q
      ·cases tg with
       | Tuple es j pp =>
        have q2 := q.2
        cases e <;> first | rfl | (simp [J2i] at q2)
       | _ => simp [Jzt] at q
      ·cases tg with
       | Subscript => cases e <;> rfl
       | _ => simp [Jyp] at q
     ·exact Jbb
    cases tg with
    | Name x q =>
     show PS1 ce X _ (if Ji9 e || isLC e then (match S.sto x with | some i => sSet i (ev P n S e) | none => stS) else stS)
     split
     ·rename_i h
      cases hv : S.sto x with
      | none => exact Jbb
      | some i =>
       obtain ⟨h1, h2, h3⟩ := G.sto hv
       rcases Bool.or_eq_true _ _ ▸ h with h | h
       ·exact J3h G.nodup (ihe e) h1 h2 (Jgv h) h3
       ·exact Jx4 G i h h1 h2 h3
     ·exact Jbb
    | Attribute o f q =>
     show PS1 ce X _ (if Ji9 e && P.fld f then Jkc f (ev P n S o) (ev P n S e) else stS)
     split
     ·rename_i h
      simp only [Bool.and_eq_true] at h
      exact s_fld (ihe o) (ihe e) (G.pg.fld f h.2) (Jgv h.1)
     ·exact Jbb
    | _ => exact gen
  | _ => exact Jbb
end
structure D4 where
 st : Stmt
 qual : Str
 ps : List Str
 N : List Str
 dvs : List IV
noncomputable def D4.sc (d : D4) : Sc := ⟨d.N, (Jb d.st).names, true, d.qual⟩
structure Tab where
 fns : List (Str × D4)
 clss : List (Str × D4)
 meths : List (Str × List (Str × D4))
 cons : List (Str × IV)
 isas : List (Str × List Str)
 flds : List Str
 frees : List Str
 tabs : List Str := []
noncomputable def memS (x : Str) : List Str -> Bool
 | [] => false
 | y :: r => y == x || memS x r
noncomputable def Jmd {α : Type} (x : Str) : List (Str × α) -> Option α
 | [] => none
 | (y, a) :: r => if y == x then some a else Jmd x r
noncomputable def mkPg (T : Tab) (r : D4 -> List IV -> IH -> Res IV) : Pg where
 fn := fun x => (Jmd x T.fns).map fun d => ⟨d.ps.length, d.dvs, r d⟩
 cls := fun x => (Jmd x T.clss).map fun d => ⟨d.ps.length, d.dvs, r d⟩
 meth := fun c m => ((Jmd c T.meths).bind (Jmd m)).map fun d => ⟨d.ps.length, d.dvs, r d⟩
 con := fun x => Jmd x T.cons
 isa := fun x => (Jmd x T.isas).map fun l c => memS c l
 fld := fun x => memS x T.flds
 free := fun x => memS x T.frees
 tabs := fun q => ixOf q T.tabs
noncomputable def run (T : Tab) : Nat -> D4 -> List IV -> IH -> Res IV
 | 0, _ => fun _ _ => .stuck
 | k + 1, d => fnI d.N.length (sAll ((Jg d.st).map (ex (mkPg T (run T k)) 40 d.sc)))
theorem Jax {α : Type} {x : Str} {a : α} : ∀ {l : List (Str × α)}, Jmd x l = some a -> (x, a) ∈ l
 | [], h => by cases h
 | (y, b) :: r, h => by
  unfold Jmd at h
  split at h
  ·rename_i e
   cases h
   rw [beq_iff_eq.mp e]
   exact List.mem_cons_self
  ·exact List.mem_cons_of_mem _ (Jax h)
theorem Joj {x : Str} : ∀ {l : List Str}, memS x l = true -> x ∈ l
 | [], h => by cases h
 | y :: r, h => by
  unfold memS at h
  rcases Bool.or_eq_true _ _ ▸ h with e | e
  ·rw [beq_iff_eq.mp e]
   exact List.mem_cons_self
  ·exact List.mem_cons_of_mem _ (Joj e)
structure DefOk (K : W.Frag) (x : Str) (d : D4) (fa : Addr) (fd : FuncData) : Prop where
 fun_ : ∃ dV, FunD K x d.qual d.st fa fd dV
 sc : FnScope d.N d.ps (Jb d.st)
 dv : ∀ j, j <= d.dvs.length -> ∃ ds, Jhh K fd d.ps ds /\ ds.length = d.dvs.length - j /\ ∃ vs, Vals vs ds /\ ∀ ι H, RVs K ι H (d.dvs.drop j) vs
structure TabOk (ce : Str -> Option Addr) (T : Tab) (K : W.Frag) (mg : Str -> Option Value) : Prop where
 fn : ∀ x d, (x, d) ∈ T.fns -> ∃ fa fd, mg x = some (.ref fa) /\ DefOk K x d fa fd
 cls : ∀ x d, (x, d) ∈ T.clss -> ∃ C fa fd, mg x = some (.ref C) /\ ce x = some C /\ Mk K C fa /\ DefOk K "__init__" d fa fd
 meth : ∀ c l m d, (c, l) ∈ T.meths -> (m, d) ∈ l -> ∃ C fa fd, ce c = some C /\ Cls K C /\ Meth K C m fa /\ DefOk K m d fa fd
 con : ∀ x v, (x, v) ∈ T.cons -> ∃ u y, mg x = some u /\ RelV y u /\ ∀ ι H, RV K ι H v y
 isa : ∀ D l, (D, l) ∈ T.isas -> ∃ c, mg D = some c /\ IsOk ce K c fun t => match t with | .ins c => some (memS c l) | _ => some false
 fld : ∀ f, f ∈ T.flds -> Jxv ce K f
 free : ∀ x, x ∈ T.frees -> mg x = none
section
variable {ce : Str -> Option Addr} {T : Tab} {prog : Program} {w : World} {K : W.Frag} {mg : Str -> Option Value} {base : Heap}
theorem Jtk {k : Nat} {fa : Addr} {fd : FuncData} {ps : List Str} : FnOk prog w K mg base CX0 k fa fd ps (spI ce K ps fun _ _ => .stuck) :=
 ⟨fun _ _ _ _ h => h.1, fun _ _ _ _ _ _ _ _ _ _ _ _ _ h => by obtain ⟨_, _, _, _, _, _, z⟩ := h; exact z.elim⟩
theorem pg_of (O : TabOk ce T K mg) (B : T.tabs ≠ [] -> Jlu mg base) (k : Nat) (hD : ∀ x d fa fd, DefOk K x d fa fd -> FnD ce prog w K mg base (4 * k) ⟨d.ps.length, d.dvs, run T k d⟩ fa fd d.ps) : PgOk ce (4 * k) (mkPg T (run T k)) prog w K mg base := by
 refine ⟨fun x f h => ?_, fun x f h => ?_, fun c m f h => ?_, fun x v h => ?_, fun D g h => ?_, fun f h => ?_, fun x h => ?_, fun q j h => B fun e => ?_⟩
 ·obtain ⟨d, hd, rfl⟩ := Option.map_eq_some_iff.mp h
  obtain ⟨fa, fd, hm, ok⟩ := O.fn x d (Jax hd)
  obtain ⟨dV, F⟩ := ok.fun_
  exact ⟨fa, fd, d.ps, hm, F.kp, hD x d fa fd ok⟩
 ·obtain ⟨d, hd, rfl⟩ := Option.map_eq_some_iff.mp h
  obtain ⟨C, fa, fd, hm, hC, M, ok⟩ := O.cls x d (Jax hd)
  exact ⟨C, fa, fd, d.ps, hm, hC, M, hD _ d fa fd ok⟩
 ·obtain ⟨d, hd, rfl⟩ := Option.map_eq_some_iff.mp h
  obtain ⟨l, hl, hd⟩ := Option.bind_eq_some_iff.mp hd
  obtain ⟨C, fa, fd, hC, cl, me, ok⟩ := O.meth c l m d (Jax hl) (Jax hd)
  exact ⟨C, fa, fd, d.ps, hC, cl, me, hD m d fa fd ok⟩
 ·exact O.con x v (Jax h)
 ·obtain ⟨l, hl, rfl⟩ := Option.map_eq_some_iff.mp h
  exact O.isa D l (Jax hl)
 ·exact O.fld f (Joj h)
 ·exact O.free x (Joj h)
 ·have h' : ixOf q T.tabs = some j := h
  rw [e] at h'
  cases h'
theorem J0o (O : TabOk ce T K mg) (B : T.tabs ≠ [] -> Jlu mg base) : ∀ k x d fa fd, DefOk K x d fa fd -> FnD ce prog w K mg base (4 * k) ⟨d.ps.length, d.dvs, run T k d⟩ fa fd d.ps
 | 0, x, d, fa, fd, ok => ⟨rfl, Jtk, ok.dv⟩
 | k + 1, x, d, fa, fd, ok => by
  refine ⟨rfl, ?_, ok.dv⟩
  obtain ⟨dV, F⟩ := ok.fun_
  show FnOk prog w K mg base CX0 (4 * k + 3 + 1) fa fd d.ps (spI ce K d.ps (run T (k + 1) d))
  refine F.fn (m := sAll ((Jg d.st).map (ex (mkPg T (run T k)) 40 d.sc))) ok.sc fun cdv A outer s H E hcd hr => ?_
  refine Jmz (fun st => Jsp ce (4 * k) (mkPg T (run T k)) 40 d.sc _ st ?_) _
  exact ⟨rfl, rfl, ok.sc.nd, ok.sc.kind, rfl, hr.mono (by omega), fun _ _ => rfl, pg_of O B k (J0o O B k), fun _ => ⟨hcd, rfl⟩, fun _ => hr⟩
end
end L4
namespace L4
open PySem PySem.Spec PyProof.Rows L2 L3
inductive All {α : Type} (p : α -> Prop) : List α -> Prop
 | nil : All p []
 | cons {a : α} {l : List α} : p a -> All p l -> All p (a :: l)
theorem All.mem {α : Type} {p : α -> Prop} : ∀ {l : List α} {a : α}, All p l -> a ∈ l -> p a
 | _, _, .nil, h => by cases h
 | _, _, .cons h r, m => by
  rcases List.mem_cons.mp m with rfl | m
  ·exact h
  ·exact r.mem m
noncomputable def J0a (l : List Str) : Ty -> Option Bool := fun t => match t with | .ins c => some (memS c l) | _ => some false
section
variable {T : Tab} {K : W.Frag} {mg : Str -> Option Value}
noncomputable def ceOf (ces : List (Str × Addr)) : Str -> Option Addr := fun c => Jmd c ces
theorem J4s (ces : List (Str × Addr)) (fn : All (fun p : Str × D4 => ∃ fa fd, mg p.1 = some (.ref fa) /\ DefOk K p.1 p.2 fa fd) T.fns)
  (cls : All (fun p : Str × D4 => ∃ C fa fd, mg p.1 = some (.ref C) /\ ceOf ces p.1 = some C /\ Mk K C fa /\ DefOk K "__init__" p.2 fa fd) T.clss)
  (meth : All (fun q : Str × List (Str × D4) => ∃ C, ceOf ces q.1 = some C /\ All (fun p : Str × D4 => ∃ fa fd, Meth K C p.1 fa /\ DefOk K p.1 p.2 fa fd) q.2) T.meths)
  (con : All (fun p : Str × IV => ∃ u y, mg p.1 = some u /\ RelV y u /\ ∀ ι H, RV K ι H p.2 y) T.cons)
  (cl : All (fun p : Str × Addr => ClsI K p.2 /\ All (fun f => Jh2 K p.2 f) T.flds) ces)
  (isa : All (fun q : Str × List Str => ∃ D, mg q.1 = some (.ref D) /\ W.kitOne K (.type "NoneType") (.ref D) = some false /\ W.kitOne K (.type "bool") (.ref D) = some false /\ W.kitOne K (.type "int") (.ref D) = some false /\ W.kitOne K (.type "str") (.ref D) = some false /\
   W.kitOne K (.type "list") (.ref D) = some false /\ W.kitOne K (.type "tuple") (.ref D) = some false /\ W.kitOne K (.type "dict") (.ref D) = some false /\ All (fun p : Str × Addr => W.kitOne K (.ref p.2) (.ref D) = some (memS p.1 q.2)) ces) T.isas)
  (free : All (fun x => mg x = none) T.frees) : TabOk (ceOf ces) T K mg := by
 refine ⟨fun x d h => fn.mem h, fun x d h => cls.mem h, fun c l m d hc hm => ?_, fun x v h => con.mem h, fun D l h => ?_, fun f hf => ?_, fun x h => free.mem h⟩
 ·obtain ⟨C, hC, hl⟩ := meth.mem hc
  obtain ⟨fa, fd, me, ok⟩ := hl.mem hm
  exact ⟨C, fa, fd, hC, (cl.mem (Jax hC)).1.cl, me, ok⟩
 ·obtain ⟨C, hC, h1, h2, h3, h4, h5, h6, h7, h8⟩ := isa.mem h
  refine ⟨_, hC, ⟨fun b e => ?_, fun b e => ?_, fun b e => ?_, fun b e => ?_, fun b e => ?_, fun b e => ?_, fun b e => ?_, fun k C' b e hk => ?_⟩⟩
  ·cases e; exact h1
  ·cases e; exact h2
  ·cases e; exact h3
  ·cases e; exact h4
  ·cases e; exact h5
  ·cases e; exact h6
  ·cases e; exact h7
  ·cases e
   exact ⟨(cl.mem (Jax hk)).1, h8.mem (Jax hk)⟩
 ·intro c C e
  obtain ⟨h1, h2⟩ := cl.mem (Jax e)
  exact ⟨h1.cl, h2.mem hf⟩
theorem len0 {α : Type} {P : List α -> Prop} (F0 : P []) : ∀ us : List α, us.length = 0 -> P us
 | [], _ => F0
theorem len1 {α : Type} {P : List α -> Prop} (F0 : ∀ a, P [a]) : ∀ us : List α, us.length = 1 -> P us
 | [a], _ => F0 a
theorem len2 {α : Type} {P : List α -> Prop} (F0 : ∀ a b, P [a, b]) : ∀ us : List α, us.length = 2 -> P us
 | [a, b], _ => F0 a b
theorem len3 {α : Type} {P : List α -> Prop} (F0 : ∀ a b c, P [a, b, c]) : ∀ us : List α, us.length = 3 -> P us
 | [a, b, c], _ => F0 a b c
theorem len4 {α : Type} {P : List α -> Prop} (F0 : ∀ a b c d, P [a, b, c, d]) : ∀ us : List α, us.length = 4 -> P us
 | [a, b, c, d], _ => F0 a b c d
theorem len5 {α : Type} {P : List α -> Prop} (F0 : ∀ a b c d e, P [a, b, c, d, e]) : ∀ us : List α, us.length = 5 -> P us
 | [a, b, c, d, e], _ => F0 a b c d e
theorem len6 {α : Type} {P : List α -> Prop} (F0 : ∀ a b c d e f, P [a, b, c, d, e, f]) : ∀ us : List α, us.length = 6 -> P us
 | [a, b, c, d, e, f], _ => F0 a b c d e f
theorem len7 {α : Type} {P : List α -> Prop} (F0 : ∀ a b c d e f g, P [a, b, c, d, e, f, g]) : ∀ us : List α, us.length = 7 -> P us
 | [a, b, c, d, e, f, g], _ => F0 a b c d e f g
theorem upto3 : ∀ j : Nat, j <= 3 -> j = 0 ∨ j = 1 ∨ j = 2 ∨ j = 3 := by omega
theorem Jy {x : Str} {d : D4} {fa : Addr} {oc kV doc pm cdv ct : Value} {od an : Option Addr} {osl : Array (Option Value)} (lk : K.lookup fa = some ⟨oc, od, .func (W.fnOf x d.qual (Ji d.st) (Jg d.st) (Jb d.st) .none kV doc pm an cdv ct), osl⟩)
  (hc : W.codeIn K cdv d.qual = true) (hk : W.keepIn K (.ref fa) = true) (sc : FnScope d.N d.ps (Jb d.st)) (hd : d.dvs = [])
  (hb : ∀ us : List Value, us.length = d.ps.length -> bindArgs (W.fnOf x d.qual (Ji d.st) (Jg d.st) (Jb d.st) .none kV doc pm an cdv ct) ⟨us, []⟩ = pure (d.ps.zip us)) :
  DefOk K x d fa (W.fnOf x d.qual (Ji d.st) (Jg d.st) (Jb d.st) .none kV doc pm an cdv ct) :=
 ⟨⟨_, ⟨oc, od, kV, doc, pm, an, cdv, ct, osl, rfl, lk, hc⟩, hk⟩, sc, fun j hj => ⟨[], .all hb, by rw [hd]; simp, [], .nil, by rw [hd]; intro _ _; cases j <;> exact rfl⟩⟩
noncomputable def scOk (N P : List Str) (sc : Scope) : Bool :=
 sc.kind == .function && !sc.isCoroutine && !sc.isGenerator && decide N.Nodup && decide (N.take P.length = P) && P.all (fun x => sc.names.lookup x == some .local || sc.names.lookup x == some .cell) && sc.names.all (fun y => !(y.2 == .free))
theorem scOk.of {N P : List Str} {sc : Scope} (h : scOk N P sc = true) : FnScope N P sc := by
 simp only [scOk, Bool.and_eq_true, beq_iff_eq, Bool.not_eq_true', decide_eq_true_eq, List.all_eq_true, Bool.or_eq_true, beq_eq_false_iff_ne] at h
 obtain ⟨⟨⟨⟨⟨⟨h1, h2⟩, h3⟩, h4⟩, h5⟩, h6⟩, h7⟩ := h
 exact ⟨h1, h2, h3, h4, h5, h6, h7⟩
theorem J2u {ce : Str -> Option Addr} {prog : Program} {w : World} {base : Heap} (O : TabOk ce T K mg) (B : T.tabs ≠ [] -> Jlu mg base) (k : Nat) {d : D4} {fa : Addr} {fd : FuncData} {x : Str} (hp : d.ps = [x]) (ok : DefOk K "law" d fa fd) :
  FnOk prog w K mg base CX0 (4 * k) fa fd [x] (Jtq K x (run T k d)) := by
 have := (J0o (prog := prog) (w := w) (base := base) O B k "law" d fa fd ok).ok
 rw [hp] at this
 exact Jyw this
end
end L4
namespace L4
open PySem PySem.Spec PyProof.Rows L2 L3
noncomputable def WR {α : Type} (r : Res α) (Q : α -> IH -> Prop) : Prop := match r with
 | .ok a h => Q a h
 | _ => False
noncomputable def WS (r : SRes) (N : ISt -> IH -> Prop) (R : IV -> IH -> Prop) : Prop := match r with
 | .next σ h => N σ h
 | .ret v h => R v h
 | _ => False
section
variable {α β : Type} {σ : ISt} {h : IH} {Q : α -> IH -> Prop} {N : ISt -> IH -> Prop} {R : IV -> IH -> Prop}
theorem WR.mono {r : Res α} {P Q : α -> IH -> Prop} (x : WR r P) (f : ∀ a h, P a h -> Q a h) : WR r Q := by
 cases r with
 | ok a h => exact f a h x
 | exc n h => exact x
 | stuck => exact x
theorem WR.of_eq {r : Res α} {a : α} {h : IH} (e : r = .ok a h) (q : Q a h) : WR r Q := by rw [e]; exact q
theorem WR.eq {r : Res α} (x : WR r Q) : ∃ a h, r = .ok a h /\ Q a h := by
 cases r with
 | ok a h => exact ⟨a, h, rfl, x⟩
 | exc n h => exact x.elim
 | stuck => exact x.elim
theorem WS.mono {r : SRes} {N N' : ISt -> IH -> Prop} {R R' : IV -> IH -> Prop} (x : WS r N R) (f : ∀ σ h, N σ h -> N' σ h) (g : ∀ v h, R v h -> R' v h) : WS r N' R' := by
 cases r with
 | next σ h => exact f σ h x
 | ret v h => exact g v h x
 | _ => exact x
theorem Jb0 (a : α) : WR (.ok a h) Q = Q a h := rfl
theorem Jzi : WR (.stuck : Res α) Q = False := rfl
theorem Je (r : Res α) (f : α -> IH -> Res β) (Q : β -> IH -> Prop) : WR (r.bind f) Q = WR r fun a h => WR (f a h) Q := by cases r <;> rfl
theorem Jih (r : Res α) : WR r.nx Q = WR r Q := by cases r <;> rfl
theorem Jfn (c : Prop) [Decidable c] (x y : Res α) : WR (if c then x else y) Q = ((c -> WR x Q) /\ (¬ c -> WR y Q)) := by
 by_cases hc : c <;> simp [hc]
theorem Jdj (r : Res α) (k : α -> IH -> SRes) : WS (rS σ r k) N R = WR r fun a h => WS (k a h) N R := by cases r <;> rfl
theorem Jfm (r : SRes) (Q : IV -> IH -> Prop) : WR r.fin Q = WS r (fun _ h => Q .non h) Q := by cases r <;> rfl
theorem Jcx (σ : ISt) : WS (.next σ h) N R = N σ h := rfl
theorem Je8 (v : IV) : WS (.ret v h) N R = R v h := rfl
theorem Jbn (a b : S1) : WS (sSeq a b σ h) N R = WS (a σ h) (fun σ1 h1 => WS (b σ1 h1) N R) R := by
 unfold sSeq; cases a σ h <;> rfl
theorem Jf6 : WS (sNil σ h) N R = N σ h := rfl
theorem Jcv : WS (J2f σ h) N R = N σ h := rfl
theorem Jcc (i : Nat) (e : E1) : WS (sSet i e σ h) N R = WR (e σ h) fun v h1 => N (σ.set i (some v)) h1 := by unfold sSet; rw [Jdj]; rfl
theorem Jj7 (t : T1) (a b : S1) : WS (sIf t a b σ h) N R = WR (t σ h) fun c h1 => (c = true -> WS (a σ h1) N R) /\ (c = false -> WS (b σ h1) N R) := by
 unfold sIf; rw [Jdj]; congr 1; funext c h1; cases c <;> simp
theorem Jcb (e : E1) : WS (sRet e σ h) N R = WR (e σ h) R := by unfold sRet; rw [Jdj]; rfl
theorem Jc5 : WS (J2z σ h) N R = R .non h := rfl
theorem Jcr (e : E1) : WS (Jmi e σ h) N R = WR (e σ h) fun _ h1 => N σ h1 := by unfold Jmi; rw [Jdj]; rfl
theorem Jfc (e : E1) (g : G1) : WS (sAsg e g σ h) N R = WR (e σ h) fun v h1 => WS (g v σ h1) N R := by unfold sAsg; rw [Jdj]
theorem Jf4 (i : Nat) (v : IV) : WS (gNm i v σ h) N R = N (σ.set i (some v)) h := rfl
theorem Jzz (n : Nat) (g : List IV -> ISt -> IH -> SRes) (xs : List IV) : WS (gTp n g (.tup xs) σ h) N R = (xs.length = n /\ WS (g xs σ h) N R) := by
 unfold gTp
 by_cases hn : xs.length = n
 ·simp [hn]
 ·simp [hn, WS]
theorem J3x : WS (gN [] σ h) N R = N σ h := rfl
theorem J17 (i : Nat) (r : List IV -> ISt -> IH -> SRes) (v : IV) (vs : List IV) : WS (gC (gNm i) r (v :: vs) σ h) N R = WS (r vs (σ.set i (some v)) h) N R := rfl
theorem Jre (f : Str) (o e : E1) : WS (Jkc f o e σ h) N R = WR (e σ h) fun v h1 => WR (o σ h1) fun ov h2 => ∃ i c fs, ov = .ref i /\ h2[i]? = some (.ins c fs) /\ fs.length < 1000 /\ N σ (h2.set i (.ins c (putI f v fs))) := by
 unfold Jkc; rw [Jdj]; congr 1; funext v h1; rw [Jdj]; congr 1; funext ov h2
 cases ov with
 | ref i =>
  cases e : h2[i]? with
  | none => simp [WS, e]
  | some o =>
   cases o with
   | ins c fs =>
    by_cases hl : fs.length < 1000
    ·simp only [e, hl, if_true, WS]
     refine propext ⟨fun q => ⟨i, c, fs, rfl, e, hl, q⟩, fun ⟨i', c', fs', e1, e2, _, q⟩ => ?_⟩
     cases e1
     rw [e] at e2
     cases e2
     exact q
    ·simp only [e, hl, if_false, WS]
     refine propext ⟨fun q => q.elim, fun ⟨i', c', fs', e1, e2, hl', _⟩ => ?_⟩
     cases e1
     rw [e] at e2
     cases e2
     exact hl hl'
   | _ => simp [WS, e]
 | _ => simp [WS]
theorem Jeu (it : I1) (g : G1) (b : S1) : WS (sFor it g b σ h) N R = WR (it σ h) fun J h1 => WS (Jhg J.chk g b J.xs σ h1) N R := by unfold sFor; rw [Jdj]
theorem Juy (v : IV) (Q : IV -> IH -> Prop) : WR (eC v σ h) Q = Q v h := rfl
theorem Jdx (f : IV -> IV -> IH -> Res IV) (a b : E1) (Q : IV -> IH -> Prop) : WR (eBin f a b σ h) Q = WR (a σ h) fun x h1 => WR (b σ h1) fun y h2 => WR (f x y h2) Q := by
 unfold eBin; rw [Je]; congr 1; funext x h1; rw [Je]
theorem Jlr (f : IV -> IH -> Res IV) (a : E1) (Q : IV -> IH -> Prop) : WR (eUn f a σ h) Q = WR (a σ h) fun x h1 => WR (f x h1) Q := by unfold eUn; rw [Je]
theorem Jgh (a b : E1) (tr : IV -> IH -> Res Bool) (Q : IV -> IH -> Prop) : WR (eAnd a b tr σ h) Q = WR (a σ h) fun x h1 => WR (tr x h1) fun c h2 => (c = true -> WR (b σ h2) Q) /\ (c = false -> Q x h2) := by
 unfold eAnd; rw [Je]; congr 1; funext x h1; rw [Je]; congr 1; funext c h2; cases c <;> simp [WR]
theorem Jld (a b : E1) (tr : IV -> IH -> Res Bool) (Q : IV -> IH -> Prop) : WR (eOr a b tr σ h) Q = WR (a σ h) fun x h1 => WR (tr x h1) fun c h2 => (c = true -> Q x h2) /\ (c = false -> WR (b σ h2) Q) := by
 unfold eOr; rw [Je]; congr 1; funext x h1; rw [Je]; congr 1; funext c h2; cases c <;> simp [WR]
theorem Jl5 (t : T1) (a b : E1) (Q : IV -> IH -> Prop) : WR (eIf t a b σ h) Q = WR (t σ h) fun c h1 => (c = true -> WR (a σ h1) Q) /\ (c = false -> WR (b σ h1) Q) := by
 unfold eIf; rw [Je]; congr 1; funext c h1; cases c <;> simp
theorem Jc7 (a b : T1) (Q : Bool -> IH -> Prop) : WR (Jxd a b σ h) Q = WR (a σ h) fun c h1 => (c = true -> WR (b σ h1) Q) /\ (c = false -> Q false h1) := by
 unfold Jxd; rw [Je]; congr 1; funext c h1; cases c <;> simp [WR]
theorem Jgl (a b : T1) (Q : Bool -> IH -> Prop) : WR (tOrI a b σ h) Q = WR (a σ h) fun c h1 => (c = true -> Q true h1) /\ (c = false -> WR (b σ h1) Q) := by
 unfold tOrI; rw [Je]; congr 1; funext c h1; cases c <;> simp [WR]
theorem Jcm (a : T1) (Q : Bool -> IH -> Prop) : WR (Jc9 a σ h) Q = WR (a σ h) fun c h1 => Q (!c) h1 := by unfold Jc9; rw [Je]; rfl
theorem Jb6 (tr : IV -> IH -> Res Bool) (a : E1) (Q : Bool -> IH -> Prop) : WR (tOfB tr a σ h) Q = WR (a σ h) fun x h1 => WR (tr x h1) Q := by unfold tOfB; rw [Je]
theorem Jba (f g : IV -> IV -> IH -> Res IV) (a b c : E1) (Q : IV -> IH -> Prop) : WR (Jgd f g a b c σ h) Q = WR (a σ h) fun x h1 => WR (b σ h1) fun y h2 => WR (f x y h2) fun k h3 => ∃ t, k = .bl t /\ (t = true -> WR (c σ h3) fun z h4 => WR (g y z h4) Q) /\ (t = false -> Q (.bl false) h3) := by
 unfold Jgd; rw [Je]; congr 1; funext x h1; rw [Je]; congr 1; funext y h2; rw [Je]; congr 1; funext k h3
 cases k with
 | bl t =>
  cases t with
  | true =>
   show WR ((c σ h3).bind fun z h4 => g y z h4) Q = _
   rw [Je]
   simp
  | false => simp [WR]
 | _ => simp [WR]
theorem Jbe (Q : List IV -> IH -> Prop) : WR (aNil σ h) Q = Q [] h := rfl
theorem Jai (a : E1) (r : A1) (Q : List IV -> IH -> Prop) : WR (Ja a r σ h) Q = WR (a σ h) fun x h1 => WR (r σ h1) fun xs h2 => Q (x :: xs) h2 := by
 unfold Ja; rw [Je]; congr 1; funext x h1; rw [Je]; rfl
theorem Jd2 (a : A1) (Q : IV -> IH -> Prop) : WR (eTup a σ h) Q = WR (a σ h) fun xs h1 => xs.length <= sizeLine /\ Q (.tup xs) h1 := by
 unfold eTup; rw [Je]; congr 1; funext xs h1; rw [Jfn]
 by_cases hz : xs.length <= sizeLine <;> simp [hz, WR]
theorem Jey (a : A1) (Q : IV -> IH -> Prop) : WR (eLst a σ h) Q = WR (a σ h) fun xs h1 => xs.length <= sizeLine /\ Q (.ref h1.length) (h1 ++ [.lst xs]) := by
 unfold eLst; rw [Je]; congr 1; funext xs h1; rw [Jfn]
 by_cases hz : xs.length <= sizeLine <;> simp [hz, WR]
theorem Jc6 (f : List IV -> IH -> Res IV) (d : List IV) (a : A1) (Q : IV -> IH -> Prop) : WR (Jm f d a σ h) Q = WR (a σ h) fun vs h1 => WR (f (vs ++ d) h1) Q := by
 unfold Jm; rw [Je]; congr 1; funext vs h1; rw [Jih]
theorem Jck (c : Str) (f : List IV -> IH -> Res IV) (d : List IV) (a : A1) (Q : IV -> IH -> Prop) : WR (Jku c f d a σ h) Q = WR (a σ h) fun vs h1 => WR (f (.ref h1.length :: (vs ++ d)) (h1 ++ [.ins c []])) fun r h2 => r = .non /\ Q (.ref h1.length) h2 := by
 unfold Jku; rw [Je]; congr 1; funext vs h1; rw [Je, Jih]; congr 1; funext r h2; cases r <;> simp [WR]
theorem Jky (f : List IV -> IH -> Res IV) (a : A1) (Q : IV -> IH -> Prop) : WR (eCB f a σ h) Q = WR (a σ h) fun vs h1 => WR (f vs h1) Q := by unfold eCB; rw [Je]
theorem Jge (f : IV -> IH -> Res IV) (x : IV) (Q : IV -> IH -> Prop) : WR (on1 f [x] h) Q = WR (f x h) Q := rfl
theorem Jfe (ans : Ty -> Option Bool) (e : E1) (Q : IV -> IH -> Prop) : WR (eIsi ans e σ h) Q = WR (e σ h) fun v h1 => ∃ b, (tyI v h1).bind ans = some b /\ Q (.bl b) h1 := by
 unfold eIsi; rw [Je]; congr 1; funext v h1
 cases (tyI v h1).bind ans <;> simp [WR]
theorem Jbk (Q : Option Int -> IH -> Prop) : WR (Jgz σ h) Q = Q none h := rfl
theorem Jbl (e : E1) (Q : Option Int -> IH -> Prop) : WR (Jfk e σ h) Q = WR (e σ h) fun v h1 => ∃ i, v = .int i /\ Q (some i) h1 := by
 unfold Jfk; rw [Je]; congr 1; funext v h1; cases v <;> simp [WR]
theorem Jk8 (f : IV -> Option Int -> Option Int -> IH -> Res IV) (e : E1) (lo hi : O1) (Q : IV -> IH -> Prop) : WR (eSl f e lo hi σ h) Q = WR (e σ h) fun x h1 => WR (lo σ h1) fun l h2 => WR (hi σ h2) fun u h3 => WR (f x l u h3) Q := by
 unfold eSl; rw [Je]; congr 1; funext x h1; rw [Je]; congr 1; funext l h2; rw [Je]
noncomputable def Jhc (f : Str) (v : IV) (h : IH) : Option IV := match v with
 | .ref i => (match h[i]? with
  | some (.ins _ fs) => fs.lookup f
  | _ => none)
 | _ => none
theorem Jgc (f : Str) (o : E1) (Q : IV -> IH -> Prop) : WR (eFld f o σ h) Q = WR (o σ h) fun v h1 => ∃ x, Jhc f v h1 = some x /\ Q x h1 := by
 unfold eFld; rw [Je]; congr 1; funext v h1
 cases v with
 | ref i =>
  unfold Jhc
  cases e : h1[i]? with
  | none => simp [WR, e]
  | some ob =>
   cases ob with
   | ins c fs => cases e2 : fs.lookup f <;> simp [WR, e, e2]
   | _ => simp [WR, e]
 | _ => simp [WR, Jhc]
variable {i j : Int} {x y : Str} {P : IV -> IH -> Prop}
theorem Jgg (i j : Int) : WR (Jal (.int i) (.int j) h) P = P (.int (i + j)) h := rfl
theorem Jgo (i j : Int) : WR (Jl6 (.int i) (.int j) h) P = P (.int (i - j)) h := rfl
theorem Jfo (i : Int) : WR (J2q (.int i) h) P = P (.int (-i)) h := rfl
theorem Jgr (i j : Int) : WR (Jbr (.int i) (.int j) h) P = (Jat i j /\ P (.int (i * j)) h) := by
 show WR (Jua (.int i) (.int j) h) P = _
 unfold Jua; rw [Jfn]; by_cases hm : Jat i j <;> simp [hm, WR]
theorem Jcq (i j : Int) : WR (Ja8 (.int i) (.int j) h) P = ((0 < j /\ j.natAbs.log2 < 9000) /\ P (.int (i / j)) h) := by
 unfold Ja8; rw [Jfn]; by_cases hm : 0 < j /\ j.natAbs.log2 < 9000 <;> simp [hm, WR]
theorem Jgp (i j : Int) : WR (Jbf (.int i) (.int j) h) P = (0 < j /\ P (.int (i % j)) h) := by
 unfold Jbf; rw [Jfn]; by_cases hm : 0 < j <;> simp [hm, WR]
theorem Jgi (i j : Int) : WR (Jph (.int i) (.int j) h) P = ((0 <= j /\ j <= 1000000 /\ i.natAbs < 2 ^ 64) /\ P (.int (i ^ j.toNat)) h) := by
 unfold Jph; rw [Jfn]; by_cases hm : 0 <= j /\ j <= 1000000 /\ i.natAbs < 2 ^ 64 <;> simp [hm, WR]
theorem Jcj (x y : Str) : WR (Jal (.str x) (.str y) h) P = (x.length + y.length <= sizeLine /\ P (.str (x ++ y)) h) := by
 unfold Jal; rw [Jfn]; by_cases hm : x.length + y.length <= sizeLine <;> simp [hm, WR]
theorem Jlc (i j : Int) : WR (cLt (.int i) (.int j) h) P = P (.bl (decide (i < j))) h := rfl
theorem Jlv (i j : Int) : WR (cLe (.int i) (.int j) h) P = P (.bl (decide (i <= j))) h := rfl
theorem J39 (x y : Str) : WR (cLe (.str x) (.str y) h) P = P (.bl (!decide (y.cps.toList < x.cps.toList))) h := rfl
theorem Jlw (i j : Int) : WR (cGt (.int i) (.int j) h) P = P (.bl (decide (j < i))) h := rfl
theorem Jl1 (i j : Int) : WR (cGe (.int i) (.int j) h) P = P (.bl (decide (j <= i))) h := rfl
theorem Jlj (i j : Int) : WR (cEq (.int i) (.int j) h) P = P (.bl (decide (i = j))) h := rfl
theorem Jkv (i j : Int) : WR (cNe (.int i) (.int j) h) P = P (.bl (!decide (i = j))) h := rfl
theorem Jf5 (x y : Str) : WR (cEq (.str x) (.str y) h) P = P (.bl (decide (x = y))) h := rfl
theorem Jfu (x y : Str) : WR (cNe (.str x) (.str y) h) P = P (.bl (!decide (x = y))) h := rfl
theorem Jfv (b : Bool) (P : Bool -> IH -> Prop) : WR (asB (.bl b) h) P = P b h := rfl
theorem Jcp (b : Bool) (P : Bool -> IH -> Prop) : WR (tru (.bl b) h) P = P b h := rfl
theorem Jf0 (tr : IV -> IH -> Res Bool) (v : IV) : WR (Jtx tr v h) P = WR (tr v h) fun c h1 => P (.bl (!c)) h1 := by unfold Jtx; rw [Je]; rfl
theorem Jys (v w : IV) : WR (cIs v w h) P = ∃ b, isI v w = some b /\ P (.bl b) h := by unfold cIs; cases isI v w <;> simp [WR]
theorem Jdn {chk : IH -> Prop} {g : G1} {b : S1} (I : Nat -> ISt -> IH -> Prop) {xs : List IV} (hc : ∀ i σ h, I i σ h -> chk h)
  (turn : ∀ i (hi : i < xs.length) σ h, I i σ h -> WS (g xs[i] σ h) (fun σ1 h1 => WS (b σ1 h1) (I (i + 1)) R) fun _ _ => False) (done : ∀ σ h, I xs.length σ h -> N σ h) (start : I 0 σ h) : WS (Jhg chk g b xs σ h) N R := by
 have key : ∀ (n i : Nat) (σ : ISt) (h : IH), xs.length - i = n -> i <= xs.length -> I i σ h -> WS (Jhg chk g b (xs.drop i) σ h) N R := by
  intro n
  induction n with
  | zero =>
   intro i σ h hn hi hI
   have : i = xs.length := by omega
   subst this
   rw [List.drop_length]
   unfold Jhg
   rw [if_pos (hc _ _ _ hI)]
   exact done _ _ hI
  | succ n ih =>
   intro i σ h hn hi hI
   have hlt : i < xs.length := by omega
   rw [List.drop_eq_getElem_cons hlt]
   unfold Jhg
   rw [if_pos (hc _ _ _ hI)]
   have t := turn i hlt σ h hI
   cases eg : g xs[i] σ h with
   | next σ1 h1 =>
    rw [eg] at t
    have t' : WS (b σ1 h1) (I (i + 1)) R := t
    dsimp only
    cases eb : b σ1 h1 with
    | next σ2 h2 => rw [eb] at t'; exact ih (i + 1) σ2 h2 (by omega) hlt t'
    | ret v h2 => rw [eb] at t'; exact t'
    | brk σ2 h2 => rw [eb] at t'; exact t'.elim
    | cont σ2 h2 => rw [eb] at t'; exact t'.elim
    | exc m σ2 h2 => rw [eb] at t'; exact t'.elim
    | stuck => rw [eb] at t'; exact t'.elim
   | ret v h1 => rw [eg] at t; exact t.elim
   | brk σ2 h2 => rw [eg] at t; exact t.elim
   | cont σ2 h2 => rw [eg] at t; exact t.elim
   | exc m σ2 h2 => rw [eg] at t; exact t.elim
   | stuck => rw [eg] at t; exact t.elim
 have := key xs.length 0 σ h (by omega) (Nat.zero_le _) start
 simpa using this
end
end L4
namespace L4
open PySem PySem.Spec PyProof.Rows L2 L3
section
variable {α : Type} {h h1 : IH} {a : α} {r : Res α} {P : IV -> IH -> Prop}
theorem Jdw (x : WR r fun v h' => v = a /\ h' = h1) : r = .ok a h1 := by
 obtain ⟨_, _, e, rfl, rfl⟩ := x.eq
 exact e
theorem Jds (xs : List IV) (n : Int) : WR (opIx (.tup xs) (.int n) h) P = ∃ x, atI xs n = some x /\ P x h := by
 unfold opIx; cases e : atI xs n <;> simp [WR, e]
theorem Je1 (xs : List IV) (n : Int) : WR (opIx (.rol xs) (.int n) h) P = ∃ x, atI xs n = some x /\ P x h := by
 unfold opIx; cases e : atI xs n <;> simp [WR, e]
theorem Jnd (i : Nat) (n : Int) : WR (opIx (.ref i) (.int n) h) P = ∃ xs, h[i]? = some (.lst xs) /\ ∃ x, atI xs n = some x /\ P x h := by
 unfold opIx
 cases e : h[i]? with
 | none => simp [WR, e]
 | some o =>
  cases o with
  | lst xs => cases e2 : atI xs n <;> simp [WR, e, e2]
  | _ => simp [WR, e]
theorem Jb9 (xs : List IV) : WR (lenI (.tup xs) h) P = P (.int xs.length) h := rfl
theorem Jb8 (xs : List IV) : WR (lenI (.rol xs) h) P = P (.int xs.length) h := rfl
theorem Jrw (i : Nat) : WR (lenI (.ref i) h) P = ∃ xs, h[i]? = some (.lst xs) /\ P (.int xs.length) h := by
 unfold lenI
 cases e : h[i]? with
 | none => simp [WR, e]
 | some o => cases o <;> simp [WR, e]
theorem Jb5 (x : Str) : WR (lenI (.str x) h) P = (x.length <= sizeLine /\ P (.int x.length) h) := by
 unfold lenI; rw [Jfn]; by_cases hm : x.length <= sizeLine <;> simp [hm, WR]
theorem Jc0 {xs : List α} {n : Nat} {x : α} (e : xs[n]? = some x) : atI xs (n : Int) = some x := by
 have hn : n < xs.length := (List.getElem?_eq_some_iff.mp e).1
 have : (n : Int) < xs.length := by omega
 simp [atI, ixN, this, e]
theorem Jjp {x : α} {xs : List α} : atI (x :: xs) 0 = some x := by simp [atI, ixN]
theorem Jje {x y : α} {xs : List α} : atI (x :: y :: xs) 1 = some y := Jc0 (n := 1) rfl
theorem Jkb {x y z : α} {xs : List α} : atI (x :: y :: z :: xs) 2 = some z := Jc0 (n := 2) rfl
theorem Jkk {x y z u : α} {xs : List α} : atI (x :: y :: z :: u :: xs) 3 = some u := Jc0 (n := 3) rfl
theorem Jj8 {x y z u v : α} {xs : List α} : atI (x :: y :: z :: u :: v :: xs) 4 = some v := Jc0 (n := 4) rfl
theorem Jrj {xs : List α} {n : Int} {x : α} (h0 : 0 <= n) (e : xs[n.toNat]? = some x) : atI xs n = some x := by
 have := Jc0 e
 rwa [Int.toNat_of_nonneg h0] at this
theorem Jb7 (i : Int) : tyI (.int i) h = some .int := rfl
theorem Jew (x : Str) : tyI (.str x) h = some .str := rfl
theorem Jex (xs : List IV) : tyI (.tup xs) h = some .tup := rfl
theorem Jkd (b : Bool) : tyI (.bl b) h = some .bl := rfl
theorem Je5 : tyI .non h = some .non := rfl
theorem Jez (xs : List IV) : tyI (.rol xs) h = some .lst := rfl
theorem Jw4 {i : Nat} {xs : List IV} (e : h[i]? = some (.lst xs)) : tyI (.ref i) h = some .lst := by simp [tyI, e]
theorem grow {i : Nat} {o : IO} {g : IH} (e : h[i]? = some o) : (h ++ g)[i]? = some o := by
 rw [List.getElem?_append_left (List.getElem?_eq_some_iff.mp e).1]; exact e
theorem Jaw {o : IO} : (h ++ [o])[h.length]? = some o := by simp
theorem Jhk {i : Nat} {o : IO} (e : h[i]? = some o) : i < h.length := (List.getElem?_eq_some_iff.mp e).1
theorem Jpq (f : IV -> Bool) : ∀ xs : List IV, Jp8 (xs.map fun x => .bl (f x)) = some (xs.map f)
 | [] => rfl
 | x :: xs => by simp [Jp8, Jpq f xs]
theorem all_map {f : IV -> Bool} {i : Nat} {xs : List IV} (e : h[i]? = some (.lst (xs.map fun x => .bl (f x)))) : allI (.ref i) h = .ok (.bl (xs.all f)) h := by
 simp [allI, e, Jpq, List.all_map, Function.comp_def]
end
end L4
namespace L4
open PySem PySem.Spec PyProof.Rows L2 L3
noncomputable def Ex (h h' : IH) : Prop := ∃ g, h' = h ++ g
theorem Ex.refl (h : IH) : Ex h h := ⟨[], by simp⟩
theorem Ex.trans {h h1 h2 : IH} (a : Ex h h1) (b : Ex h1 h2) : Ex h h2 := by
 obtain ⟨g, rfl⟩ := a
 obtain ⟨g', rfl⟩ := b
 exact ⟨g ++ g', by simp⟩
theorem Ex.get {h h' : IH} (a : Ex h h') {i : Nat} {o : IO} (e : h[i]? = some o) : h'[i]? = some o := by
 obtain ⟨g, rfl⟩ := a
 exact grow e
theorem Ex.one (h : IH) (o : IO) : Ex h (h ++ [o]) := ⟨[o], rfl⟩
theorem Ex.len {h h' : IH} (a : Ex h h') : h.length <= h'.length := by
 obtain ⟨g, rfl⟩ := a
 simp
section
variable {α : Type} {h : IH}
theorem J1z {chk : IH -> Prop} {t : T1} {e : E1} {caps : ISt} {p : IV -> Bool} {f : IV -> IV} (i0 : Nat) : ∀ {xs acc : List IV} {o : Option IV} {h1 : IH}, h1[i0]? = some (.lst acc) -> (∀ h2, (∀ j ob, j ≠ i0 -> h1[j]? = some ob -> h2[j]? = some ob) -> chk h2) -> acc.length + xs.length < sizeLine ->
  (∀ x ∈ xs, ∀ h2, (∀ j ob, j ≠ i0 -> h1[j]? = some ob -> h2[j]? = some ob) -> WR (t (some x :: caps) h2) fun b h3 => b = p x /\ Ex h2 h3) ->
  (∀ x ∈ xs, p x = true -> ∀ h2, (∀ j ob, j ≠ i0 -> h1[j]? = some ob -> h2[j]? = some ob) -> WR (e (some x :: caps) h2) fun v h3 => v = f x /\ Ex h2 h3) ->
  WR (Je6 chk (gNm 0) t e i0 xs (o :: caps) h1) fun v h3 => v = .ref i0 /\ ∃ g, h3 = h1.set i0 (.lst (acc ++ (xs.filter p).map f)) ++ g
 | [], acc, o, h1, hi, hc, _, _, _ => by
  unfold Je6
  rw [if_pos (hc h1 fun _ _ _ q => q)]
  refine ⟨rfl, [], ?_⟩
  simp only [List.filter_nil, List.map_nil, List.append_nil]
  refine (List.ext_getElem? fun j => ?_)
  by_cases hj : j = i0
  ·subst hj
   rw [hi, List.getElem?_set_self (Jhk hi)]
  ·rw [List.getElem?_set_ne (Ne.symm hj)]
 | x :: xs, acc, o, h1, hi, hc, hl, ht, he => by
  unfold Je6
  rw [if_pos (hc h1 fun _ _ _ q => q)]
  dsimp only [gNm, List.set_cons_zero]
  have hl' : acc.length + xs.length + 1 < sizeLine := by simpa [Nat.add_assoc] using hl
  obtain ⟨b, h2, e1, rfl, x2⟩ := (ht x List.mem_cons_self h1 fun _ _ _ q => q).eq
  rw [e1]
  have k12 : ∀ j ob, j ≠ i0 -> h1[j]? = some ob -> h2[j]? = some ob := fun j ob _ q => x2.get q
  cases hp : p x with
  | false =>
   dsimp only
   refine WR.mono (J1z i0 (x2.get hi) (fun h3 q => hc h3 fun j ob n r => q j ob n (k12 j ob n r)) (by omega) (fun y hy h3 q => ht y (List.mem_cons_of_mem _ hy) h3 fun j ob n r => q j ob n (k12 j ob n r))
    fun y hy hpy h3 q => he y (List.mem_cons_of_mem _ hy) hpy h3 fun j ob n r => q j ob n (k12 j ob n r)) fun v h3 ⟨ev, g, eg⟩ => ⟨ev, ?_⟩
   obtain ⟨g2, rfl⟩ := x2
   refine ⟨g2 ++ g, ?_⟩
   rw [eg, List.set_append_left (h := Jhk hi)]
   simp [hp]
  | true =>
   dsimp only
   obtain ⟨v, h3, e3, rfl, x3⟩ := (he x List.mem_cons_self hp h2 k12).eq
   rw [e3]
   dsimp only
   rw [x3.get (x2.get hi)]
   dsimp only
   rw [if_pos (by omega)]
   have k13 : ∀ j ob, j ≠ i0 -> h1[j]? = some ob -> (h3.set i0 (.lst (acc ++ [f x])))[j]? = some ob := fun j ob n q => by
    rw [List.getElem?_set_ne (Ne.symm n)]
    exact x3.get (x2.get q)
   refine WR.mono (J1z i0 (acc := acc ++ [f x]) (by rw [List.getElem?_set_self (Jhk (x3.get (x2.get hi)))]) (fun h4 q => hc h4 fun j ob n r => q j ob n (k13 j ob n r)) (by simp; omega) (fun y hy h4 q => ht y (List.mem_cons_of_mem _ hy) h4 fun j ob n r => q j ob n (k13 j ob n r))
    fun y hy hpy h4 q => he y (List.mem_cons_of_mem _ hy) hpy h4 fun j ob n r => q j ob n (k13 j ob n r)) fun v h4 ⟨ev, g, eg⟩ => ⟨ev, ?_⟩
   obtain ⟨g3, q3⟩ := x2.trans x3
   refine ⟨g3 ++ g, ?_⟩
   rw [eg, q3, List.set_append_left (h := Jhk hi), List.set_append_left (h := by rw [List.length_set]; exact Jhk hi), List.set_set]
   simp [hp]
theorem Jwg {it : I1} {t : T1} {e : E1} {js : List Nat} {σ : ISt} {xs : List IV} {chk : IH -> Prop} {p : IV -> Bool} {f : IV -> IV} {h0 : IH} (hit : WR (it σ h0) fun J h1 => J.xs = xs /\ J.chk = chk /\ h1 = h) (hl : xs.length < sizeLine)
  (hc : ∀ h2 : IH, (∀ (j : Nat) (ob : IO), h[j]? = some ob -> h2[j]? = some ob) -> chk h2)
  (ht : ∀ x ∈ xs, ∀ h2 : IH, (∀ (j : Nat) (ob : IO), h[j]? = some ob -> h2[j]? = some ob) -> WR (t (some x :: js.map fun j => (σ[j]?).join) h2) fun b h3 => b = p x /\ Ex h2 h3)
  (he : ∀ x ∈ xs, p x = true -> ∀ h2 : IH, (∀ (j : Nat) (ob : IO), h[j]? = some ob -> h2[j]? = some ob) -> WR (e (some x :: js.map fun j => (σ[j]?).join) h2) fun v h3 => v = f x /\ Ex h2 h3) :
  WR (Jaj it 1 js (gNm 0) t e σ h0) fun v h3 => v = .ref h.length /\ ∃ g, h3 = h ++ .lst ((xs.filter p).map f) :: g := by
 obtain ⟨J, h1, e1, q1, q2, rfl⟩ := hit.eq
 unfold Jaj
 rw [e1]
 show WR (Je6 J.chk (gNm 0) t e h1.length J.xs (none :: js.map fun j => (σ[j]?).join) (h1 ++ [.lst []])) _
 rw [q1, q2]
 have lift : ∀ {h2 : IH}, (∀ j ob, j ≠ h1.length -> (h1 ++ [IO.lst []])[j]? = some ob -> h2[j]? = some ob) -> ∀ j ob, h1[j]? = some ob -> h2[j]? = some ob := fun q j ob r => q j ob (Nat.ne_of_lt (Jhk r)) (grow r)
 refine WR.mono (J1z (p := p) (f := f) h1.length (acc := []) Jaw (fun h2 q => hc h2 (lift q)) (by simpa using hl) (fun x hx h2 q => ht x hx h2 (lift q)) fun x hx hp h2 q => he x hx hp h2 (lift q)) fun v h3 ⟨ev, g, eg⟩ => ⟨ev, g, ?_⟩
 rw [eg]
 simp
theorem filt {α : Type} (xs : List α) : xs.filter (fun _ => true) = xs := List.filter_eq_self.mpr (by simp)
theorem Jak {it : I1} {e : E1} {js : List Nat} {σ : ISt} {xs : List IV} {chk : IH -> Prop} {f : IV -> IV} {h0 : IH} (hit : WR (it σ h0) fun J h1 => J.xs = xs /\ J.chk = chk /\ h1 = h) (hl : xs.length < sizeLine)
  (hc : ∀ h2 : IH, (∀ (j : Nat) (ob : IO), h[j]? = some ob -> h2[j]? = some ob) -> chk h2)
  (he : ∀ x ∈ xs, ∀ h2 : IH, (∀ (j : Nat) (ob : IO), h[j]? = some ob -> h2[j]? = some ob) -> WR (e (some x :: js.map fun j => (σ[j]?).join) h2) fun v h3 => v = f x /\ Ex h2 h3) :
  WR (Jaj it 1 js (gNm 0) Jav e σ h0) fun v h3 => v = .ref h.length /\ ∃ g, h3 = h ++ .lst (xs.map f) :: g := by
 have := Jwg (p := fun _ => true) (f := f) (t := Jav) (e := e) (js := js) (σ := σ) (h := h) hit hl hc (fun _ _ h2 _ => ⟨rfl, .refl _⟩) fun x hx _ h2 q => he x hx h2 q
 rwa [filt] at this
theorem J2 {o : IO} {g : IH} : (h ++ o :: g)[h.length]? = some o := by simp
theorem Ex.cons (h : IH) (o : IO) (g : IH) : Ex h (h ++ o :: g) := ⟨_, rfl⟩
end
end L4
namespace L4
open PySem PySem.Spec PyProof.Rows L2 L3
section
variable {σ : ISt} {h h1 : IH} {Q : IV -> IH -> Prop} {J : ItI -> IH -> Prop}
theorem Jbw (e : E1) : WR (iAny e σ h) J = WR (e σ h) fun v h1 => WR (Jut v h1) J := by unfold iAny; rw [Je]
theorem Jgf (f : List IV -> IH -> Res ItI) (a : A1) : WR (iRg f a σ h) J = WR (a σ h) fun vs h1 => WR (f vs h1) J := by unfold iRg; rw [Je]
theorem Jb1 (i : Nat) : WR (Jut (.ref i) h) J = ∃ xs, h[i]? = some (.lst xs) /\ J ⟨xs, fun h' => h'[i]? = some (.lst xs)⟩ h := by
 show WR (itOf (.ref i) h) J = _
 unfold itOf
 cases e : h[i]? with
 | none => simp [WR, e]
 | some o => cases o <;> simp [WR, e]
theorem Jgq (xs : List IV) : WR (Jut (.rol xs) h) J = J ⟨xs, fun _ => True⟩ h := rfl
theorem Jgs (xs : List IV) : WR (Jut (.tup xs) h) J = J ⟨xs, fun _ => True⟩ h := rfl
theorem Jfa (x : Str) : WR (Jut (.str x) h) J = J ⟨Jmo x, fun _ => True⟩ h := rfl
theorem J03 (i : Nat) : WR (Jfi [.ref i] h) J = ∃ xs, h[i]? = some (.lst xs) /\ J ⟨Jgy 0 xs, fun h' => h'[i]? = some (.lst xs)⟩ h := by
 show WR (Jis [.ref i] h) J = _
 unfold Jis
 cases e : h[i]? with
 | none => simp [WR, e]
 | some o => cases o <;> simp [WR, e]
theorem Jc4 (j : Int) : WR (Jbp [.int j] h) J = ((-(2 ^ 62) <= j /\ j < 2 ^ 62) /\ J ⟨rngI 0 j, fun _ => True⟩ h) := by
 unfold Jbp; rw [Jfn]; exact propext ⟨fun ⟨a, b⟩ => (Classical.em _).elim (fun q => ⟨q, a q⟩) fun q => (b q).elim, fun ⟨a, b⟩ => ⟨fun _ => b, fun q => absurd a q⟩⟩
theorem Jcu (i j : Int) : WR (Jj5 [.int i, .int j] h) J = ((-(2 ^ 62) <= i /\ i < 2 ^ 62 /\ -(2 ^ 62) <= j /\ j < 2 ^ 62) /\ J ⟨rngI i j, fun _ => True⟩ h) := by
 unfold Jj5; rw [Jfn]; exact propext ⟨fun ⟨a, b⟩ => (Classical.em _).elim (fun q => ⟨q, a q⟩) fun q => (b q).elim, fun ⟨a, b⟩ => ⟨fun _ => b, fun q => absurd a q⟩⟩
theorem Jas (i j : Int) : (rngI i j).length = (j - i).toNat := by simp [rngI]
theorem Jg1 (i j : Int) (n : Nat) (hn : n < (rngI i j).length) : (rngI i j)[n] = .int (i + n) := by simp [rngI]
theorem J2h (xs : List IV) (n : Nat) (hn : n < (Jgy 0 xs).length) : (Jgy 0 xs)[n] = .tup [.int n, xs[n]'(by rwa [Jdt] at hn)] := by
 have := Jii xs 0 n
 rw [List.getElem?_eq_getElem hn, List.getElem?_eq_getElem (by rwa [Jdt] at hn)] at this
 simpa using this
theorem Js4 (i : Nat) (lo hi : Option Int) : WR (slI (.ref i) lo hi h) Q = ∃ xs, h[i]? = some (.lst xs) /\ Q (.ref h.length) (h ++ [.lst (cutI xs lo hi)]) := by
 unfold slI
 cases e : h[i]? with
 | none => simp [WR, e]
 | some o => cases o <;> simp [WR, e]
theorem Jgj (xs : List IV) (lo hi : Option Int) : WR (slI (.rol xs) lo hi h) Q = Q (.ref h.length) (h ++ [.lst (cutI xs lo hi)]) := rfl
theorem Jr9 (n d : Nat) : HT.sIx n d none = d := HT.sIx_none n d
theorem Jx8 {α : Type} (xs : List α) (n : Nat) : cutI xs none (some (n : Int)) = xs.take n := by
 unfold cutI
 rw [Jr9, HT.sIx_nat]
 simp
theorem Jno {α : Type} (xs : List α) (n : Nat) : cutI xs (some (n : Int)) none = xs.drop n := by
 unfold cutI
 rw [Jr9, HT.sIx_nat]
 by_cases hn : n <= xs.length
 ·rw [Nat.min_eq_left hn]
  exact List.take_of_length_le (by simp)
 ·rw [Nat.min_eq_right (by omega), List.drop_length, List.drop_eq_nil_of_le (by omega)]
  simp
variable {P : Pg} {m : Str} {n i : Nat} {o : E1} {a : A1} {xs : List IV} {c : Str} {fs : List (Str × IV)}
theorem Jjl {g : IV -> List IV -> IH -> Res IV} (e : o σ h = .ok (.ref i) h1) (hl : h1[i]? = some (.lst xs)) (hg : bmOf "list" m n = some g) : WR (eDot P m n o a σ h) Q = WR (a σ h1) fun vs h2 => WR (g (.ref i) vs h2) Q := by
 unfold eDot
 rw [e]
 have hi : Jrh (.ref i) h1 = false := by simp [Jrh, hl]
 have ht : tyS (.ref i) h1 = "list" := by simp [tyS, hl]
 dsimp only
 rw [hi, ht, hg]
 dsimp only
 rw [if_neg Bool.false_ne_true]
 unfold eBm
 rw [e, Je, Jb0]
 have : tyOk "list" (.ref i) h1 = true := by simp [tyOk, hl]
 rw [if_pos this, Je]
theorem Jbt {f : List IV -> IH -> Res IV} {d : List IV} (e : o σ h = .ok (.ref i) h1) (hi : h1[i]? = some (.ins c fs)) (hf : fs.lookup m = none) (hd : Jnq P m n c = some (f, d)) : WR (eDot P m n o a σ h) Q = WR (a σ h1) fun vs h2 => WR (f (.ref i :: (vs ++ d)) h2) Q := by
 unfold eDot
 rw [e]
 have hi' : Jrh (.ref i) h1 = true := by simp [Jrh, hi]
 dsimp only
 rw [hi', if_pos rfl]
 unfold Jzl
 rw [e, Je, Jb0]
 dsimp only
 rw [hi]
 dsimp only
 rw [hd, hf]
 dsimp only
 rw [Je]
 congr 1
 funext vs h2
 rw [Jih]
theorem Jlk (y : IV) : WR (Jjm (.ref i) [y] h) Q = ∃ xs, h[i]? = some (.lst xs) /\ xs.length < sizeLine /\ Q .non (h.set i (.lst (xs ++ [y]))) := by
 unfold Jjm
 cases e : h[i]? with
 | none => simp [WR, e]
 | some ob =>
  cases ob with
  | lst xs => by_cases hz : xs.length < sizeLine <;> simp [WR, e, hz]
  | _ => simp [WR, e]
theorem Jll : bmOf "list" "append" 1 = some Jjm := by kernel_rfl
theorem Jh {f : Str} (e : h[i]? = some (.ins c fs)) : Jhc f (.ref i) h = fs.lookup f := by simp [Jhc, e]
theorem Jnj : WR (Jh5 (.ref i) h) Q = ∃ xs, h[i]? = some (.lst xs) /\ Q (.ref h.length) (h ++ [.lst xs]) := by
 unfold Jh5
 cases e : h[i]? with
 | none => simp [WR, e]
 | some ob => cases ob <;> simp [WR, e]
theorem Jbo (xs : List IV) : WR (Jh5 (.tup xs) h) Q = Q (.ref h.length) (h ++ [.lst xs]) := rfl
theorem Jvt : WR (Jlg (.ref i) h) Q = ∃ xs, h[i]? = some (.lst xs) /\ Q (.tup xs) h := by
 unfold Jlg
 cases e : h[i]? with
 | none => simp [WR, e]
 | some ob => cases ob <;> simp [WR, e]
end
end L4
namespace L4
open PySem PySem.Spec PyProof.Rows L2 L3
section
variable {σ : ISt} {h : IH} {Q : IV -> IH -> Prop}
theorem Jwb (i j : Nat) : WR (Jal (.ref i) (.ref j) h) Q = ∃ xs, h[i]? = some (.lst xs) /\ ∃ ys, h[j]? = some (.lst ys) /\ xs.length + ys.length <= sizeLine /\ Q (.ref h.length) (h ++ [.lst (xs ++ ys)]) := by
 unfold Jal
 cases e : h[i]? with
 | none => simp [WR, e]
 | some o =>
  cases e' : h[j]? with
  | none => cases o <;> simp [WR, e, e']
  | some o' =>
   cases o <;> cases o' <;> simp only [e, e', Jfn, Jb0, Jzi, Option.some.injEq, IO.lst.injEq, reduceCtorEq, exists_eq_left', false_and, and_false, exists_false, imp_false, Decidable.not_not]
   simp only [eq_iff_iff]
   exact ⟨fun ⟨a, b⟩ => ⟨b, a b⟩, fun ⟨a, b⟩ => ⟨fun _ => b, a⟩⟩
theorem J0l {N : ISt -> IH -> Prop} {R : IV -> IH -> Prop} (o i : E1) (v : IV) : WS (gSb o i v σ h) N R = WR (o σ h) fun ov h1 => WR (i σ h1) fun iv h2 => WS (setI ov iv v σ h2) N R := by
 unfold gSb
 rw [Jdj]
 congr 1; funext ov h1
 rw [Jdj]
theorem Jv3 {N : ISt -> IH -> Prop} {R : IV -> IH -> Prop} (i : Nat) (k : Int) (v : IV) : WS (setI (.ref i) (.int k) v σ h) N R = ∃ xs, h[i]? = some (.lst xs) /\ ∃ j, ixN xs.length k = some j /\ N σ (h.set i (.lst (xs.set j v))) := by
 unfold setI
 cases e : h[i]? with
 | none => simp [WS, e]
 | some ob =>
  cases ob with
  | lst xs => cases q : ixN xs.length k <;> simp [WS, e, q]
  | _ => simp [WS, e]
end
end L4
namespace L4
open PySem PySem.Spec PyProof.Rows L2 L3
section
variable {σ : ISt} {h h1 : IH} {Q : IV -> IH -> Prop} {P : Pg} {m : Str} {n i : Nat} {o : E1} {a : A1} {x : Str}
theorem J3a : bmOf "list" "pop" 1 = some popI := by kernel_rfl
theorem Jwk : bmOf "list" "extend" 1 = some Jjt := by kernel_rfl
theorem Jzr : bmOf "list" "index" 1 = some Jm9 := by kernel_rfl
theorem Jsj : ∀ zs : List Str, Jhe (zs.map IV.str) = some zs
 | [] => rfl
 | z :: zs => by
  rw [List.map_cons, Jhe, Jsj zs]; rfl
end
end L4
namespace L4
open PySem PySem.Spec PyProof.Rows L2 L3
section
variable {σ : ISt} {h : IH} {Q : IV -> IH -> Prop} {i : Nat}
theorem Jn9 : WR (sumI (.ref i) h) Q = ∃ xs, h[i]? = some (.lst xs) /\ ∃ ns, Je7 xs = some ns /\ Q (.int ns.sum) h := by
 unfold sumI
 cases e : h[i]? with
 | none => simp [WR, e]
 | some ob =>
  cases ob with
  | lst xs => cases q : Je7 xs <;> simp [WR, e, q]
  | _ => simp [WR, e]
theorem Jdf : ∀ ns : List Int, Je7 (ns.map IV.int) = some ns
 | [] => rfl
 | n :: ns => by
  rw [List.map_cons, Je7, Jdf ns]; rfl
theorem J0v (aa : A1) (md : E1) : WR (Jwi aa md σ h) Q = WR (aa σ h) fun xs h1 => WR (md σ h1) fun d h2 => ∃ i, xs = [.ref i] /\ ∃ ys, h2[i]? = some (.lst ys) /\ ∃ ns, Je7 ys = some ns /\ Q (maxD ns d) h2 := by
 unfold Jwi
 rw [Je]
 congr 1; funext xs h1
 rw [Je]
 congr 1; funext d h2
 match xs with
 | [.ref i] =>
  simp only [List.cons.injEq, IV.ref.injEq, and_true, exists_eq_left']
  cases e : h2[i]? with
  | none => simp [WR]
  | some ob =>
   cases ob with
   | lst ys => cases q : Je7 ys <;> simp [WR, q]
   | _ => simp [WR]
 | [] => simp [WR]
 | [.non] => simp [WR]
 | [.bl _] => simp [WR]
 | [.int _] => simp [WR]
 | [.str _] => simp [WR]
 | [.tup _] => simp [WR]
 | [.rol _] => simp [WR]
 | x :: _ :: _ => cases x <;> simp [WR]
theorem Ju4 (aa : A1) : WR (Jl7 aa σ h) Q = WR (aa σ h) fun xs h1 => ∃ i, xs = [.ref i] /\ ∃ ys, h1[i]? = some (.lst ys) /\ ∃ zs, Jhe ys = some zs /\ zs.length + 1 < scanBound /\ Q (.int (cntD (Jev zs) zs.length)) h1 := by
 unfold Jl7
 rw [Je]
 congr 1; funext xs h1
 match xs with
 | [.ref i] =>
  simp only [List.cons.injEq, IV.ref.injEq, and_true, exists_eq_left']
  cases e : h1[i]? with
  | none => simp [WR]
  | some ob =>
   cases ob with
   | lst ys =>
    cases q : Jhe ys with
    | none => simp [WR, q]
    | some zs => by_cases hz : zs.length + 1 < scanBound <;> simp [WR, q, hz]
   | _ => simp [WR]
 | [] => simp [WR]
 | [.non] => simp [WR]
 | [.bl _] => simp [WR]
 | [.int _] => simp [WR]
 | [.str _] => simp [WR]
 | [.tup _] => simp [WR]
 | [.rol _] => simp [WR]
 | x :: _ :: _ => cases x <;> simp [WR]
theorem Jo1 {zs : List Str} (nd : zs.Nodup) : ∀ i, i <= zs.length -> cntD (Jev zs) i = i
 | 0, _ => rfl
 | i + 1, hi => by
  have ih := Jo1 nd i (by omega)
  have hm : metB (Jev zs) i (Jev zs i) = false := by
   unfold metB
   rw [List.any_eq_false]
   intro j hj
   have hj := List.mem_range.mp hj
   simp only [decide_eq_true_eq]
   intro e
   simp only [Jev, List.getD_eq_getElem?_getD, List.getElem?_eq_getElem (show j < zs.length by omega), List.getElem?_eq_getElem (show i < zs.length by omega), Option.getD_some] at e
   have := (List.getElem_inj nd).mp e
   omega
  unfold cntD
  rw [hm, ih]
  rfl
theorem Jz6 (f : Nat -> Int) (b : Int) : ∀ (n : Nat), 0 < n -> (∀ j, j < n -> f j <= b) -> Je9 f n <= b
 | 0, h, _ => by omega
 | 1, _, q => q 0 (by omega)
 | n + 2, _, q => by
  rw [Jm8 f (by omega)]
  have := Jz6 f b (n + 1) (by omega) fun j hj => q j (by omega)
  have := q (n + 1) (by omega)
  split <;> omega
end
section
variable {h : IH} {Q : IV -> IH -> Prop} {i : Nat}
theorem J35 {k : Nat} {xs : List IV} {y : IV} (hi : h[i]? = some (.lst xs)) (hk : k < 1000000) (hy : xs[k]? = some y) : WR (popI (.ref i) [.int k] h) Q = Q y (h.set i (.lst (xs.eraseIdx k))) := by
 unfold popI
 simp only [hi, Int.toNat_natCast, hy]
 rw [if_pos (by omega)]
 rfl
theorem Jwr {j : Nat} {xs ys : List IV} (hi : h[i]? = some (.lst xs)) (hj : h[j]? = some (.lst ys)) (hl : xs.length + ys.length <= sizeLine) : WR (Jjt (.ref i) [.ref j] h) Q = Q .non (h.set i (.lst (xs ++ ys))) := by
 unfold Jjt
 simp only [hi, hj]
 rw [if_pos hl]
 rfl
theorem Jxz {ns : List Int} {k : Int} {j : Nat} (hi : h[i]? = some (.lst (ns.map .int))) (hj : ns.findIdx? (· == k) = some j) : WR (Jm9 (.ref i) [.int k] h) Q = Q (.int j) h := by
 unfold Jm9
 simp only [hi, Jdf, hj]
 rfl
theorem J3u {aa : A1} {σ : ISt} : WR (eLR aa σ h) Q = WR (aa σ h) fun xs h1 => ∃ j : Int, xs = [.int j] /\ (0 <= j /\ j <= 1000) /\ Q (.ref h1.length) (h1 ++ [.lst (rngI 0 j)]) := by
 unfold eLR
 rw [Je]
 congr
 funext xs h1
 split
 ·rename_i j
  by_cases hq : 0 <= j /\ j <= 1000
  ·simp [hq, WR]
  ·simp only [if_neg hq]
   refine propext ⟨fun z => (show False from z).elim, ?_⟩
   rintro ⟨j', e, z, _⟩
   cases e
   exact absurd z hq
 ·rename_i hne
  refine propext ⟨fun z => (show False from z).elim, ?_⟩
  rintro ⟨j', e, _⟩
  exact absurd e (hne j')
end
end L4
namespace L4
open PySem PySem.Spec PyProof.Rows L2 L3
noncomputable def KpB (i0 : Nat) (h h' : IH) : Prop := ∀ (j : Nat) (ob : IO), j ≠ i0 -> h[j]? = some ob -> h'[j]? = some ob
noncomputable def Kp (h h' : IH) : Prop := ∀ (j : Nat) (ob : IO), h[j]? = some ob -> h'[j]? = some ob
theorem KpB.trans {i0 : Nat} {a b c : IH} (p : KpB i0 a b) (q : KpB i0 b c) : KpB i0 a c := fun j ob n e => q j ob n (p j ob n e)
theorem Kp.trans {a b c : IH} (p : Kp a b) (q : Kp b c) : Kp a c := fun j ob e => q j ob (p j ob e)
theorem Kp.refl (a : IH) : Kp a a := fun _ _ e => e
theorem Kp.but {i0 : Nat} {a b : IH} (p : Kp a b) : KpB i0 a b := fun j ob _ e => p j ob e
theorem Ex.kp {a b : IH} (x : Ex a b) : Kp a b := fun _ _ e => x.get e
theorem J46 {chk : IH -> Prop} {e : E1} {caps : ISt} {D : IV -> IV -> IH -> Prop} (i0 : Nat) (mono : ∀ x y h2 h3, KpB i0 h2 h3 -> D x y h2 -> D x y h3) : ∀ {xs acc : List IV} {o : Option IV} {h1 : IH}, h1[i0]? = some (.lst acc) -> (∀ h2, KpB i0 h1 h2 -> chk h2) -> acc.length + xs.length < sizeLine ->
  (∀ x ∈ xs, ∀ h2 : IH, KpB i0 h1 h2 -> i0 < h2.length -> WR (e (some x :: caps) h2) fun v h3 => Ex h2 h3 /\ D x v h3) ->
  WR (Je6 chk (gNm 0) Jav e i0 xs (o :: caps) h1) fun v h3 => v = .ref i0 /\ ∃ ys, h3[i0]? = some (.lst (acc ++ ys)) /\ ys.length = xs.length /\ KpB i0 h1 h3 /\ ∀ (i : Nat) x y, xs[i]? = some x -> ys[i]? = some y -> D x y h3
 | [], acc, o, h1, hi, hc, _, _ => by
  unfold Je6
  rw [if_pos (hc h1 fun _ _ _ q => q)]
  exact ⟨rfl, [], by simpa using hi, rfl, fun _ _ _ q => q, fun i x y q => by simp at q⟩
 | x :: xs, acc, o, h1, hi, hc, hl, he => by
  unfold Je6
  rw [if_pos (hc h1 fun _ _ _ q => q)]
  dsimp only [gNm, List.set_cons_zero, Jav]
  have hl' : acc.length + xs.length + 1 < sizeLine := by simpa [Nat.add_assoc] using hl
  obtain ⟨v, h3, e3, x3, dv⟩ := (he x List.mem_cons_self h1 (fun _ _ _ q => q) (Jhk hi)).eq
  rw [e3]
  dsimp only
  rw [x3.get hi]
  dsimp only
  rw [if_pos (by omega)]
  have k34 : KpB i0 h3 (h3.set i0 (.lst (acc ++ [v]))) := fun j ob n q => by
   rw [List.getElem?_set_ne (Ne.symm n)]; exact q
  have k14 : KpB i0 h1 (h3.set i0 (.lst (acc ++ [v]))) := x3.kp.but.trans k34
  refine WR.mono (J46 i0 mono (acc := acc ++ [v]) (by rw [List.getElem?_set_self (Jhk (x3.get hi))]) (fun h4 q => hc h4 (k14.trans q)) (by simp; omega) fun y hy h4 q => he y (List.mem_cons_of_mem _ hy) h4 (k14.trans q)) ?_
  rintro w h5 ⟨rfl, ys, g5, ln, k5, d5⟩
  refine ⟨rfl, v :: ys, by simpa using g5, by simp [ln], k14.trans k5, ?_⟩
  intro i x' y' q1 q2
  cases i with
  | zero =>
   simp only [List.getElem?_cons_zero, Option.some.injEq] at q1 q2
   subst q1; subst q2
   exact mono _ _ _ _ (k34.trans k5) dv
  | succ i => exact d5 i x' y' (by simpa using q1) (by simpa using q2)
theorem Jsw {h h0 : IH} {it : I1} {e : E1} {js : List Nat} {σ : ISt} {xs : List IV} {chk : IH -> Prop} (D : IV -> IV -> IH -> Prop) (hit : WR (it σ h0) fun J h1 => J.xs = xs /\ J.chk = chk /\ h1 = h) (hl : xs.length < sizeLine)
  (mono : ∀ x y h2 h3, KpB h.length h2 h3 -> D x y h2 -> D x y h3) (hc : ∀ h2 : IH, Kp h h2 -> chk h2)
  (he : ∀ x ∈ xs, ∀ h2 : IH, Kp h h2 -> h.length < h2.length -> WR (e (some x :: js.map fun j => (σ[j]?).join) h2) fun v h3 => Ex h2 h3 /\ D x v h3) :
  WR (Jaj it 1 js (gNm 0) Jav e σ h0) fun v h3 => v = .ref h.length /\ ∃ ys, h3[h.length]? = some (.lst ys) /\ ys.length = xs.length /\ Kp h h3 /\ ∀ (i : Nat) x y, xs[i]? = some x -> ys[i]? = some y -> D x y h3 := by
 obtain ⟨J, h1, e1, q1, q2, rfl⟩ := hit.eq
 unfold Jaj
 rw [e1]
 show WR (Je6 J.chk (gNm 0) Jav e h1.length J.xs (none :: js.map fun j => (σ[j]?).join) (h1 ++ [.lst []])) _
 rw [q1, q2]
 have lift : ∀ {h2 : IH}, KpB h1.length (h1 ++ [IO.lst []]) h2 -> Kp h1 h2 := fun q j ob r => q j ob (Nat.ne_of_lt (Jhk r)) (grow r)
 refine WR.mono (J46 h1.length mono (acc := []) Jaw (fun h2 q => hc h2 (lift q)) (by simpa using hl) fun x hx h2 q ln => he x hx h2 (lift q) ln) ?_
 rintro v h3 ⟨rfl, ys, g3, ln, k3, d3⟩
 exact ⟨rfl, ys, by simpa using g3, ln, lift k3, d3⟩
end L4
namespace L4
open PySem PySem.Spec PyProof.Rows L2 L3
section
variable {h : IH}
end
end L4
namespace L4
open PySem PySem.Spec PyProof.Rows L2 L3
noncomputable def J0y (ts : List Addr) (H : Hp) : Prop := ∀ b, H b = none ∨ (∃ o xs, H b = some (.frz o (.lst xs))) ∨ (b ∈ ts /\ H b = some (.tbl #[]))
theorem Jxg {P : Program} {w : World} {K : W.Frag} {mg mb : Str -> Option Value} {k : Nat} {fa a : Addr} {fd : FuncData} {x : Str} {sp : Sp} {s₁ : Shared} {vs : List Value} {ns : List Int} {ts : List Addr}
  (KX : K.In s₁.heap) (hns : s₁.heap.Ns mainGlobals mg) (hb : s₁.heap.Ns builtinsNs mb) (hbb : ∀ x : Str, x ≠ "__name__" -> mb x = bootBuiltins x) (hlim : s₁.heap.NoLimit) (hg : s₁.gens = #[])
  (ha : s₁.heap.get? a = some { cls := .type "list", data := .seq vs.toArray }) (hi : IntsAre vs ns) (hl : ns.length <= sizeLine) (hr : Room k callerA)
  (hT : ∀ p ∈ ts, s₁.heap.get? p = some (W.tabObj #[]) /\ isCodeTable s₁.heap p /\ K.lookup p = none)
  (hbm : ∃ bm ob, mg "__builtins__" = some (.ref bm) /\ bm ≠ builtinsNs /\ s₁.heap.get? bm = some ob /\ ob.cls = .type "module" /\ ob.dict = some builtinsNs /\ ob.data = .plain)
  (F : ∀ base : Heap, K.In base -> base.Ns mainGlobals mg -> Jlu mg base -> FnOk P w K mg base CX0 k fa fd [x] sp) (hbind : ∀ (s : Shared) (u : Value), BindsTo s fd ⟨[u], []⟩ [(x, u)])
  (hsp : ∀ H : Hp, J0y ts H -> SqL K H a (ns.map V.int) -> (∀ p ∈ ts, H p = some (.tbl #[])) -> sp [.ref a] H (fun v _ => v = .bl true) fun _ _ _ => False) :
  codeAny (model P w) callerA (.call (.ref fa) ⟨[.ref a], []⟩) (fun r s' => r = .ok (.ret (.bool true)) /\ OldK s₁.heap s'.heap /\ s'.os = s₁.os /\ AllBare s'.gens) s₁ := by
 have rv := L2.Jd0 hi
 have lenV := hi.length
 have nta : a ∉ ts := fun z => by
  have e := (hT a z).1
  rw [ha] at e
  have e' := Option.some.inj e
  injection e' with h1
  cases h1
 have core : ∀ H : Hp, J0y ts H -> SqL K H a (ns.map V.int) -> HOk P w H s₁.heap -> (∀ b, H b ≠ none -> b = a ∨ b ∈ ts) -> (H a ≠ none -> K.lookup a = none) -> (∀ p ∈ ts, H p = some (.tbl #[])) ->
   codeAny (model P w) callerA (.call (.ref fa) ⟨[.ref a], []⟩) (fun r s' => r = .ok (.ret (.bool true)) /\ OldK s₁.heap s'.heap /\ s'.os = s₁.os /\ AllBare s'.gens) s₁ := by
  intro H hO hS hok hA hK hTt
  have base_of : ∀ {b : Addr} {o : Obj}, s₁.heap.get? b = some o -> H b = none -> (hidT s₁.heap H).get? b = some o := fun e n => Jza e n
  have noA : ∀ {b : Addr} {o : Obj}, s₁.heap.get? b = some o -> (∀ vs n, o.data ≠ .seq vs n) -> (∀ vs, o.data ≠ .fields vs) -> H b = none := fun {b o} e d1 d2 => by
   cases q : H b with
   | none => rfl
   | some u =>
    rcases hA b (by rw [q]; simp) with e' | e'
    ·subst e'
     rw [ha] at e; cases e
     exact absurd rfl (d1 _ _)
    ·rw [(hT b e').1] at e; cases e
     exact absurd rfl (d2 _)
  have nsK : ∀ {b : Addr} {m : Str -> Option Value}, s₁.heap.Ns b m -> (hidT s₁.heap H).Ns b m := fun {b m} ⟨o, es, ep, e, d, r⟩ => ⟨o, es, ep, base_of e (noA e (fun _ _ z => by rw [d] at z; cases z) fun _ z => by rw [d] at z; cases z), d, r⟩
  have hKb : K.In (hidT s₁.heap H) := fun b o e => base_of (KX b o e) (by
   cases q : H b with
   | none => rfl
   | some u =>
    rcases hA b (by rw [q]; simp) with e' | e'
    ·subst e'
     rw [hK (by rw [q]; simp)] at e; cases e
    ·rw [(hT b e').2.2] at e; cases e)
  have hM : Mod K mg (hidT s₁.heap H) := ⟨hKb, nsK hns, ⟨mb, nsK hb, hbb⟩, let ⟨mc, h1, h2⟩ := hlim; ⟨mc, nsK h1, h2⟩⟩
  have hB : Jlu mg (hidT s₁.heap H) := by
   obtain ⟨bm, ob, b1, b2, b3, b4, b5, b6⟩ := hbm
   refine ⟨bm, ob, b1, b2, fun z => ?_, base_of b3 (noA b3 (fun _ _ z => by rw [b6] at z; cases z) fun _ z => by rw [b6] at z; cases z), b4, b5, b6⟩
   obtain ⟨o, es, ep, e, d, _⟩ := hns
   rw [<- z, b3] at e
   cases e
   rw [b6] at d
   cases d
  have e0 : Env0 P w K mg (hidT s₁.heap H) callerA [] s₁ H := ⟨rfl, hM, fun b o e => J0z e, Nat.le_of_eq (Jwx _ _), trivial, fun b hb => absurd (show b ∈ ([] : List Addr) from hb) (by simp), hok, .of_eq hg⟩
  refine codeAny_mono ((F _ hKb (nsK hns) hB).run callerA [] s₁ H ⟨[.ref a], []⟩ [.ref a] [.ref a] _ _ hr e0 (hbind s₁ (.ref a)) (.cons rfl .nil) (hsp H hO hS hTt)) fun r s' h => ?_
  cases r with
  | error e => exact Zf h
  | ok fl =>
   cases fl with
   | next => exact False.elim h
   | brk => exact False.elim h
   | cont => exact False.elim h
   | ret u =>
    obtain ⟨v, H', os, bare, un, hok', r', q⟩ := h
    have q' : v = .bl true := q
    subst q'
    obtain rfl : u = Value.bool true := r'
    have main : ∀ b o, s₁.heap.get? b = some o -> asItWas s₁.heap s'.heap b o /\ ∃ o', s'.heap.get? b = some o' := fun b o e => by
     rcases hO b with z | ⟨ob, xs, z⟩ | ⟨hb, z⟩
     ·have := un.keep b o e z (by intro z; exact absurd (show b ∈ ([] : List Addr) from z) (by simp)) (by simp)
      exact ⟨.inl this, _, this⟩
     ·have z2 := un.frzs b ob _ z
      obtain ⟨e1, _⟩ := hok b _ z
      obtain ⟨e2, _⟩ := hok' b _ z2
      rw [e] at e1; cases e1
      exact ⟨.inl e2, _, e2⟩
     ·obtain ⟨more, z2⟩ := un.tbls b _ z
      have e2 := hok' b _ z2
      have e1 := (hT b hb).1
      rw [e] at e1
      cases e1
      exact ⟨.inr (.inl ⟨(hT b hb).2.1, rfl, #[], more, rfl, e2⟩), _, e2⟩
    exact ⟨rfl, ⟨fun b o e => (main b o e).1, fun b o e => (main b o e).2⟩, os, bare⟩
 cases hk : K.lookup a with
 | some o =>
  have e := KX a o hk
  rw [ha] at e
  cases e
  refine core (fun b => if b ∈ ts then some (.tbl #[]) else none) (fun b => ?_) (.inr ⟨_, vs.toArray, _, hk, rfl, rfl, rfl, by rw [List.size_toArray, lenV]; exact hl, by simpa using rv⟩) (fun b u z => ?_) (fun b z => ?_) (fun z => absurd (if_neg nta) z) fun p hp => if_pos hp
  ·by_cases hb : b ∈ ts
   ·exact .inr (.inr ⟨hb, if_pos hb⟩)
   ·exact .inl (if_neg hb)
  ·by_cases hb : b ∈ ts
   ·have z' := (if_pos hb).symm.trans z
    cases z'
    exact (hT b hb).1
   ·have z' := (if_neg hb).symm.trans z
    cases z'
  ·by_cases hb : b ∈ ts
   ·exact .inr hb
   ·exact absurd (if_neg hb) z
 | none =>
  refine core (fun b => if b = a then some (.frz { cls := .type "list", data := .seq vs.toArray } (.lst (ns.map V.int))) else if b ∈ ts then some (.tbl #[]) else none) (fun b => ?_) (.inl (.inr ⟨{ cls := .type "list", data := .seq vs.toArray }, if_pos rfl⟩)) (fun b u z => ?_) (fun b z => ?_) (fun _ => hk) fun p hp => ?_
  ·by_cases hb : b = a
   ·exact .inr (.inl ⟨_, _, if_pos hb⟩)
   ·by_cases hc : b ∈ ts
    ·exact .inr (.inr ⟨hc, (if_neg hb).trans (if_pos hc)⟩)
    ·exact .inl ((if_neg hb).trans (if_neg hc))
  ·by_cases hb : b = a
   ·have z' := (if_pos hb).symm.trans z
    cases z'
    subst hb
    exact ⟨ha, by rw [List.length_map]; exact hl, vs, _, rv, ha⟩
   ·by_cases hc : b ∈ ts
    ·have z' := ((if_neg hb).trans (if_pos hc)).symm.trans z
     cases z'
     exact (hT b hc).1
    ·have z' := ((if_neg hb).trans (if_neg hc)).symm.trans z
     cases z'
  ·by_cases hb : b = a
   ·exact .inl hb
   ·by_cases hc : b ∈ ts
    ·exact .inr hc
    ·exact absurd ((if_neg hb).trans (if_neg hc)) z
  ·have hb : p ≠ a := fun z => nta (z ▸ hp)
   exact (if_neg hb).trans (if_pos hp)
noncomputable def Jx1 (o : Obj) (q : Str) : Bool := match o with
 | ⟨_, _, .fields vs, _⟩ => (match vs.toList with | _ :: .str n _ :: _ => n == q | _ => false)
 | _ => false
noncomputable def Jma (K : W.Frag) (q : Str) (p : Addr) : Bool := (K.lookup p).isNone && K.all (fun e => !(Jx1 e.2 q) || W.codeHdIn K e.1 p) && K.any (fun e => Jx1 e.2 q && W.codeHdIn K e.1 p)
noncomputable def Jdo (K : W.Frag) : List Str -> List Addr -> Bool
 | [], [] => true
 | q :: qs, p :: ps => Jma K q p && !ps.contains p && Jdo K qs ps
 | _, _ => false
theorem Jtd {K : W.Frag} {c : Addr} {o : Obj} (h : K.lookup c = some o) : (c, o) ∈ K := by
 induction K with
 | nil => cases h
 | cons p K ih =>
  obtain ⟨b, o'⟩ := p
  rw [List.lookup_cons] at h
  split at h
  ·rename_i e
   cases h
   rw [beq_iff_eq.mp e]
   exact List.mem_cons_self
  ·exact List.mem_cons_of_mem _ (ih h)
theorem Jma.code {K : W.Frag} {q : Str} {p : Addr} (h : Jma K q p = true) : ∀ cdv, W.codeIn K cdv q = true -> ∃ c, cdv = .ref c /\ W.codeHdIn K c p = true := by
 simp only [Jma, Bool.and_eq_true, List.all_eq_true, Bool.or_eq_true, Bool.not_eq_true'] at h
 intro cdv e
 unfold W.codeIn at e
 split at e
 ·rename_i c
  refine ⟨c, rfl, ?_⟩
  cases hk : K.lookup c with
  | none => rw [hk] at e; cases e
  | some o =>
   rw [hk] at e
   rcases h.1.2 _ (Jtd hk) with z | z
   ·exfalso
    have e' : Jx1 o q = true := by
     obtain ⟨oc, od, dt, sl⟩ := o
     cases dt <;> first | exact e | cases e
    have z' : Jx1 o q = false := z
    rw [e'] at z'
    cases z'
   ·exact z
 ·cases e
theorem Jma.some {K : W.Frag} {q : Str} {p : Addr} (h : Jma K q p = true) : K.lookup p = none /\ ∃ c, W.codeHdIn K c p = true := by
 simp only [Jma, Bool.and_eq_true, List.any_eq_true, Option.isNone_iff_eq_none] at h
 obtain ⟨⟨h1, _⟩, e, _, h2⟩ := h
 exact ⟨h1, e.1, h2.2⟩
theorem Jdo.mem {K : W.Frag} : ∀ {qs : List Str} {ts : List Addr}, Jdo K qs ts = true -> ts.Nodup /\ qs.length = ts.length /\ (∀ (i : Nat) (q : Str), qs[i]? = some q -> ∃ p, ts[i]? = some p /\ Jma K q p = true) /\ ∀ p ∈ ts, ∃ q, Jma K q p = true
 | [], [], _ => ⟨.nil, rfl, fun i q e => by simp at e, fun p hp => by cases hp⟩
 | q :: qs, p :: ps, h => by
  simp only [Jdo, Bool.and_eq_true, Bool.not_eq_true', List.contains_eq_mem, decide_eq_false_iff_not] at h
  obtain ⟨⟨h1, h2⟩, h3⟩ := h
  obtain ⟨a, b, c, d⟩ := Jdo.mem h3
  refine ⟨List.nodup_cons.mpr ⟨h2, a⟩, by simp [b], fun i r e => ?_, fun r hr => ?_⟩
  ·cases i with
   | zero =>
    have e' : some q = some r := e
    cases e'
    exact ⟨p, rfl, h1⟩
   | succ i => exact c i r e
  ·rcases List.mem_cons.mp hr with rfl | hr
   ·exact ⟨q, h1⟩
   ·exact d r hr
 | [], _ :: _, h => by cases h
 | _ :: _, [], h => by cases h
theorem Jud {K : W.Frag} {x : Str} {f : List IV -> IH -> Res IV} {H : Hp} {a : Addr} {ns : List Int} {qs : List Str} {ts : List Addr} (hO : J0y ts H) (hS : SqL K H a (ns.map V.int)) (hT : ∀ p ∈ ts, H p = some (.tbl #[])) (hc : Jdo K qs ts = true)
  (hf : ∃ h', f [.rol (ns.map IV.int)] (qs.map IO.tab) = .ok (.bl true) h') : Jtq K x f [.ref a] H (fun v _ => v = .bl true) fun _ _ _ => False := by
 intro ce
 obtain ⟨h', hf⟩ := hf
 have sr : SqR K H a (ns.map V.int) := by
  rcases hS with (h | ⟨o, h⟩) | h
  ·rcases hO a with z | ⟨ob, xs, z⟩ | ⟨_, z⟩
   ·rw [z] at h; cases h
   ·rw [z] at h; cases h
   ·rw [z] at h; cases h
  ·exact .inl ⟨o, h⟩
  ·exact .inr h
 obtain ⟨nd, le, at_, _⟩ := Jdo.mem hc
 refine ⟨rfl, ts, qs.map IO.tab, [.rol (ns.map IV.int)], ⟨by simp [le], nd, fun i o e => ?_⟩, ⟨.ref a, [], rfl, ⟨a, _, rfl, sr, RVs.ints ns⟩, rfl⟩, ?_⟩
 ·rw [List.getElem?_map] at e
  cases eq : qs[i]? with
  | none => rw [eq] at e; cases e
  | some q =>
   rw [eq] at e
   cases e
   obtain ⟨p, ep, hp⟩ := at_ i q eq
   exact ⟨p, ep, Jma.code hp, #[], hT p (List.mem_of_getElem? ep), trivial, fun pos cv z => by cases z⟩
 ·rw [hf]
  intro v H' ι' _ _ q
  exact q
theorem Jzb {l : W.OpenLaw} {n k : Nat} {q : Program} {loose : List Str} {XP : (Str -> Option Value) -> Heap -> Prop} {YP : World -> Heap -> Prop} {d : DefRec} {K : Params -> W.Frag} {f : List IV -> IH -> Res IV} {x : Str} {qs : List Str} {ts : List Addr}
  (hn : l.most = some n) (hn2 : n <= sizeLine) (hdf : d.params.defaults = []) (hr : Room k callerA)
  (hY : ∀ (w : World) (h : Heap), YP w h -> (K w.params).In h /\ ∀ p ∈ ts, h.get? p = some (W.tabObj #[])) (hc : ∀ w : World, Jdo (K w.params) qs ts = true)
  (F : ∀ (w : World) (mg : Str -> Option Value) (fa : Addr) (h : Heap), (K w.params).In h -> h.Ns mainGlobals mg -> mg d.name = some (.ref fa) ->
   ∃ fd : FuncData, (∀ (s : Shared) (u : Value), BindsTo s fd ⟨[u], []⟩ [(x, u)]) /\
    ∀ base : Heap, (K w.params).In base -> base.Ns mainGlobals mg -> Jlu mg base -> FnOk l.prog w (K w.params) mg base CX0 k fa fd [x] (Jtq (K w.params) x f))
  (hf : ∀ ns : List Int, ns.length <= n -> ∃ h', f [.rol (ns.map IV.int)] (qs.map IO.tab) = .ok (.bl true) h') :
  W.WalkO q loose XP YP l.row.toRowW d [] (fun f vs => PySem.call f vs) := by
 refine Att.attach_call hn hdf fun w s₀ s₁ mg mb fa o pm cd doc a vs ns G Y ho hd hcd hmg hobj hints hlen hg => ?_
 obtain ⟨KX, hT⟩ := hY w _ Y
 obtain ⟨fd, hb, hF⟩ := F w mg fa _ KX G.T.g hmg
 refine Jxg KX G.T.g G.T.b G.T.builtins G.T.nolimit hg hobj hints (Nat.le_trans hlen hn2) hr (fun p hp => ?_) G.T.bmain hF hb fun H hO hS hTt => Jud hO hS hTt (hc w) (hf ns hlen)
 obtain ⟨q, hq⟩ := (Jdo.mem (hc w)).2.2.2 p hp
 obtain ⟨h1, c, h2⟩ := Jma.some hq
 exact ⟨hT p hp, ((W.codeHd_of_K KX h2).tab (hT p hp)).isCodeTable, h1⟩
end L4
namespace L4
open PySem PySem.Spec PyProof.Rows L2 L3
noncomputable def Jdu (kf : IV -> Int) : IV -> List IV -> IV
 | b, [] => b
 | b, y :: r => if kf y > kf b then Jdu kf y r else Jdu kf b r
theorem Jjd (kf : IV -> Int) : ∀ (r : List IV) (b : IV), Jdu kf b r = b ∨ Jdu kf b r ∈ r
 | [], b => .inl rfl
 | y :: r, b => by
  unfold Jdu
  split
  ·rcases Jjd kf r y with e | e
   ·rw [e]; exact .inr List.mem_cons_self
   ·exact .inr (List.mem_cons_of_mem _ e)
  ·rcases Jjd kf r b with e | e
   ·exact .inl e
   ·exact .inr (List.mem_cons_of_mem _ e)
theorem Jls (kf : IV -> Int) : ∀ (r : List IV) (b : IV), kf b <= kf (Jdu kf b r) /\ ∀ y ∈ r, kf y <= kf (Jdu kf b r)
 | [], b => ⟨Int.le_refl _, fun y hy => by cases hy⟩
 | y :: r, b => by
  unfold Jdu
  split
  ·rename_i h
   obtain ⟨h1, h2⟩ := Jls kf r y
   exact ⟨by omega, fun z hz => by
    rcases List.mem_cons.mp hz with rfl | hz
    ·exact h1
    ·exact h2 z hz⟩
  ·rename_i h
   obtain ⟨h1, h2⟩ := Jls kf r b
   exact ⟨h1, fun z hz => by
    rcases List.mem_cons.mp hz with rfl | hz
    ·omega
    ·exact h2 z hz⟩
theorem Jlh {mk : IV -> IH -> Res IV} {kf : IV -> Int} {i : Nat} {ys : List IV} {h0 : IH} (hi : h0[i]? = some (.lst ys)) (hm : ∀ y ∈ ys, ∀ h, Ex h0 h -> WR (mk y h) fun v h' => v = .int (kf y) /\ Ex h h') :
  ∀ (r : Nat) (b : IV) (h : IH), Ex h0 h -> r <= ys.length -> WR (Jg9 gtZ mk i ys.length r b (.int (kf b)) h) fun v h' => v = Jdu kf b (ys.drop (ys.length - r)) /\ Ex h h'
 | 0, b, h, x, _ => by
  unfold Jg9
  rw [x.get hi]
  dsimp only
  rw [if_pos rfl]
  refine ⟨?_, .refl _⟩
  rw [Nat.sub_zero, List.drop_length]
  rfl
 | r + 1, b, h, x, hr => by
  unfold Jg9
  rw [x.get hi]
  dsimp only
  rw [if_pos rfl]
  have hlt : ys.length - (r + 1) < ys.length := by omega
  rw [List.getElem?_eq_getElem hlt]
  dsimp only
  have hd : ys.drop (ys.length - (r + 1)) = ys[ys.length - (r + 1)] :: ys.drop (ys.length - r) := by
   rw [List.drop_eq_getElem_cons hlt, show ys.length - (r + 1) + 1 = ys.length - r by omega]
  obtain ⟨v, h2, e, rfl, x2⟩ := (hm _ (List.getElem_mem hlt) h x).eq
  rw [e, hd]
  show WR (match gtZ (.int (kf ys[ys.length - (r + 1)])) (.int (kf b)) with | some true => _ | some false => _ | none => _) _
  unfold gtZ
  dsimp only
  unfold Jdu
  by_cases hb : kf ys[ys.length - (r + 1)] > kf b
  ·rw [decide_eq_true hb, if_pos hb]
   exact WR.mono (Jlh hi hm r _ h2 (x.trans x2) (by omega)) fun v h' ⟨a, c⟩ => ⟨a, x2.trans c⟩
  ·rw [decide_eq_false hb, if_neg hb]
   exact WR.mono (Jlh hi hm r _ h2 (x.trans x2) (by omega)) fun v h' ⟨a, c⟩ => ⟨a, x2.trans c⟩
noncomputable def Jtf (kf : IV -> Int) (d : IV) : List IV -> IV
 | [] => d
 | y :: r => Jdu kf y r
theorem Jzh {mk : IV -> IH -> Res IV} {kf : IV -> Int} {i : Nat} {ys : List IV} {h : IH} {d : IV} (hi : h[i]? = some (.lst ys)) (hm : ∀ y ∈ ys, ∀ h', Ex h h' -> WR (mk y h') fun v h2 => v = .int (kf y) /\ Ex h' h2) :
  WR (Juj gtZ mk i d h) fun v h' => v = Jtf kf d ys /\ Ex h h' := by
 unfold Juj
 rw [hi]
 dsimp only
 cases ys with
 | nil => exact ⟨rfl, .refl _⟩
 | cons y r =>
  obtain ⟨v, h2, e, rfl, x2⟩ := (hm y List.mem_cons_self h (.refl _)).eq
  show WR ((mk y h).nx.bind fun k h' => Jg9 gtZ mk i (y :: r).length ((y :: r).length - 1) y k h') _
  rw [e]
  have := Jlh (kf := kf) (x2.get hi) (fun z hz h' x => hm z hz h' (x2.trans x)) ((y :: r).length - 1) y h2 (.refl _) (by simp)
  refine WR.mono this fun v h' ⟨a, c⟩ => ⟨?_, x2.trans c⟩
  rw [a]
  simp [Jtf]
end L4
namespace LW
theorem Kaz {α : Sort _} {p : α -> Prop} {a' : α} : (∃ a, a' = a /\ p a) ↔ p a' := exists_eq_left'
theorem Kbz {α : Sort _} {p : α -> Prop} {a' : α} : (∃ a, a = a' /\ p a) ↔ p a' := exists_eq_left
theorem Kcz (a b : Bool) : (L3.IV.bl a = L3.IV.bl b) = (a = b) := L3.IV.bl.injEq a b
theorem Kdz (a b : Int) : (L3.IV.int a = L3.IV.int b) = (a = b) := L3.IV.int.injEq a b
theorem Kez (a b : Nat) : (L3.IV.ref a = L3.IV.ref b) = (a = b) := L3.IV.ref.injEq a b
theorem Kfz (a b : PySem.Str) : (L3.IV.str a = L3.IV.str b) = (a = b) := L3.IV.str.injEq a b
theorem Kgz (a b : List L3.IV) : (L3.IV.tup a = L3.IV.tup b) = (a = b) := L3.IV.tup.injEq a b
theorem Khz (a b : List L3.IV) : (L3.IO.lst a = L3.IO.lst b) = (a = b) := L3.IO.lst.injEq a b
theorem Kiz {α : Type _} (a b : α) : (some a = some b) = (a = b) := Option.some.injEq a b
theorem Kjz : (!true) = false := Bool.not_true
theorem Kkz : (!false) = true := Bool.not_false
theorem Klz : (true = false) = False := Bool.true_eq_false
theorem Kmz : (false = true) = False := Bool.false_eq_true
theorem Knz {α β : Type _} (a : α) (f : α -> Option β) : (some a).bind f = f a := Option.bind_some a f
theorem Koz (p : Prop) : (True -> p) = p := true_implies p
theorem Kpz (p : Prop) : (False -> p) = True := false_implies p
theorem Kqz (α : Sort _) : (α -> True) = True := implies_true α
theorem Krz {α : Type _} {a b : α} {l : List α} {n : Nat} : (a :: l).set (n + 1) b = a :: l.set n b := List.set_cons_succ
theorem Ksz {α : Type _} {a b : α} {l : List α} : (a :: l).set 0 b = b :: l := List.set_cons_zero
theorem Ktz {α : Type _} {a : α} {l m : List α} : (a :: l) ++ m = a :: (l ++ m) := List.cons_append
theorem Kuz {α : Type _} (l : List α) : [] ++ l = l := List.nil_append l
theorem Kvz {α : Type _} (l : List α) : l ++ [] = l := List.append_nil l
end LW
namespace LW
open PySem L2 L3 L4
noncomputable def top (i : Nat) : Stmt := PySem.Challenge.pw_dutyproof_k56_longer_duties_asked.main.body.getD i (.Pass ⟨0, 0, 0, 0⟩)
noncomputable def Jam : D4 := ⟨top 7, "is_whole", ["thing"], ["thing"], []⟩
noncomputable def Jo : D4 := ⟨top 8, "is_whole_from", ["thing", "least"], ["thing", "least"], []⟩
noncomputable def J7 : D4 := ⟨top 9, "rounds_up", ["top", "bottom"], ["top", "bottom"], []⟩
noncomputable def Ja1 : D4 := ⟨top 16, "is_name", ["thing"], ["thing"], []⟩
noncomputable def Ja0 : D4 := ⟨top 17, "is_hold", ["hold", "length"], ["hold", "length"], []⟩
noncomputable def Jaf : D4 := ⟨top 18, "lie_apart", ["one", "other"], ["one", "other"], []⟩
noncomputable def Ja5 : D4 := ⟨top 19, "lies_in", ["one", "other"], ["one", "other"], []⟩
noncomputable def Js : D4 := ⟨top 20, "go_together", ["one", "other"], ["one", "other"], []⟩
noncomputable def Jj : D4 := ⟨top 21, "all_go_together", ["holds"], ["holds", "place", "hold"], []⟩
noncomputable def J4 : D4 := ⟨top 22, "own_holds", ["holds", "length"], ["holds", "length"], []⟩
noncomputable def Ja3 : D4 := ⟨top 23, "own_due", ["due", "gap"], ["due", "gap"], []⟩
noncomputable def Ju : D4 := ⟨Jfs (top 24) 0, "Work.__init__", ["self", "name", "gap", "length", "due", "late", "holds"], ["self", "name", "gap", "length", "due", "late", "holds"], [.non, .int 0, .non]⟩
noncomputable def J9 : D4 := ⟨Jfs (top 24) 1, "Work.held", ["self"], ["self"], []⟩
noncomputable def Jah : D4 := ⟨top 28, "own_works", ["works"], ["works"], []⟩
noncomputable def Jar : D4 := ⟨top 29, "crowd_of", ["works"], ["works", "greatest"], []⟩
noncomputable def J6 : D4 := ⟨Jfs (top 30) 0, "Duty.__init__", ["self", "works"], ["self", "works"], []⟩
noncomputable def Jab : D4 := ⟨Jfs (top 30) 1, "Duty.size", ["self"], ["self"], []⟩
noncomputable def Jaa : D4 := ⟨Jfs (top 30) 2, "Duty.work", ["self", "at"], ["self", "at"], []⟩
noncomputable def J3 : D4 := ⟨Jfs (top 30) 4, "Duty.crowd", ["self"], ["self"], []⟩
noncomputable def Jl : D4 := ⟨Jfs (top 30) 5, "Duty.reordered", ["self", "places"], ["self", "places"], []⟩
noncomputable def Jr : D4 := ⟨Jfs (top 30) 6, "Duty.longer", ["self", "at", "more"], ["self", "at", "more", "works", "old"], []⟩
noncomputable def Jan : D4 := ⟨top 32, "ceilings", ["duty"], ["duty", "found", "at", "hold"], []⟩
noncomputable def Jaz : D4 := ⟨top 33, "ceiling", ["duty", "thing"], ["duty", "thing"], []⟩
noncomputable def J1 : D4 := ⟨top 34, "turns_held", ["hold"], ["hold"], []⟩
noncomputable def Jq : D4 := ⟨top 35, "longest_hold", ["duty", "at"], ["duty", "at", "tops", "found", "weaker"], []⟩
noncomputable def Ja4 : D4 := ⟨top 36, "hold_up", ["duty", "at"], ["duty", "at", "longest"], []⟩
noncomputable def J0 : D4 := ⟨top 38, "comings_in", ["work", "span"], ["work", "span"], []⟩
noncomputable def Jga : D4 := ⟨top 39, "load", ["duty", "at", "span"], ["duty", "at", "span", "stronger", "asked_ahead"], []⟩
noncomputable def Ja2 : D4 := ⟨top 41, "dues_in", ["work", "span"], ["work", "span", "spare"], []⟩
noncomputable def Jbm : D4 := ⟨top 42, "demand", ["duty", "span"], ["duty", "span"], []⟩
noncomputable def Jct : D4 := ⟨top 43, "asked", ["duty", "span"], ["duty", "span"], []⟩
noncomputable def Jw : D4 := ⟨top 45, "_law_cell_at", ["_law_script", "_law_k"], ["_law_script", "_law_k"], []⟩
noncomputable def Jae : D4 := ⟨top 46, "_law_names", ["_law_cell", "_law_many"], ["_law_cell", "_law_many", "_law_letters", "_law_size", "_law_at", "_law_names_here", "_law_k", "_law_name", "_law_j", "_law_sign"], []⟩
noncomputable def J8 : D4 := ⟨top 47, "_law_parts", ["_law_script", "_law_k", "_law_unit", "_law_name", "_law_things"], ["_law_script", "_law_k", "_law_unit", "_law_name", "_law_things", "_law_cell", "_law_gap", "_law_due", "_law_late", "_law_length", "_law_holds", "_law_start"], []⟩
noncomputable def Jad : D4 := ⟨top 48, "_law_order", ["_law_cell", "_law_many"], ["_law_cell", "_law_many", "_law_left", "_law_found", "_law_k"], []⟩
noncomputable def Jao : D4 := ⟨top 49, "_law_duty", ["_law_some"], ["_law_some"], []⟩
noncomputable def Jap : D4 := ⟨top 50, "_law_told", ["_law_duty_here", "_law_spans_of", "_law_things"], ["_law_duty_here", "_law_spans_of", "_law_things", "_law_found", "_law_span", "_law_at"], []⟩
noncomputable def Jag : D4 := ⟨top 51, "_law_grown", ["_law_some", "_law_at", "_law_more"], ["_law_some", "_law_at", "_law_more", "_law_found"], []⟩
noncomputable def Jl3 : D4 := ⟨top 52, "law", ["_law_script"], ["_law_script", "_law_many", "_law_unit", "_law_names_here", "_law_some", "_law_sizes", "_law_duty_here", "_law_before", "_law_order_here", "_law_at", "_law_more", "_law_turned", "_law_grown_here", "_law_both", "_law_other", "_law_parts_here"], []⟩
noncomputable def T : Tab where
 fns := [("is_whole", Jam), ("is_whole_from", Jo), ("rounds_up", J7), ("is_name", Ja1), ("is_hold", Ja0), ("lie_apart", Jaf), ("lies_in", Ja5), ("go_together", Js), ("all_go_together", Jj), ("own_holds", J4), ("own_due", Ja3), ("own_works", Jah), ("crowd_of", Jar), ("ceilings", Jan), ("ceiling", Jaz), ("turns_held", J1), ("longest_hold", Jq), ("hold_up", Ja4), ("comings_in", J0), ("load", Jga), ("dues_in", Ja2), ("demand", Jbm), ("asked", Jct), ("_law_cell_at", Jw), ("_law_names", Jae), ("_law_parts", J8), ("_law_order", Jad), ("_law_duty", Jao), ("_law_told", Jap), ("_law_grown", Jag), ("law", Jl3)]
 clss := [("Work", Ju), ("Duty", J6)]
 meths := [("Work", [("held", J9)]), ("Duty", [("size", Jab), ("work", Jaa), ("crowd", J3), ("reordered", Jl), ("longer", Jr)])]
 cons := [("MOST_LETTERS", .int 8), ("MOST_HOLDS", .int 6), ("THING", .int 0), ("START", .int 1), ("END", .int 2), ("MOST_WORKS", .int 12), ("MOST_CROWD", .int 80)]
 isas := [("Work", ["Work"]), ("Duty", ["Duty"])]
 flds := ["append", "due", "extend", "gap", "get", "hold_tuples", "index", "late", "length", "name", "pop", "setdefault", "works"]
 frees := ["all", "bool", "enumerate", "int", "isinstance", "len", "list", "max", "range", "set", "sorted", "str", "sum", "tuple"]
 tabs := ["longest_hold"]
noncomputable abbrev pg (k : Nat) : Pg := mkPg T (run T k)
noncomputable abbrev Jdy (k : Nat) : List IV -> IH -> Res IV := run T k Jam
noncomputable abbrev Jv (k : Nat) : List IV -> IH -> Res IV := run T k Jo
noncomputable abbrev Jc2 (k : Nat) : List IV -> IH -> Res IV := run T k J7
noncomputable abbrev Jfg (k : Nat) : List IV -> IH -> Res IV := run T k Ja1
noncomputable abbrev Jh1 (k : Nat) : List IV -> IH -> Res IV := run T k Ja0
noncomputable abbrev Jef (k : Nat) : List IV -> IH -> Res IV := run T k Jaf
noncomputable abbrev Jff (k : Nat) : List IV -> IH -> Res IV := run T k Ja5
noncomputable abbrev Jch (k : Nat) : List IV -> IH -> Res IV := run T k Js
noncomputable abbrev Ja7 (k : Nat) : List IV -> IH -> Res IV := run T k Jj
noncomputable abbrev Jbx (k : Nat) : List IV -> IH -> Res IV := run T k J4
noncomputable abbrev Jdz (k : Nat) : List IV -> IH -> Res IV := run T k Ja3
noncomputable abbrev Jbs (k : Nat) : List IV -> IH -> Res IV := run T k Ju
noncomputable abbrev Jd5 (k : Nat) : List IV -> IH -> Res IV := run T k J9
noncomputable abbrev Jeg (k : Nat) : List IV -> IH -> Res IV := run T k Jah
noncomputable abbrev Jgu (k : Nat) : List IV -> IH -> Res IV := run T k Jar
noncomputable abbrev Jbg (k : Nat) : List IV -> IH -> Res IV := run T k J6
noncomputable abbrev Jei (k : Nat) : List IV -> IH -> Res IV := run T k Jab
noncomputable abbrev Jem (k : Nat) : List IV -> IH -> Res IV := run T k Jaa
noncomputable abbrev Jbc (k : Nat) : List IV -> IH -> Res IV := run T k Jl
noncomputable abbrev Jcg (k : Nat) : List IV -> IH -> Res IV := run T k Jr
noncomputable abbrev Jci (k : Nat) : List IV -> IH -> Res IV := run T k Jan
noncomputable abbrev Jh9 (k : Nat) : List IV -> IH -> Res IV := run T k Jaz
noncomputable abbrev Jb2 (k : Nat) : List IV -> IH -> Res IV := run T k J1
noncomputable abbrev Jby (k : Nat) : List IV -> IH -> Res IV := run T k Jq
noncomputable abbrev Jfy (k : Nat) : List IV -> IH -> Res IV := run T k Ja4
noncomputable abbrev Jb4 (k : Nat) : List IV -> IH -> Res IV := run T k J0
noncomputable abbrev Jm6 (k : Nat) : List IV -> IH -> Res IV := run T k Jga
noncomputable abbrev Jh0 (k : Nat) : List IV -> IH -> Res IV := run T k Ja2
noncomputable abbrev Jkm (k : Nat) : List IV -> IH -> Res IV := run T k Jbm
noncomputable abbrev Jnk (k : Nat) : List IV -> IH -> Res IV := run T k Jct
noncomputable abbrev Jn (k : Nat) : List IV -> IH -> Res IV := run T k Jw
noncomputable abbrev Jc8 (k : Nat) : List IV -> IH -> Res IV := run T k Jae
noncomputable abbrev Jd6 (k : Nat) : List IV -> IH -> Res IV := run T k J8
noncomputable abbrev Jek (k : Nat) : List IV -> IH -> Res IV := run T k Jad
noncomputable abbrev Jbi (k : Nat) : List IV -> IH -> Res IV := run T k Jao
noncomputable abbrev Jz (k : Nat) : List IV -> IH -> Res IV := run T k Jap
noncomputable abbrev Jcn (k : Nat) : List IV -> IH -> Res IV := run T k Jag
noncomputable abbrev Jrt (k : Nat) : List IV -> IH -> Res IV := run T k Jl3
noncomputable def Jj0 (k : Nat) : S1 := (sRet (eAnd (eIsi Jco (eVar 0)) (eUn (Jtx tru) (eIsi Jbh (eVar 0))) tru))
theorem Jr5 (k : Nat) : Jdy (k + 1) = fnI 1 (Jj0 k) := by kernel_rfl
theorem Jro (k : Nat) (x0 : IV) (h : IH) : Jdy (k + 1) [x0] h = (Jj0 k [some x0] h).fin := by rw [Jr5]; rfl
noncomputable def Jbv (k : Nat) : S1 := (sRet (eAnd (Jm (Jdy k) [] (Ja (eVar 0) aNil)) (eBin cGe (eVar 0) (eVar 1)) tru))
theorem Jka (k : Nat) : Jv (k + 1) = fnI 2 (Jbv k) := by kernel_rfl
theorem Jkh (k : Nat) (x0 x1 : IV) (h : IH) : Jv (k + 1) [x0, x1] h = (Jbv k [some x0, some x1] h).fin := by rw [Jka]; rfl
noncomputable def Jd9 (k : Nat) : S1 := (sRet (eBin Ja8 (eBin Jl6 (eBin Jal (eVar 0) (eVar 1)) (eC (.int 1))) (eVar 1)))
theorem Jos (k : Nat) : Jc2 (k + 1) = fnI 2 (Jd9 k) := by kernel_rfl
theorem Jqb (k : Nat) (x0 x1 : IV) (h : IH) : Jc2 (k + 1) [x0, x1] h = (Jd9 k [some x0, some x1] h).fin := by rw [Jos]; rfl
noncomputable def Jen (k : Nat) : E1 := (Jgd cLe cLe (eC (.str "a")) (eVar 0) (eC (.str "z")))
noncomputable def Jk2 (k : Nat) : S1 := (sRet (eCB (on1 allI) (Ja (Jaj (iAny (eVar 0)) 1 [] (gNm 0) Jav (Jen k)) aNil)))
noncomputable def Jhl (k : Nat) : S1 := sSeq (sIf (tOrI (Jc9 (tOfB tru (eIsi Jc3 (eVar 0)))) (Jc9 (tOfB asB (Jgd cLe cLe (eC (.int 1)) (eCB (on1 lenI) (Ja (eVar 0) aNil)) (eC (.int 8)))))) (sRet (eC (.bl false))) sNil) (Jk2 k)
theorem Jtp (k : Nat) : Jfg (k + 1) = fnI 1 (Jhl k) := by kernel_rfl
theorem Jt4 (k : Nat) (x0 : IV) (h : IH) : Jfg (k + 1) [x0] h = (Jhl k [some x0] h).fin := by rw [Jtp]; rfl
noncomputable def Jlm (k : Nat) : S1 := (sRet (eAnd (Jm (Jv k) [] (Ja (eBin opIx (eVar 0) (eC (.int 2))) (Ja (eBin Jal (eBin opIx (eVar 0) (eC (.int 1))) (eC (.int 1))) aNil))) (eBin cLt (eBin opIx (eVar 0) (eC (.int 2))) (eVar 1)) tru))
noncomputable def Jlz (k : Nat) : S1 := sSeq (sIf (Jc9 (tOfB tru (Jm (Jv k) [] (Ja (eBin opIx (eVar 0) (eC (.int 1))) (Ja (eC (.int 0)) aNil))))) (sRet (eC (.bl false))) sNil) (Jlm k)
noncomputable def Jhm (k : Nat) : S1 := sSeq (sIf (tOrI (Jc9 (tOfB tru (eIsi Jcw (eVar 0)))) (tOrI (tOfB asB (eBin cNe (eCB (on1 lenI) (Ja (eVar 0) aNil)) (eC (.int 3)))) (Jc9 (tOfB tru (Jm (Jfg k) [] (Ja (eBin opIx (eVar 0) (eC (.int 0))) aNil)))))) (sRet (eC (.bl false))) sNil) (Jlz k)
theorem Jux (k : Nat) : Jh1 (k + 1) = fnI 2 (Jhm k) := by kernel_rfl
theorem Juq (k : Nat) (x0 x1 : IV) (h : IH) : Jh1 (k + 1) [x0, x1] h = (Jhm k [some x0, some x1] h).fin := by rw [Jux]; rfl
noncomputable def Jd4 (k : Nat) : S1 := (sRet (eOr (eBin cLe (eBin opIx (eVar 0) (eC (.int 2))) (eBin opIx (eVar 1) (eC (.int 1)))) (eBin cLe (eBin opIx (eVar 1) (eC (.int 2))) (eBin opIx (eVar 0) (eC (.int 1)))) tru))
theorem Jot (k : Nat) : Jef (k + 1) = fnI 2 (Jd4 k) := by kernel_rfl
theorem Jqo (k : Nat) (x0 x1 : IV) (h : IH) : Jef (k + 1) [x0, x1] h = (Jd4 k [some x0, some x1] h).fin := by rw [Jot]; rfl
noncomputable def Jhj (k : Nat) : S1 := (sRet (eAnd (eBin cLe (eBin opIx (eVar 1) (eC (.int 1))) (eBin opIx (eVar 0) (eC (.int 1)))) (eBin cLe (eBin opIx (eVar 0) (eC (.int 2))) (eBin opIx (eVar 1) (eC (.int 2)))) tru))
theorem Jtl (k : Nat) : Jff (k + 1) = fnI 2 (Jhj k) := by kernel_rfl
theorem Jup (k : Nat) (x0 x1 : IV) (h : IH) : Jff (k + 1) [x0, x1] h = (Jhj k [some x0, some x1] h).fin := by rw [Jtl]; rfl
noncomputable def Jf3 (k : Nat) : S1 := (sRet (eOr (Jm (Jff k) [] (Ja (eVar 0) (Ja (eVar 1) aNil))) (Jm (Jff k) [] (Ja (eVar 1) (Ja (eVar 0) aNil))) tru))
noncomputable def Jgk (k : Nat) : S1 := sSeq (sIf (tOfB asB (eBin cEq (eBin opIx (eVar 0) (eC (.int 0))) (eBin opIx (eVar 1) (eC (.int 0))))) (sRet (eC (.bl false))) sNil) (Jf3 k)
noncomputable def Jcl (k : Nat) : S1 := sSeq (sIf (tOfB tru (Jm (Jef k) [] (Ja (eVar 0) (Ja (eVar 1) aNil)))) (sRet (eC (.bl true))) sNil) (Jgk k)
theorem Jme (k : Nat) : Jch (k + 1) = fnI 2 (Jcl k) := by kernel_rfl
theorem Jms (k : Nat) (x0 x1 : IV) (h : IH) : Jch (k + 1) [x0, x1] h = (Jcl k [some x0, some x1] h).fin := by rw [Jme]; rfl
noncomputable def Jb3 (k : Nat) : E1 := (Jm (Jch k) [] (Ja (eVar 1) (Ja (eVar 0) aNil)))
noncomputable def Jce (k : Nat) : S1 := (sIf (Jc9 (tOfB tru (eCB (on1 allI) (Ja (Jaj (iAny (eSl slI (eVar 0) Jgz (Jfk (eVar 1)))) 1 [2] (gNm 0) Jav (Jb3 k)) aNil)))) (sRet (eC (.bl false))) sNil)
noncomputable def Jcz (k : Nat) : S1 := (sRet (eC (.bl true)))
noncomputable def Jbd (k : Nat) : S1 := sSeq (sFor (iRg Jfi (Ja (eVar 0) aNil)) (gTp 2 (gC (gNm 1) (gC (gNm 2) gN))) (Jce k)) (Jcz k)
theorem Jif (k : Nat) : Ja7 (k + 1) = fnI 3 (Jbd k) := by kernel_rfl
theorem Jh4 (k : Nat) (x0 : IV) (h : IH) : Ja7 (k + 1) [x0] h = (Jbd k [some x0, none, none] h).fin := by rw [Jif]; rfl
noncomputable def Jgn (k : Nat) : E1 := (Jm (Jh1 k) [] (Ja (eVar 0) (Ja (eVar 1) aNil)))
noncomputable def Jfr (k : Nat) : E1 := (eTup (Ja (eBin opIx (eVar 0) (eC (.int 0))) (Ja (eBin opIx (eVar 0) (eC (.int 1))) (Ja (eBin opIx (eVar 0) (eC (.int 2))) aNil))))
noncomputable def Jhq (k : Nat) : S1 := (sRet (eCB (on1 Jlg) (Ja (Jaj (iAny (eVar 0)) 1 [] (gNm 0) Jav (Jfr k)) aNil)))
noncomputable def Jia (k : Nat) : S1 := sSeq (sIf (Jc9 (tOfB tru (Jm (Ja7 k) [] (Ja (eVar 0) aNil)))) stS sNil) (Jhq k)
noncomputable def Jix (k : Nat) : S1 := sSeq (sIf (Jc9 (tOfB tru (eCB (on1 allI) (Ja (Jaj (iAny (eVar 0)) 1 [1] (gNm 0) Jav (Jgn k)) aNil)))) stS sNil) (Jia k)
noncomputable def Jiv (k : Nat) : S1 := sSeq (sIf (tOfB asB (eBin cGt (eCB (on1 lenI) (Ja (eVar 0) aNil)) (eC (.int 6)))) stS sNil) (Jix k)
noncomputable def Jho (k : Nat) : S1 := sSeq (sIf (Jc9 (tOfB tru (eIsi Jay (eVar 0)))) stS sNil) (Jiv k)
noncomputable def Jec (k : Nat) : S1 := sSeq (sIf (tOfB asB (eBin cIs (eVar 0) (eC .non))) (sRet (eTup aNil)) sNil) (Jho k)
theorem Jqf (k : Nat) : Jbx (k + 1) = fnI 2 (Jec k) := by kernel_rfl
theorem Jp4 (k : Nat) (x0 x1 : IV) (h : IH) : Jbx (k + 1) [x0, x1] h = (Jec k [some x0, some x1] h).fin := by rw [Jqf]; rfl
noncomputable def Jln (k : Nat) : S1 := (sRet (eVar 0))
noncomputable def Jk1 (k : Nat) : S1 := sSeq (sIf (tOrI (Jc9 (tOfB tru (Jm (Jv k) [] (Ja (eVar 0) (Ja (eC (.int 1)) aNil))))) (tOfB asB (eBin cGt (eVar 0) (eVar 1)))) stS sNil) (Jln k)
noncomputable def Jha (k : Nat) : S1 := sSeq (sIf (tOfB asB (eBin cIs (eVar 0) (eC .non))) (sRet (eVar 1)) sNil) (Jk1 k)
theorem Jt8 (k : Nat) : Jdz (k + 1) = fnI 2 (Jha k) := by kernel_rfl
theorem Jte (k : Nat) (x0 x1 : IV) (h : IH) : Jdz (k + 1) [x0, x1] h = (Jha k [some x0, some x1] h).fin := by rw [Jt8]; rfl
noncomputable def Jir (k : Nat) : S1 := (Jkc "hold_tuples" (eVar 0) (Jm (Jbx k) [] (Ja (eVar 6) (Ja (eVar 3) aNil))))
noncomputable def Jjc (k : Nat) : S1 := sSeq (Jkc "late" (eVar 0) (eVar 5)) (Jir k)
noncomputable def Jiu (k : Nat) : S1 := sSeq (Jkc "due" (eVar 0) (Jm (Jdz k) [] (Ja (eVar 4) (Ja (eVar 2) aNil)))) (Jjc k)
noncomputable def Jik (k : Nat) : S1 := sSeq (Jkc "length" (eVar 0) (eVar 3)) (Jiu k)
noncomputable def Jip (k : Nat) : S1 := sSeq (Jkc "gap" (eVar 0) (eVar 2)) (Jik k)
noncomputable def Jh6 (k : Nat) : S1 := sSeq (Jkc "name" (eVar 0) (eVar 1)) (Jip k)
noncomputable def Ji5 (k : Nat) : S1 := sSeq (sIf (Jc9 (tOfB tru (Jm (Jv k) [] (Ja (eVar 5) (Ja (eC (.int 0)) aNil))))) stS sNil) (Jh6 k)
noncomputable def Jh7 (k : Nat) : S1 := sSeq (sIf (Jc9 (tOfB tru (Jm (Jv k) [] (Ja (eVar 3) (Ja (eC (.int 1)) aNil))))) stS sNil) (Ji5 k)
noncomputable def Jie (k : Nat) : S1 := sSeq (sIf (Jc9 (tOfB tru (Jm (Jv k) [] (Ja (eVar 2) (Ja (eC (.int 1)) aNil))))) stS sNil) (Jh7 k)
noncomputable def Jeh (k : Nat) : S1 := sSeq (sIf (Jc9 (tOfB tru (Jm (Jfg k) [] (Ja (eVar 1) aNil)))) stS sNil) (Jie k)
theorem Jpx (k : Nat) : Jbs (k + 1) = fnI 7 (Jeh k) := by kernel_rfl
theorem Jo2 (k : Nat) (x0 x1 x2 x3 x4 x5 x6 : IV) (h : IH) : Jbs (k + 1) [x0, x1, x2, x3, x4, x5, x6] h = (Jeh k [some x0, some x1, some x2, some x3, some x4, some x5, some x6] h).fin := by rw [Jpx]; rfl
noncomputable def Jed (k : Nat) : S1 := (sRet (eCB (on1 Jh5) (Ja (eFld "hold_tuples" (eVar 0)) aNil)))
theorem Jpd (k : Nat) : Jd5 (k + 1) = fnI 1 (Jed k) := by kernel_rfl
theorem Jon (k : Nat) (x0 : IV) (h : IH) : Jd5 (k + 1) [x0] h = (Jed k [some x0] h).fin := by rw [Jpd]; rfl
noncomputable def Jf1 (k : Nat) : E1 := (eIsi (J0a ["Work"]) (eVar 0))
noncomputable def Jgm (k : Nat) : E1 := (eFld "name" (eVar 0))
noncomputable def Jig (k : Nat) : S1 := (sRet (eCB (on1 Jlg) (Ja (eVar 0) aNil)))
noncomputable def Ji8 (k : Nat) : S1 := sSeq (sIf (tOfB asB (eBin cNe (Jl7 (Ja (Jaj (iAny (eVar 0)) 1 [] (gNm 0) Jav (Jgm k)) aNil)) (eCB (on1 lenI) (Ja (eVar 0) aNil)))) stS sNil) (Jig k)
noncomputable def Ji4 (k : Nat) : S1 := sSeq (sIf (Jc9 (tOfB tru (eCB (on1 allI) (Ja (Jaj (iAny (eVar 0)) 1 [] (gNm 0) Jav (Jf1 k)) aNil)))) stS sNil) (Ji8 k)
noncomputable def Jd7 (k : Nat) : S1 := sSeq (sIf (Jc9 (tOfB tru (eIsi Jay (eVar 0)))) stS sNil) (Ji4 k)
theorem Jpc (k : Nat) : Jeg (k + 1) = fnI 1 (Jd7 k) := by kernel_rfl
theorem Jqc (k : Nat) (x0 : IV) (h : IH) : Jeg (k + 1) [x0] h = (Jd7 k [some x0] h).fin := by rw [Jpc]; rfl
noncomputable def Jg7 (k : Nat) : E1 := (eFld "due" (eVar 0))
noncomputable def Jg6 (k : Nat) : E1 := (Jm (Jc2 k) [] (Ja (eBin Jal (eVar 1) (eFld "late" (eVar 0))) (Ja (eFld "gap" (eVar 0)) aNil)))
noncomputable def Jjv (k : Nat) : S1 := (sRet (eCB (on1 sumI) (Ja (Jaj (iAny (eVar 0)) 1 [1] (gNm 0) Jav (Jg6 k)) aNil)))
noncomputable def Jgt (k : Nat) : S1 := sSeq (sSet 1 (Jwi (Ja (Jaj (iAny (eVar 0)) 1 [] (gNm 0) Jav (Jg7 k)) aNil) (eC (.int 0)))) (Jjv k)
theorem Jrx (k : Nat) : Jgu (k + 1) = fnI 2 (Jgt k) := by kernel_rfl
theorem Jr3 (k : Nat) (x0 : IV) (h : IH) : Jgu (k + 1) [x0] h = (Jgt k [some x0, none] h).fin := by rw [Jrx]; rfl
noncomputable def Jic (k : Nat) : S1 := (sIf (tOfB asB (eBin cGt (Jm (Jgu k) [] (Ja (eFld "works" (eVar 0)) aNil)) (eC (.int 80)))) stS sNil)
noncomputable def Jhw (k : Nat) : S1 := sSeq (sIf (tOfB asB (eBin cGt (eCB (on1 lenI) (Ja (eFld "works" (eVar 0)) aNil)) (eC (.int 12)))) stS sNil) (Jic k)
noncomputable def Jej (k : Nat) : S1 := sSeq (Jkc "works" (eVar 0) (Jm (Jeg k) [] (Ja (eVar 1) aNil))) (Jhw k)
theorem Jpv (k : Nat) : Jbg (k + 1) = fnI 2 (Jej k) := by kernel_rfl
theorem Jqp (k : Nat) (x0 x1 : IV) (h : IH) : Jbg (k + 1) [x0, x1] h = (Jej k [some x0, some x1] h).fin := by rw [Jpv]; rfl
noncomputable def Jeq (k : Nat) : S1 := (sRet (eCB (on1 lenI) (Ja (eFld "works" (eVar 0)) aNil)))
theorem Jqg (k : Nat) : Jei (k + 1) = fnI 1 (Jeq k) := by kernel_rfl
theorem Jo8 (k : Nat) (x0 : IV) (h : IH) : Jei (k + 1) [x0] h = (Jeq k [some x0] h).fin := by rw [Jqg]; rfl
noncomputable def Jer (k : Nat) : S1 := (sRet (eBin opIx (eFld "works" (eVar 0)) (eVar 1)))
theorem Jp6 (k : Nat) : Jem (k + 1) = fnI 2 (Jer k) := by kernel_rfl
theorem Jow (k : Nat) (x0 x1 : IV) (h : IH) : Jem (k + 1) [x0, x1] h = (Jer k [some x0, some x1] h).fin := by rw [Jp6]; rfl
noncomputable def Jcd (k : Nat) : E1 := (Jm (Jdy k) [] (Ja (eVar 0) aNil))
noncomputable def Jcf (k : Nat) : E1 := (eBin opIx (eFld "works" (eVar 1)) (eVar 0))
noncomputable def Jdh (k : Nat) : S1 := (sRet (Jku "Duty" (Jbg k) [] (Ja (Jaj (iAny (eVar 1)) 1 [0] (gNm 0) Jav (Jcf k)) aNil)))
noncomputable def Jdc (k : Nat) : S1 := sSeq (sIf (tOfB asB (eBin cNe (eCB (on1 Jjk) (Ja (eVar 1) aNil)) (eLR (Ja (eDot (pg k) "size" 0 (eVar 0) aNil) aNil)))) stS sNil) (Jdh k)
noncomputable def Jbj (k : Nat) : S1 := sSeq (sIf (tOrI (Jc9 (tOfB tru (eIsi Jay (eVar 1)))) (Jc9 (tOfB tru (eCB (on1 allI) (Ja (Jaj (iAny (eVar 1)) 1 [] (gNm 0) Jav (Jcd k)) aNil))))) stS sNil) (Jdc k)
theorem Jjh (k : Nat) : Jbc (k + 1) = fnI 2 (Jbj k) := by kernel_rfl
theorem Jjf (k : Nat) (x0 x1 : IV) (h : IH) : Jbc (k + 1) [x0, x1] h = (Jbj k [some x0, some x1] h).fin := by rw [Jjh]; rfl
noncomputable def Jc1 (k : Nat) : S1 := (sRet (Jku "Duty" (Jbg k) [] (Ja (eVar 3) aNil)))
noncomputable def Jfh (k : Nat) : S1 := sSeq (sAsg (Jku "Work" (Jbs k) [] (Ja (eFld "name" (eVar 4)) (Ja (eFld "gap" (eVar 4)) (Ja (eBin Jal (eFld "length" (eVar 4)) (eVar 2)) (Ja (eFld "due" (eVar 4)) (Ja (eFld "late" (eVar 4)) (Ja (eDot (pg k) "held" 0 (eVar 4) aNil) aNil))))))) (gSb (eVar 3) (eVar 1))) (Jc1 k)
noncomputable def Jfx (k : Nat) : S1 := sSeq (sSet 4 (eBin opIx (eFld "works" (eVar 0)) (eVar 1))) (Jfh k)
noncomputable def Jcy (k : Nat) : S1 := sSeq (sSet 3 (eCB (on1 Jh5) (Ja (eFld "works" (eVar 0)) aNil))) (Jfx k)
theorem Jmf (k : Nat) : Jcg (k + 1) = fnI 5 (Jcy k) := by kernel_rfl
theorem Jmr (k : Nat) (x0 x1 x2 : IV) (h : IH) : Jcg (k + 1) [x0, x1, x2] h = (Jcy k [some x0, some x1, some x2, none, none] h).fin := by rw [Jmf]; rfl
noncomputable def Jhs (k : Nat) : S1 := (Jmi (eDot (pg k) "setdefault" 2 (eVar 1) (Ja (eBin opIx (eVar 3) (eC (.int 0))) (Ja (eVar 2) aNil))))
noncomputable def Ji6 (k : Nat) : S1 := (sFor (iAny (eDot (pg k) "held" 0 (eDot (pg k) "work" 1 (eVar 0) (Ja (eVar 2) aNil)) aNil)) (gNm 3) (Jhs k))
noncomputable def Jj4 (k : Nat) : S1 := (sRet (eVar 1))
noncomputable def Jj3 (k : Nat) : S1 := sSeq (sFor (iRg Jbp (Ja (eDot (pg k) "size" 0 (eVar 0) aNil) aNil)) (gNm 2) (Ji6 k)) (Jj4 k)
noncomputable def Jf8 (k : Nat) : S1 := sSeq (sSet 1 Jyo) (Jj3 k)
theorem Jrd (k : Nat) : Jci (k + 1) = fnI 4 (Jf8 k) := by kernel_rfl
theorem Jq3 (k : Nat) (x0 : IV) (h : IH) : Jci (k + 1) [x0] h = (Jf8 k [some x0, none, none, none] h).fin := by rw [Jrd]; rfl
noncomputable def Jhd (k : Nat) : S1 := (sRet (eDot (pg k) "get" 1 (Jm (Jci k) [] (Ja (eVar 0) aNil)) (Ja (eVar 1) aNil)))
theorem Jtg (k : Nat) : Jh9 (k + 1) = fnI 2 (Jhd k) := by kernel_rfl
theorem Juo (k : Nat) (x0 x1 : IV) (h : IH) : Jh9 (k + 1) [x0, x1] h = (Jhd k [some x0, some x1] h).fin := by rw [Jtg]; rfl
noncomputable def Jdp (k : Nat) : S1 := (sRet (eBin Jl6 (eBin Jl6 (eBin opIx (eVar 0) (eC (.int 2))) (eBin opIx (eVar 0) (eC (.int 1)))) (eC (.int 1))))
theorem Jnw (k : Nat) : Jb2 (k + 1) = fnI 1 (Jdp k) := by kernel_rfl
theorem Jnn (k : Nat) (x0 : IV) (h : IH) : Jb2 (k + 1) [x0] h = (Jdp k [some x0] h).fin := by rw [Jnw]; rfl
noncomputable def Jdb (k : Nat) : E1 := (eTup (Ja (eVar 3) (Ja (eVar 0) aNil)))
noncomputable def Jdd (k : Nat) : T1 := (tOfB asB (eBin cLe (eBin Jt6 (eVar 2) (eBin opIx (eVar 0) (eC (.int 0)))) (eVar 1)))
noncomputable def Jdv (k : Nat) : S1 := (Jmi (eDot (pg k) "extend" 1 (eVar 3) (Ja (Jaj (iAny (eDot (pg k) "held" 0 (eDot (pg k) "work" 1 (eVar 0) (Ja (eVar 4) aNil)) aNil)) 1 [1, 2, 4] (gNm 0) (Jdd k) (Jdb k)) aNil)))
noncomputable def Jda (k : Nat) : E1 := (Jm (Jb2 k) [] (Ja (eBin opIx (eVar 0) (eC (.int 1))) aNil))
noncomputable def Je0 (k : Nat) : S1 := (sRet (Jvn gtZ "longest_hold" 0 [] (Ja (eVar 3) aNil) (Jda k) (eC .non)))
noncomputable def Je3 (k : Nat) : S1 := sSeq (sFor (iRg Jj5 (Ja (eBin Jal (eVar 1) (eC (.int 1))) (Ja (eDot (pg k) "size" 0 (eVar 0) aNil) aNil))) (gNm 4) (Jdv k)) (Je0 k)
noncomputable def Je2 (k : Nat) : S1 := sSeq (sSet 3 (eLst aNil)) (Je3 k)
noncomputable def Jca (k : Nat) : S1 := sSeq (sSet 2 (Jm (Jci k) [] (Ja (eVar 0) aNil))) (Je2 k)
theorem Jkt (k : Nat) : Jby (k + 1) = fnI 5 (Jca k) := by kernel_rfl
theorem Jl2 (k : Nat) (x0 x1 : IV) (h : IH) : Jby (k + 1) [x0, x1] h = (Jca k [some x0, some x1, none, none, none] h).fin := by rw [Jkt]; rfl
noncomputable def Jhi (k : Nat) : S1 := (sRet (eIf (tOfB asB (eBin cIs (eVar 2) (eC .non))) (eC (.int 0)) (Jm (Jb2 k) [] (Ja (eBin opIx (eVar 2) (eC (.int 1))) aNil))))
noncomputable def Jhb (k : Nat) : S1 := sSeq (sSet 2 (Jm (Jby k) [] (Ja (eVar 0) (Ja (eVar 1) aNil)))) (Jhi k)
theorem Jtu (k : Nat) : Jfy (k + 1) = fnI 3 (Jhb k) := by kernel_rfl
theorem Jum (k : Nat) (x0 x1 : IV) (h : IH) : Jfy (k + 1) [x0, x1] h = (Jhb k [some x0, some x1, none] h).fin := by rw [Jtu]; rfl
noncomputable def Jdm (k : Nat) : S1 := (sRet (eIf (tOfB asB (eBin cGe (eVar 1) (eC (.int 1)))) (Jm (Jc2 k) [] (Ja (eBin Jal (eVar 1) (eFld "late" (eVar 0))) (Ja (eFld "gap" (eVar 0)) aNil))) (eC (.int 0))))
theorem Jn3 (k : Nat) : Jb4 (k + 1) = fnI 2 (Jdm k) := by kernel_rfl
theorem Jn6 (k : Nat) (x0 x1 : IV) (h : IH) : Jb4 (k + 1) [x0, x1] h = (Jdm k [some x0, some x1] h).fin := by rw [Jn3]; rfl
noncomputable def Jd1 (k : Nat) : E1 := (eDot (pg k) "work" 1 (eVar 1) (Ja (eVar 0) aNil))
noncomputable def Jna (k : Nat) : E1 := (eBin Jbr (Jm (Jb4 k) [] (Ja (eVar 0) (Ja (eVar 1) aNil))) (eFld "length" (eVar 0)))
noncomputable def Jsk (k : Nat) : S1 := (sRet (eBin Jal (eBin Jal (Jm (Jfy k) [] (Ja (eVar 0) (Ja (eVar 1) aNil))) (eFld "length" (eDot (pg k) "work" 1 (eVar 0) (Ja (eVar 1) aNil)))) (eVar 4)))
noncomputable def Js1 (k : Nat) : S1 := sSeq (sSet 4 (eCB (on1 sumI) (Ja (Jaj (iAny (eVar 3)) 1 [2] (gNm 0) Jav (Jna k)) aNil))) (Jsk k)
noncomputable def Jn1 (k : Nat) : S1 := sSeq (sSet 3 (Jaj (iRg Jbp (Ja (eVar 1) aNil)) 1 [0] (gNm 0) Jav (Jd1 k))) (Js1 k)
theorem J09 (k : Nat) : Jm6 (k + 1) = fnI 5 (Jn1 k) := by kernel_rfl
theorem J2r (k : Nat) (x0 x1 x2 : IV) (h : IH) : Jm6 (k + 1) [x0, x1, x2] h = (Jn1 k [some x0, some x1, some x2, none, none] h).fin := by rw [J09]; rfl
noncomputable def Jk7 (k : Nat) : S1 := (sRet (eIf (tOfB asB (eBin cGe (eVar 2) (eC (.int 0)))) (eBin Jal (eBin Ja8 (eVar 2) (eFld "gap" (eVar 0))) (eC (.int 1))) (eC (.int 0))))
noncomputable def Jhf (k : Nat) : S1 := sSeq (sSet 2 (eBin Jl6 (eBin Jal (eVar 1) (eFld "late" (eVar 0))) (eFld "due" (eVar 0)))) (Jk7 k)
theorem Jt7 (k : Nat) : Jh0 (k + 1) = fnI 3 (Jhf k) := by kernel_rfl
theorem Juk (k : Nat) (x0 x1 : IV) (h : IH) : Jh0 (k + 1) [x0, x1] h = (Jhf k [some x0, some x1, none] h).fin := by rw [Jt7]; rfl
noncomputable def Jjy (k : Nat) : E1 := (eBin Jbr (Jm (Jh0 k) [] (Ja (eVar 0) (Ja (eVar 1) aNil))) (eFld "length" (eVar 0)))
noncomputable def Jjr (k : Nat) : S1 := (sRet (eCB (on1 sumI) (Ja (Jaj (iAny (eFld "works" (eVar 0))) 1 [1] (gNm 0) Jav (Jjy k)) aNil)))
theorem Jvb (k : Nat) : Jkm (k + 1) = fnI 2 (Jjr k) := by kernel_rfl
theorem Jwz (k : Nat) (x0 x1 : IV) (h : IH) : Jkm (k + 1) [x0, x1] h = (Jjr k [some x0, some x1] h).fin := by rw [Jvb]; rfl
noncomputable def Jly (k : Nat) : E1 := (eBin Jbr (Jm (Jb4 k) [] (Ja (eVar 0) (Ja (eVar 1) aNil))) (eFld "length" (eVar 0)))
noncomputable def Jk6 (k : Nat) : S1 := (sRet (eCB (on1 sumI) (Ja (Jaj (iAny (eFld "works" (eVar 0))) 1 [1] (gNm 0) Jav (Jly k)) aNil)))
theorem Jy6 (k : Nat) : Jnk (k + 1) = fnI 2 (Jk6 k) := by kernel_rfl
theorem Jyj (k : Nat) (x0 x1 : IV) (h : IH) : Jnk (k + 1) [x0, x1] h = (Jk6 k [some x0, some x1] h).fin := by rw [Jy6]; rfl
noncomputable def Jf2 (k : Nat) : S1 := (sRet (eC (.int 0)))
noncomputable def Jcs (k : Nat) : S1 := sSeq (sIf (tOfB asB (eBin cLt (eVar 1) (eCB (on1 lenI) (Ja (eVar 0) aNil)))) (sRet (eBin opIx (eVar 0) (eVar 1))) sNil) (Jf2 k)
theorem Jmk (k : Nat) : Jn (k + 1) = fnI 2 (Jcs k) := by kernel_rfl
theorem Jmh (k : Nat) (x0 x1 : IV) (h : IH) : Jn (k + 1) [x0, x1] h = (Jcs k [some x0, some x1] h).fin := by rw [Jmk]; rfl
noncomputable def Jg0 (k : Nat) : S1 := (sSeq (sSet 9 (eBin Jal (eBin Jal (eBin Ja8 (eVar 0) (eC (.int 6720))) (eBin Jbr (eVar 8) (eBin Jal (eC (.int 1)) (eBin Jbf (eVar 0) (eC (.int 25)))))) (eBin Jbr (eVar 6) (eCB (on1 intI) (Ja (eBin cEq (eVar 8) (eVar 4)) aNil))))) (sSet 7 (eBin Jal (eVar 7) (eBin opIx (eVar 2) (eBin Jbf (eVar 9) (eC (.int 26)))))))
noncomputable def Jg8 (k : Nat) : S1 := (sSeq (sSet 7 (eC (.str ""))) (sSeq (sFor (iRg Jbp (Ja (eVar 3) aNil)) (gNm 8) (Jg0 k)) (Jmi (eDot (pg k) "append" 1 (eVar 5) (Ja (eVar 7) aNil)))))
noncomputable def Jhu (k : Nat) : S1 := (sRet (eVar 5))
noncomputable def Jhx (k : Nat) : S1 := sSeq (sFor (iRg Jbp (Ja (eVar 1) aNil)) (gNm 6) (Jg8 k)) (Jhu k)
noncomputable def Jio (k : Nat) : S1 := sSeq (sSet 5 (eLst aNil)) (Jhx k)
noncomputable def Jib (k : Nat) : S1 := sSeq (sSet 4 (eBin Jbf (eBin Jbf (eBin Ja8 (eVar 0) (eC (.int 8))) (eC (.int 840))) (eVar 3))) (Jio k)
noncomputable def Jhz (k : Nat) : S1 := sSeq (sSet 3 (eBin Jal (eC (.int 1)) (eBin Jbf (eVar 0) (eC (.int 8))))) (Jib k)
noncomputable def Jea (k : Nat) : S1 := sSeq (sSet 2 (eC (.str "abcdefghijklmnopqrstuvwxyz"))) (Jhz k)
theorem Jqw (k : Nat) : Jc8 (k + 1) = fnI 10 (Jea k) := by kernel_rfl
theorem Joz (k : Nat) (x0 x1 : IV) (h : IH) : Jc8 (k + 1) [x0, x1] h = (Jea k [some x0, some x1, none, none, none, none, none, none, none, none] h).fin := by rw [Jqw]; rfl
noncomputable def Jhy (k : Nat) : S1 := (sRet (eLst (Ja (eVar 3) (Ja (eVar 6) (Ja (eVar 9) (Ja (eVar 7) (Ja (eVar 8) (Ja (eVar 10) aNil))))))))
noncomputable def Jiw (k : Nat) : S1 := sSeq (sIf (Jxd (tOfB asB (eBin cEq (eBin Jbf (eBin Ja8 (eVar 5) (eC (.int 16))) (eC (.int 2))) (eC (.int 1)))) (tOfB asB (eBin cGt (eVar 9) (eC (.int 1))))) (sSeq (sSet 11 (eBin Jbf (eBin Ja8 (eVar 5) (eC (.int 11))) (eBin Jl6 (eVar 9) (eC (.int 1))))) (sSet 10 (eLst (Ja (eTup (Ja (eBin opIx (eVar 4) (eBin Jbf (eBin Ja8 (eVar 5) (eC (.int 32))) (eC (.int 2)))) (Ja (eVar 11) (Ja (eBin Jal (eBin Jal (eVar 11) (eC (.int 1))) (eBin Jbf (eBin Jbr (eBin Ja8 (eVar 5) (eC (.int 13))) (eC (.int 48271))) (eBin Jl6 (eBin Jl6 (eVar 9) (eC (.int 1))) (eVar 11)))) aNil)))) aNil)))) sNil) (Jhy k)
noncomputable def Jep (k : Nat) : S1 := sSeq (sSet 10 (eLst aNil)) (Jiw k)
noncomputable def Jij (k : Nat) : S1 := sSeq (sIf (tOfB asB (eBin cEq (eBin Jbf (eBin Ja8 (eVar 5) (eC (.int 7))) (eC (.int 2))) (eC (.int 1)))) (sSet 9 (eBin Jal (eC (.int 2)) (eBin Jbf (eBin Ja8 (eVar 5) (eC (.int 14))) (eC (.int 1000003))))) sNil) (Jep k)
noncomputable def Jin (k : Nat) : S1 := sSeq (sSet 9 (eBin Jal (eC (.int 1)) (eBin Jbf (eBin Jbr (eBin Ja8 (eVar 5) (eC (.int 7))) (eC (.int 16807))) (eBin Jph (eC (.int 10)) (eC (.int 40)))))) (Jij k)
noncomputable def Jjb (k : Nat) : S1 := sSeq (sSet 8 (eBin opIx (eLst (Ja (eC (.int 0)) (Ja (eBin Jbf (eBin Jbr (eBin Ja8 (eVar 5) (eC (.int 5))) (eC (.int 69621))) (eBin Jbr (eC (.int 2)) (eVar 6))) aNil))) (eBin Jbf (eBin Ja8 (eVar 5) (eC (.int 3))) (eC (.int 2))))) (Jin k)
noncomputable def Ji7 (k : Nat) : S1 := sSeq (sSet 7 (eBin Jal (eC (.int 1)) (eBin Jbf (eBin Jbr (eBin Ja8 (eVar 5) (eC (.int 3))) (eC (.int 48271))) (eVar 6)))) (Jjb k)
noncomputable def Jhn (k : Nat) : S1 := sSeq (sSet 6 (eBin Jal (eBin Jbr (eVar 2) (eBin Jal (eC (.int 1)) (eBin Jbf (eVar 5) (eC (.int 8))))) (eBin Jbf (eBin Ja8 (eVar 5) (eC (.int 8))) (eVar 2)))) (Ji7 k)
noncomputable def Jeo (k : Nat) : S1 := sSeq (sSet 5 (Jm (Jn k) [] (Ja (eVar 0) (Ja (eBin Jal (eC (.int 3)) (eVar 1)) aNil)))) (Jhn k)
theorem Jo4 (k : Nat) : Jd6 (k + 1) = fnI 12 (Jeo k) := by kernel_rfl
theorem Jpm (k : Nat) (x0 x1 x2 x3 x4 : IV) (h : IH) : Jd6 (k + 1) [x0, x1, x2, x3, x4] h = (Jeo k [some x0, some x1, some x2, some x3, some x4, none, none, none, none, none, none, none] h).fin := by rw [Jo4]; rfl
noncomputable def Jg2 (k : Nat) : S1 := (sSeq (Jmi (eDot (pg k) "append" 1 (eVar 3) (Ja (eDot (pg k) "pop" 1 (eVar 2) (Ja (eBin Jbf (eVar 0) (eCB (on1 lenI) (Ja (eVar 2) aNil))) aNil)) aNil))) (sSet 0 (eBin Jal (eBin Ja8 (eVar 0) (eBin Jal (eC (.int 2)) (eVar 4))) (eBin Jbr (eC (.int 7)) (eVar 4)))))
noncomputable def Jh3 (k : Nat) : S1 := (sRet (eVar 3))
noncomputable def Jiy (k : Nat) : S1 := sSeq (sFor (iRg Jbp (Ja (eVar 1) aNil)) (gNm 4) (Jg2 k)) (Jh3 k)
noncomputable def Ji1 (k : Nat) : S1 := sSeq (sSet 3 (eLst aNil)) (Jiy k)
noncomputable def Jet (k : Nat) : S1 := sSeq (sSet 2 (eLR (Ja (eVar 1) aNil))) (Ji1 k)
theorem Jqn (k : Nat) : Jek (k + 1) = fnI 5 (Jet k) := by kernel_rfl
theorem Jpf (k : Nat) (x0 x1 : IV) (h : IH) : Jek (k + 1) [x0, x1] h = (Jet k [some x0, some x1, none, none, none] h).fin := by rw [Jqn]; rfl
noncomputable def Ja9 (k : Nat) : E1 := (Jku "Work" (Jbs k) [] (Ja (eBin opIx (eVar 0) (eC (.int 0))) (Ja (eBin opIx (eVar 0) (eC (.int 1))) (Ja (eBin opIx (eVar 0) (eC (.int 2))) (Ja (eBin opIx (eVar 0) (eC (.int 3))) (Ja (eBin opIx (eVar 0) (eC (.int 4))) (Ja (eCB (on1 Jh5) (Ja (eBin opIx (eVar 0) (eC (.int 5))) aNil)) aNil)))))))
noncomputable def Jfb (k : Nat) : S1 := (sRet (Jku "Duty" (Jbg k) [] (Ja (Jaj (iAny (eVar 0)) 1 [] (gNm 0) Jav (Ja9 k)) aNil)))
theorem Jq7 (k : Nat) : Jbi (k + 1) = fnI 1 (Jfb k) := by kernel_rfl
theorem Jr1 (k : Nat) (x0 : IV) (h : IH) : Jbi (k + 1) [x0] h = (Jfb k [some x0] h).fin := by rw [Jq7]; rfl
noncomputable def Jg3 (k : Nat) : E1 := (Jm (Jh9 k) [] (Ja (eVar 1) (Ja (eVar 0) aNil)))
noncomputable def Jid (k : Nat) : S1 := (sSet 3 (eBin Jal (eVar 3) (eLst (Ja (Jm (Jkm k) [] (Ja (eVar 0) (Ja (eVar 4) aNil))) (Ja (Jm (Jnk k) [] (Ja (eVar 0) (Ja (eVar 4) aNil))) aNil)))))
noncomputable def Jg5 (k : Nat) : E1 := (Jm (Jm6 k) [] (Ja (eVar 2) (Ja (eVar 1) (Ja (eCB (on2 maxI) (Ja (eC (.int 1)) (Ja (eVar 0) aNil))) aNil))))
noncomputable def Jhp (k : Nat) : S1 := (sSeq (Jmi (eDot (pg k) "append" 1 (eVar 3) (Ja (Jm (Jfy k) [] (Ja (eVar 0) (Ja (eVar 5) aNil))) aNil))) (sSet 3 (eBin Jal (eVar 3) (Jaj (iAny (eVar 1)) 1 [5, 0] (gNm 0) Jav (Jg5 k)))))
noncomputable def Jj6 (k : Nat) : S1 := (sRet (eVar 3))
noncomputable def Jj2 (k : Nat) : S1 := sSeq (sFor (iRg Jbp (Ja (eDot (pg k) "size" 0 (eVar 0) aNil) aNil)) (gNm 5) (Jhp k)) (Jj6 k)
noncomputable def Jj1 (k : Nat) : S1 := sSeq (sFor (iAny (eVar 1)) (gNm 4) (Jid k)) (Jj2 k)
noncomputable def Jf9 (k : Nat) : S1 := sSeq (sSet 3 (Jaj (iAny (eVar 2)) 1 [0] (gNm 0) Jav (Jg3 k))) (Jj1 k)
theorem Jr6 (k : Nat) : Jz (k + 1) = fnI 6 (Jf9 k) := by kernel_rfl
theorem Jry (k : Nat) (x0 x1 x2 : IV) (h : IH) : Jz (k + 1) [x0, x1, x2] h = (Jf9 k [some x0, some x1, some x2, none, none, none] h).fin := by rw [Jr6]; rfl
noncomputable def Jfj (k : Nat) : E1 := (eCB (on1 Jh5) (Ja (eVar 0) aNil))
noncomputable def Ji3 (k : Nat) : S1 := (sRet (eVar 3))
noncomputable def Jja (k : Nat) : S1 := sSeq (sAsg (eBin Jal (eBin opIx (eBin opIx (eVar 3) (eVar 1)) (eC (.int 2))) (eVar 2)) (gSb (eBin opIx (eVar 3) (eVar 1)) (eC (.int 2)))) (Ji3 k)
noncomputable def Jee (k : Nat) : S1 := sSeq (sSet 3 (Jaj (iAny (eVar 0)) 1 [] (gNm 0) Jav (Jfj k))) (Jja k)
theorem Jqi (k : Nat) : Jcn (k + 1) = fnI 4 (Jee k) := by kernel_rfl
theorem Jqm (k : Nat) (x0 x1 x2 : IV) (h : IH) : Jcn (k + 1) [x0, x1, x2] h = (Jee k [some x0, some x1, some x2, none] h).fin := by rw [Jqi]; rfl
noncomputable def Jfp (k : Nat) : E1 := (Jm (Jd6 k) [] (Ja (eVar 2) (Ja (eVar 0) (Ja (eVar 3) (Ja (eBin opIx (eVar 1) (eVar 0)) (Ja (eSl slI (eVar 1) (Jfk (eC (.int 7))) Jgz) aNil))))))
noncomputable def Joq (k : Nat) : E1 := (eBin opIx (eVar 1) (eVar 0))
noncomputable def Job (k : Nat) : S1 := (sIf (tOfB asB (eBin cNe (Jm (Jz k) [] (Ja (eVar 14) (Ja (eVar 5) (Ja (eSl slI (eVar 3) (Jfk (eC (.int 6))) Jgz) aNil)))) (Jm (Jz k) [] (Ja (Jm (Jbi k) [] (Ja (eVar 15) aNil)) (Ja (eVar 5) (Ja (eSl slI (eVar 3) (Jfk (eC (.int 6))) Jgz) aNil)))))) (sRet (eC (.bl false))) sNil)
noncomputable def Js6 (k : Nat) : S1 := (sRet (eBin cEq (Jm (Jz k) [] (Ja (eVar 6) (Ja (eVar 5) (Ja (eSl slI (eVar 3) (Jfk (eC (.int 6))) Jgz) aNil)))) (eVar 7)))
noncomputable def Js2 (k : Nat) : S1 := sSeq (sIf (tOfB asB (eBin cNe (Jm (Jz k) [] (Ja (eVar 14) (Ja (eVar 5) (Ja (eSl slI (eVar 3) (Jfk (eC (.int 6))) Jgz) aNil)))) (Jm (Jz k) [] (Ja (Jm (Jbi k) [] (Ja (eVar 13) aNil)) (Ja (eVar 5) (Ja (eSl slI (eVar 3) (Jfk (eC (.int 6))) Jgz) aNil)))))) (sRet (eC (.bl false))) sNil) (Js6 k)
noncomputable def Jst (k : Nat) : S1 := sSeq (sSet 14 (eDot (pg k) "longer" 2 (eDot (pg k) "reordered" 1 (eVar 6) (Ja (eCB (on1 Jh5) (Ja (eVar 8) aNil)) aNil)) (Ja (eDot (pg k) "index" 1 (eVar 8) (Ja (eVar 9) aNil)) (Ja (eVar 10) aNil)))) (Js2 k)
noncomputable def Jse (k : Nat) : S1 := sSeq (sIf (tOfB asB (eBin cNe (Jm (Jz k) [] (Ja (eVar 14) (Ja (eVar 5) (Ja (eSl slI (eVar 3) (Jfk (eC (.int 6))) Jgz) aNil)))) (Jm (Jz k) [] (Ja (Jm (Jbi k) [] (Ja (eVar 13) aNil)) (Ja (eVar 5) (Ja (eSl slI (eVar 3) (Jfk (eC (.int 6))) Jgz) aNil)))))) (sRet (eC (.bl false))) sNil) (Jst k)
noncomputable def Jsl (k : Nat) : S1 := sSeq (sSet 14 (eDot (pg k) "reordered" 1 (eDot (pg k) "longer" 2 (eVar 6) (Ja (eVar 9) (Ja (eVar 10) aNil))) (Ja (eCB (on1 Jh5) (Ja (eVar 8) aNil)) aNil))) (Jse k)
noncomputable def Jnl (k : Nat) : S1 := sSeq (sFor (iAny (eLst (Ja (eTup (Ja (eDot (pg k) "reordered" 1 (eVar 6) (Ja (eCB (on1 Jh5) (Ja (eVar 8) aNil)) aNil)) (Ja (eVar 11) aNil))) (Ja (eTup (Ja (eDot (pg k) "longer" 2 (eVar 6) (Ja (eVar 9) (Ja (eVar 10) aNil))) (Ja (eVar 12) aNil))) aNil)))) (gTp 2 (gC (gNm 14) (gC (gNm 15) gN))) (Job k)) (Jsl k)
noncomputable def Jsr (k : Nat) : S1 := sSeq (sSet 13 (Jm (Jcn k) [] (Ja (eVar 11) (Ja (eDot (pg k) "index" 1 (eVar 8) (Ja (eVar 9) aNil)) (Ja (eVar 10) aNil))))) (Jnl k)
noncomputable def Jr8 (k : Nat) : S1 := sSeq (sSet 12 (Jm (Jcn k) [] (Ja (eVar 4) (Ja (eVar 9) (Ja (eVar 10) aNil))))) (Jsr k)
noncomputable def Jsu (k : Nat) : S1 := sSeq (sSet 11 (Jaj (iAny (eVar 8)) 1 [4] (gNm 0) Jav (Joq k))) (Jr8 k)
noncomputable def Jsf (k : Nat) : S1 := sSeq (sSet 10 (eBin Jbf (Jm (Jn k) [] (Ja (eVar 0) (Ja (eC (.int 12)) aNil))) (eBin Jph (eC (.int 10)) (eC (.int 40))))) (Jsu k)
noncomputable def Jvh (k : Nat) : S1 := sSeq (sSet 9 (eBin Jbf (Jm (Jn k) [] (Ja (eVar 0) (Ja (eC (.int 11)) aNil))) (eVar 1))) (Jsf k)
noncomputable def Jvv (k : Nat) : S1 := sSeq (sSet 8 (Jm (Jek k) [] (Ja (Jm (Jn k) [] (Ja (eVar 0) (Ja (eC (.int 10)) aNil))) (Ja (eVar 1) aNil)))) (Jvh k)
noncomputable def Jv2 (k : Nat) : S1 := sSeq (sSet 7 (Jm (Jz k) [] (Ja (eVar 6) (Ja (eVar 5) (Ja (eSl slI (eVar 3) (Jfk (eC (.int 6))) Jgz) aNil))))) (Jvv k)
noncomputable def Jvj (k : Nat) : S1 := sSeq (sSet 6 (Jm (Jbi k) [] (Ja (eVar 4) aNil))) (Jv2 k)
noncomputable def Jxh (k : Nat) : S1 := sSeq (sSet 5 (eLst (Ja (eBin Jl6 (eBin Jbf (Jm (Jn k) [] (Ja (eVar 0) (Ja (eC (.int 13)) aNil))) (eBin Jbr (eC (.int 21)) (eVar 2))) (eVar 2)) (Ja (eBin Jal (eBin Jbf (Jm (Jn k) [] (Ja (eVar 0) (Ja (eC (.int 14)) aNil))) (eBin Jbr (eC (.int 9)) (eVar 2))) (eC (.int 1))) aNil)))) (Jvj k)
noncomputable def Jxq (k : Nat) : S1 := sSeq (sSet 4 (Jaj (iRg Jbp (Ja (eVar 1) aNil)) 1 [3, 0, 2] (gNm 0) Jav (Jfp k))) (Jxh k)
noncomputable def Jq9 (k : Nat) : S1 := sSeq (sSet 3 (Jm (Jc8 k) [] (Ja (Jm (Jn k) [] (Ja (eVar 0) (Ja (eC (.int 2)) aNil))) (Ja (eC (.int 9)) aNil)))) (Jxq k)
noncomputable def Jwv (k : Nat) : S1 := sSeq (sIf (tOfB asB (eBin cEq (eBin Jbf (eBin Ja8 (Jm (Jn k) [] (Ja (eVar 0) (Ja (eC (.int 0)) aNil))) (eC (.int 7))) (eC (.int 3))) (eC (.int 1)))) (sSet 2 (eBin Jal (eC (.int 1)) (eBin Jbf (Jm (Jn k) [] (Ja (eVar 0) (Ja (eC (.int 1)) aNil))) (eC (.int 9))))) sNil) (Jq9 k)
noncomputable def Jvx (k : Nat) : S1 := sSeq (sSet 2 (eBin Jal (eC (.int 1)) (eBin Jbf (Jm (Jn k) [] (Ja (eVar 0) (Ja (eC (.int 1)) aNil))) (eBin Jph (eC (.int 10)) (eC (.int 40)))))) (Jwv k)
noncomputable def Jri (k : Nat) : S1 := sSeq (sSet 1 (eBin Jal (eC (.int 1)) (eBin Jbf (Jm (Jn k) [] (Ja (eVar 0) (Ja (eC (.int 0)) aNil))) (eC (.int 7))))) (Jvx k)
theorem J37 (k : Nat) : Jrt (k + 1) = fnI 16 (Jri k) := by kernel_rfl
theorem J5g (k : Nat) (x0 : IV) (h : IH) : Jrt (k + 1) [x0] h = (Jri k [some x0, none, none, none, none, none, none, none, none, none, none, none, none, none, none, none] h).fin := by rw [J37]; rfl
theorem Jfw (k : Nat) : Jnq (pg k) "held" 0 "Work" = some (Jd5 k, []) := by kernel_rfl
theorem Jdi (k : Nat) : Jnq (pg k) "size" 0 "Duty" = some (Jei k, []) := by kernel_rfl
theorem Jdg (k : Nat) : Jnq (pg k) "work" 1 "Duty" = some (Jem k, []) := by kernel_rfl
theorem Jjj (k : Nat) : Jnq (pg k) "reordered" 1 "Duty" = some (Jbc k, []) := by kernel_rfl
theorem Jmp (k : Nat) : Jnq (pg k) "longer" 2 "Duty" = some (Jcg k, []) := by kernel_rfl
end LW
section
open PySem L2 L3 L4
local macro_rules | `(tactic| simp! [$xs,*]) => `(tactic| simp (implicitDefEqProofs := false) only [Jbn, Jf6, Jcv, Jcc, Jj7, Jcb, Jc5, Jcr, Jfc, Jf4, Jcx, Je8, Jeu, Jdj, Je, Jb0, Juy, Jj9, Jk9, Jdx, Jlr, Jgh, Jld, Jl5, Jc7, Jgl, Jcm, Jb6, Jba, Jbe, Jai, Jd2, Jey, Jc6, Jck, Jky, Jge, Jfe, Jbk, Jbl, Jk8, Jgc, Jgg, Jgo, Jfo, Jgr, Jcq, Jgp, Jgi, Jcj, Jlc, Jlv, Jlw, Jl1, Jlj, Jkv, Jf5, Jfu, Jfv, Jcp, Jf0, Jfm, Jih, Jbw, Jgf, Jc4, Jcu, Jgq, Jgs, Jfa, Jgj, Jbo, List.set_cons_succ, List.set_cons_zero, List.append_nil, List.cons_append, List.nil_append, exists_eq_left, exists_eq_left', IV.bl.injEq, IV.int.injEq, IV.ref.injEq, IV.str.injEq, IO.lst.injEq, IV.tup.injEq, Option.some.injEq, Bool.not_true, Bool.not_false, reduceCtorEq, eq_self, true_implies, false_implies, implies_true, and_true, true_and, and_false, false_and, Option.bind_some, Bool.true_eq_false, Bool.false_eq_true, Jew, Jb7, Jex, Jkd, Je5, Jez, Jco, Jbh, Jc3, Jay, Jcw, Jds, Je1, Jjp, Jje, Jkb, Jkk, Jj8, Jb9, Jb8, Jb5, $xs,*])
namespace LW
open PySem L2 L3 L4
section
variable {k : Nat} {h : IH}
theorem Jd : 1000000 < sizeLine := by decide
theorem J2n (o o' : IO) : List.set (h ++ [o]) h.length o' = h ++ [o'] := by
 rw [List.set_append_right _ _ (Nat.le_refl _), Nat.sub_self]; rfl
theorem Jkw (o o' : IO) (g : IH) : List.set (h ++ o :: g) h.length o' = h ++ o' :: g := by
 rw [List.set_append_right _ _ (Nat.le_refl _), Nat.sub_self]; rfl
end
end LW
namespace LW
open PySem L2 L3 L4
section
variable {k : Nat} {h : IH}
theorem Jes (ns : List Int) (n : Int) (hn : 0 <= n) : Jn (k + 1) [.rol (ns.map .int), .int n] h = .ok (.int (ns.getD n.toNat 0)) h := by
 refine Jdw ?_
 rw [Jmh]
 simp! [Jcs, Jf2, List.length_map, decide_eq_true_eq, decide_eq_false_iff_not]
 refine ⟨fun hl => ⟨.int (ns.getD n.toNat 0), Jrj hn ?_, rfl⟩, fun hl => ?_⟩
 ·rw [List.getElem?_map, List.getD_eq_getElem?_getD, List.getElem?_eq_getElem (show n.toNat < ns.length by omega)]
  rfl
 ·rw [List.getD_eq_getElem?_getD, List.getElem?_eq_none (by omega)]
  rfl
end
end LW
namespace LW
open PySem L2 L3 L4
section
variable {k : Nat} {h : IH}
theorem Jjw (i : Int) : Jdy (k + 1) [.int i] h = .ok (.bl true) h := by rw [Jro]; rfl
theorem Jjs (i j : Int) : Jv (k + 2) [.int i, .int j] h = .ok (.bl (decide (j <= i))) h := by
 refine Jdw ?_
 rw [Jkh]
 simp! [Jbv, Jjw]
noncomputable def IsNm (x : Str) : Prop := 1 <= x.length /\ x.length <= 8 /\ ∀ c ∈ x.cps.toList, 97 <= c /\ c <= 122
theorem a_cps : (Str.ofString "a").cps.toList = [97] := by decide +kernel
theorem z_cps : (Str.ofString "z").cps.toList = [122] := by decide +kernel
theorem J0x {c : Nat} (hc : 97 <= c /\ c <= 122) : Jen k [some (.str ⟨#[c]⟩)] h = .ok (.bl true) h := by
 refine Jdw ?_
 have h1 : ¬ ([c] < [97]) := fun q => by
  cases q with
  | rel q => omega
  | cons q => cases q
 have h2 : ¬ ([122] < [c]) := fun q => by
  cases q with
  | rel q => omega
  | cons q => cases q
 simp only [Jen, Jba, Juy, Jj9, Jb0, J39, a_cps, z_cps, h1, h2, decide_false, exists_eq_left, exists_eq_left', IV.bl.injEq, IV.int.injEq, IV.ref.injEq, IV.str.injEq, IO.lst.injEq, IV.tup.injEq, Option.some.injEq, Bool.not_true, Bool.not_false, reduceCtorEq, eq_self, true_implies, false_implies, implies_true, and_true, true_and, and_false, false_and, Option.bind_some, Bool.true_eq_false, Bool.false_eq_true, Jew, Jb7, Jex, Jkd, Je5, Jez, Jco, Jbh, Jc3, Jay, Jcw, Jds, Je1, Jjp, Jje, Jkb, Jkk, Jj8, Jb9, Jb8, Jb5]
theorem Jne {x : Str} (hx : IsNm x) : WR (Jfg (k + 1) [.str x] h) fun v h' => v = .bl true /\ Ex h h' := by
 obtain ⟨h1, h2, h3⟩ := hx
 have hb := Jd
 have hz : x.length <= sizeLine := by omega
 have a1 : (1 : Int) <= x.length := by omega
 have a2 : (x.length : Int) <= 8 := by omega
 rw [Jt4]
 simp! [Jhl, Jk2, hz, a1, a2, decide_true]
 refine WR.mono (Jak (xs := Jmo x) (chk := fun _ => True) (f := fun _ => .bl true) (h := h) ?_ ?_ (fun _ _ => trivial) ?_) ?_
 ·exact ⟨rfl, rfl, rfl⟩
 ·have : (Jmo x).length = x.length := by simp [Jmo, Str.length]
  omega
 ·intro v hv h2 _
  obtain ⟨c, hc, rfl⟩ := List.mem_map.mp hv
  exact WR.of_eq (J0x (h3 c hc)) ⟨rfl, .refl _⟩
 ·rintro v h' ⟨rfl, g, rfl⟩
  refine WR.of_eq (all_map (f := fun _ => true) J2) ⟨?_, .cons ..⟩
  simp
noncomputable abbrev Hd := Str × Int × Int
noncomputable def tupH (a : Hd) : IV := .tup [.str a.1, .int a.2.1, .int a.2.2]
noncomputable def HdOk (len : Int) (a : Hd) : Prop := IsNm a.1 /\ 0 <= a.2.1 /\ a.2.1 < a.2.2 /\ a.2.2 < len
noncomputable def Tog (a b : Hd) : Prop := a.2.2 <= b.2.1 ∨ b.2.2 <= a.2.1 ∨ (a.1 ≠ b.1 /\ ((b.2.1 <= a.2.1 /\ a.2.2 <= b.2.2) ∨ (a.2.1 <= b.2.1 /\ b.2.2 <= a.2.2)))
theorem Jtj {a : Hd} {len : Int} (ha : HdOk len a) : WR (Jh1 (k + 3) [tupH a, .int len] h) fun v h' => v = .bl true /\ Ex h h' := by
 obtain ⟨h1, h2, h3, h4⟩ := ha
 rw [Juq]
 have h5 : a.2.1 + 1 <= a.2.2 := by omega
 simp! [Jhm, Jlz, Jlm, tupH, List.length_cons, List.length_nil, Jjs]
 refine ⟨fun q => absurd q (by decide), fun _ => WR.mono (Jne h1) ?_⟩
 rintro v h' ⟨rfl, x⟩
 simp! [decide_eq_true h2, decide_eq_true h4, decide_eq_true h5]
 exact x
theorem Jqu (a b : Hd) : Jef (k + 1) [tupH a, tupH b] h = .ok (.bl (decide (a.2.2 <= b.2.1) || decide (b.2.2 <= a.2.1))) h := by
 refine Jdw ?_
 rw [Jqo]
 simp! [Jd4, tupH]
 cases decide (a.2.2 <= b.2.1) <;> simp
theorem Jtm (a b : Hd) : Jff (k + 1) [tupH a, tupH b] h = .ok (.bl (decide (b.2.1 <= a.2.1) && decide (a.2.2 <= b.2.2))) h := by
 refine Jdw ?_
 rw [Jup]
 simp! [Jhj, tupH]
 cases decide (b.2.1 <= a.2.1) <;> simp
theorem Jmj {a b : Hd} (t : Tog a b) : Jch (k + 2) [tupH a, tupH b] h = .ok (.bl true) h := by
 refine Jdw ?_
 rw [Jms]
 have ix : ∀ a : Hd, WR (opIx (tupH a) (.int 0) h) = fun P => P (.str a.1) h := fun a => by
  funext P
  simp only [tupH, Jds, exists_eq_left, exists_eq_left', IV.bl.injEq, IV.int.injEq, IV.ref.injEq, IV.str.injEq, IO.lst.injEq, IV.tup.injEq, Option.some.injEq, Bool.not_true, Bool.not_false, reduceCtorEq, eq_self, true_implies, false_implies, implies_true, and_true, true_and, and_false, false_and, Option.bind_some, Bool.true_eq_false, Bool.false_eq_true, Jew, Jb7, Jex, Jkd, Je5, Jez, Jco, Jbh, Jc3, Jay, Jcw, Jds, Je1, Jjp, Jje, Jkb, Jkk, Jj8, Jb9, Jb8, Jb5]
 simp! [Jcl, Jgk, Jf3, Jqu, Jtm, ix]
 unfold Tog at t
 simp only [Bool.or_eq_true, Bool.or_eq_false_iff, Bool.and_eq_true, Bool.and_eq_false_iff, decide_eq_true_eq, decide_eq_false_iff_not]
 grind
theorem Jrl {hs : List Hd} {i : Nat} (hi : h[i]? = some (.lst (hs.map tupH))) (hl : hs.length <= 6) (ht : ∀ m n (hm : m < n) (hn : n < hs.length), Tog hs[n] hs[m]) :
  WR (Ja7 (k + 3) [.ref i] h) fun v h' => v = .bl true /\ Ex h h' := by
 have hb := Jd
 rw [Jh4]
 simp! [Jbd, Jcz, J03, hi]
 refine Jdn (fun n σ h' => (∃ a b, σ = [some (.ref i), a, b]) /\ Ex h h') (fun n σ h' ⟨_, x⟩ => x.get hi) ?_ ?_ ⟨⟨_, _, rfl⟩, .refl h⟩
 ·rintro n hn _ h' ⟨⟨a, b, rfl⟩, x⟩
  have hn' : n < hs.length := by rw [Jdt, List.length_map] at hn; exact hn
  rw [J2h]
  simp only [List.getElem_map, Jzz, J17, J3x, List.length_cons, List.length_nil, Jbn, Jf6, Jcv, Jcc, Jj7, Jcb, Jc5, Jcr, Jfc, Jf4, Jcx, Je8, Jeu, Jdj, Je, Jb0, Juy, Jj9, Jk9, Jdx, Jlr, Jgh, Jld, Jl5, Jc7, Jgl, Jcm, Jb6, Jba, Jbe, Jai, Jd2, Jey, Jc6, Jck, Jky, Jge, Jfe, Jbk, Jbl, Jk8, Jgc, Jgg, Jgo, Jfo, Jgr, Jcq, Jgp, Jgi, Jcj, Jlc, Jlv, Jlw, Jl1, Jlj, Jkv, Jf5, Jfu, Jfv, Jcp, Jf0, Jfm, Jih, Jbw, Jgf, Jc4, Jcu, Jgq, Jgs, Jfa, Jgj, Jbo, List.set_cons_succ, List.set_cons_zero, List.append_nil, List.cons_append, List.nil_append, exists_eq_left, exists_eq_left', IV.bl.injEq, IV.int.injEq, IV.ref.injEq, IV.str.injEq, IO.lst.injEq, IV.tup.injEq, Option.some.injEq, Bool.not_true, Bool.not_false, reduceCtorEq, eq_self, true_implies, false_implies, implies_true, and_true, true_and, and_false, false_and, Option.bind_some, Bool.true_eq_false, Bool.false_eq_true, Jew, Jb7, Jex, Jkd, Je5, Jez, Jco, Jbh, Jc3, Jay, Jcw, Jds, Je1, Jjp, Jje, Jkb, Jkk, Jj8, Jb9, Jb8, Jb5, Jce]
  have hi' := x.get hi
  refine WR.mono (Jak (xs := (hs.map tupH).take n) (chk := fun h2 => h2[h'.length]? = some (.lst ((hs.map tupH).take n))) (f := fun _ => .bl true) (h := h' ++ [.lst ((hs.map tupH).take n)]) ?_ ?_ ?_ ?_) ?_
  ·simp! [Js4, hi', Jb1, Jx8, Jaw]
  ·simp only [List.length_take, List.length_map]; omega
  ·exact fun h2 q => q _ _ Jaw
  ·intro v hv h2 q
   obtain ⟨j, hj, rfl⟩ := List.mem_iff_getElem.mp hv
   have hj' : j < n := by simp at hj; omega
   simp only [List.getElem_take, List.getElem_map, Jb3, Jbn, Jf6, Jcv, Jcc, Jj7, Jcb, Jc5, Jcr, Jfc, Jf4, Jcx, Je8, Jeu, Jdj, Je, Jb0, Juy, Jj9, Jk9, Jdx, Jlr, Jgh, Jld, Jl5, Jc7, Jgl, Jcm, Jb6, Jba, Jbe, Jai, Jd2, Jey, Jc6, Jck, Jky, Jge, Jfe, Jbk, Jbl, Jk8, Jgc, Jgg, Jgo, Jfo, Jgr, Jcq, Jgp, Jgi, Jcj, Jlc, Jlv, Jlw, Jl1, Jlj, Jkv, Jf5, Jfu, Jfv, Jcp, Jf0, Jfm, Jih, Jbw, Jgf, Jc4, Jcu, Jgq, Jgs, Jfa, Jgj, Jbo, List.set_cons_succ, List.set_cons_zero, List.append_nil, List.cons_append, List.nil_append, exists_eq_left, exists_eq_left', IV.bl.injEq, IV.int.injEq, IV.ref.injEq, IV.str.injEq, IO.lst.injEq, IV.tup.injEq, Option.some.injEq, Bool.not_true, Bool.not_false, reduceCtorEq, eq_self, true_implies, false_implies, implies_true, and_true, true_and, and_false, false_and, Option.bind_some, Bool.true_eq_false, Bool.false_eq_true, Jew, Jb7, Jex, Jkd, Je5, Jez, Jco, Jbh, Jc3, Jay, Jcw, Jds, Je1, Jjp, Jje, Jkb, Jkk, Jj8, Jb9, Jb8, Jb5, List.map_cons, List.map_nil, List.getElem?_cons_succ, List.getElem?_cons_zero, Option.join_some]
   exact WR.of_eq (Jmj (ht j n hj' hn')) ⟨rfl, .refl _⟩
  ·rintro v h3 ⟨rfl, g, rfl⟩
   refine WR.of_eq (all_map (f := fun _ => true) J2) ?_
   have : (((hs.map tupH).take n).all fun _ => true) = true := by simp
   simp only [this, Jbn, Jf6, Jcv, Jcc, Jj7, Jcb, Jc5, Jcr, Jfc, Jf4, Jcx, Je8, Jeu, Jdj, Je, Jb0, Juy, Jj9, Jk9, Jdx, Jlr, Jgh, Jld, Jl5, Jc7, Jgl, Jcm, Jb6, Jba, Jbe, Jai, Jd2, Jey, Jc6, Jck, Jky, Jge, Jfe, Jbk, Jbl, Jk8, Jgc, Jgg, Jgo, Jfo, Jgr, Jcq, Jgp, Jgi, Jcj, Jlc, Jlv, Jlw, Jl1, Jlj, Jkv, Jf5, Jfu, Jfv, Jcp, Jf0, Jfm, Jih, Jbw, Jgf, Jc4, Jcu, Jgq, Jgs, Jfa, Jgj, Jbo, List.set_cons_succ, List.set_cons_zero, List.append_nil, List.cons_append, List.nil_append, exists_eq_left, exists_eq_left', IV.bl.injEq, IV.int.injEq, IV.ref.injEq, IV.str.injEq, IO.lst.injEq, IV.tup.injEq, Option.some.injEq, Bool.not_true, Bool.not_false, reduceCtorEq, eq_self, true_implies, false_implies, implies_true, and_true, true_and, and_false, false_and, Option.bind_some, Bool.true_eq_false, Bool.false_eq_true, Jew, Jb7, Jex, Jkd, Je5, Jez, Jco, Jbh, Jc3, Jay, Jcw, Jds, Je1, Jjp, Jje, Jkb, Jkk, Jj8, Jb9, Jb8, Jb5]
   exact ⟨⟨_, _, rfl⟩, x.trans ((Ex.one _ _).trans (.cons ..))⟩
 ·rintro _ h' ⟨⟨a, b, rfl⟩, x⟩
  exact x
structure HsOk (len : Int) (hs : List Hd) : Prop where
 few : hs.length <= 6
 each : ∀ a ∈ hs, HdOk len a
 tog : ∀ m n (hm : m < n) (hn : n < hs.length), Tog hs[n] hs[m]
theorem Jju {hs : List Hd} {i : Nat} {len : Int} (hi : h[i]? = some (.lst (hs.map tupH))) (ok : HsOk len hs) :
  WR (Jbx (k + 4) [.ref i, .int len] h) fun v h' => v = .tup (hs.map tupH) /\ Ex h h' := by
 have hb := Jd
 have hl := ok.few
 have h6 : ¬ (6 : Int) < (hs.length : Int) := by omega
 rw [Jp4]
 simp! [Jec, Jho, Jiv, Jix, Jys, isI, Jw4 hi, Jrw, hi, List.length_map, h6, decide_false]
 refine WR.mono (Jak (xs := hs.map tupH) (chk := fun h2 => h2[i]? = some (.lst (hs.map tupH))) (f := fun _ => .bl true) (h := h) ?_ ?_ ?_ ?_) ?_
 ·simp! [Jb1, hi]
 ·simp only [List.length_map]; omega
 ·exact fun h2 q => q _ _ hi
 ·intro v hv h2 q
  obtain ⟨a, ha, rfl⟩ := List.mem_map.mp hv
  simp only [Jgn, Jbn, Jf6, Jcv, Jcc, Jj7, Jcb, Jc5, Jcr, Jfc, Jf4, Jcx, Je8, Jeu, Jdj, Je, Jb0, Juy, Jj9, Jk9, Jdx, Jlr, Jgh, Jld, Jl5, Jc7, Jgl, Jcm, Jb6, Jba, Jbe, Jai, Jd2, Jey, Jc6, Jck, Jky, Jge, Jfe, Jbk, Jbl, Jk8, Jgc, Jgg, Jgo, Jfo, Jgr, Jcq, Jgp, Jgi, Jcj, Jlc, Jlv, Jlw, Jl1, Jlj, Jkv, Jf5, Jfu, Jfv, Jcp, Jf0, Jfm, Jih, Jbw, Jgf, Jc4, Jcu, Jgq, Jgs, Jfa, Jgj, Jbo, List.set_cons_succ, List.set_cons_zero, List.append_nil, List.cons_append, List.nil_append, exists_eq_left, exists_eq_left', IV.bl.injEq, IV.int.injEq, IV.ref.injEq, IV.str.injEq, IO.lst.injEq, IV.tup.injEq, Option.some.injEq, Bool.not_true, Bool.not_false, reduceCtorEq, eq_self, true_implies, false_implies, implies_true, and_true, true_and, and_false, false_and, Option.bind_some, Bool.true_eq_false, Bool.false_eq_true, Jew, Jb7, Jex, Jkd, Je5, Jez, Jco, Jbh, Jc3, Jay, Jcw, Jds, Je1, Jjp, Jje, Jkb, Jkk, Jj8, Jb9, Jb8, Jb5, List.map_cons, List.map_nil, List.getElem?_cons_succ, List.getElem?_cons_zero, Option.join_some]
  exact Jtj (ok.each a ha)
 ·rintro v h1 ⟨rfl, g, rfl⟩
  refine WR.of_eq (all_map (f := fun _ => true) J2) ?_
  have : ((hs.map tupH).all fun _ => true) = true := by simp
  simp only [this, Jbn, Jf6, Jcv, Jcc, Jj7, Jcb, Jc5, Jcr, Jfc, Jf4, Jcx, Je8, Jeu, Jdj, Je, Jb0, Juy, Jj9, Jk9, Jdx, Jlr, Jgh, Jld, Jl5, Jc7, Jgl, Jcm, Jb6, Jba, Jbe, Jai, Jd2, Jey, Jc6, Jck, Jky, Jge, Jfe, Jbk, Jbl, Jk8, Jgc, Jgg, Jgo, Jfo, Jgr, Jcq, Jgp, Jgi, Jcj, Jlc, Jlv, Jlw, Jl1, Jlj, Jkv, Jf5, Jfu, Jfv, Jcp, Jf0, Jfm, Jih, Jbw, Jgf, Jc4, Jcu, Jgq, Jgs, Jfa, Jgj, Jbo, List.set_cons_succ, List.set_cons_zero, List.append_nil, List.cons_append, List.nil_append, exists_eq_left, exists_eq_left', IV.bl.injEq, IV.int.injEq, IV.ref.injEq, IV.str.injEq, IO.lst.injEq, IV.tup.injEq, Option.some.injEq, Bool.not_true, Bool.not_false, reduceCtorEq, eq_self, true_implies, false_implies, implies_true, and_true, true_and, and_false, false_and, Option.bind_some, Bool.true_eq_false, Bool.false_eq_true, Jew, Jb7, Jex, Jkd, Je5, Jez, Jco, Jbh, Jc3, Jay, Jcw, Jds, Je1, Jjp, Jje, Jkb, Jkk, Jj8, Jb9, Jb8, Jb5, Jia, Jhq]
  have x1 : Ex h (h ++ IO.lst (List.map (fun x => IV.bl true) (hs.map tupH)) :: g) := .cons ..
  refine WR.mono (Jrl (x1.get hi) hl ok.tog) ?_
  rintro v h2 ⟨rfl, x2⟩
  simp! [true_and]
  have hi2 := x2.get (x1.get hi)
  refine WR.mono (Jak (xs := hs.map tupH) (chk := fun h3 => h3[i]? = some (.lst (hs.map tupH))) (f := fun x => x) (h := h2) ?_ ?_ ?_ ?_) ?_
  ·simp! [Jb1, hi2]
  ·simp only [List.length_map]; omega
  ·exact fun h2 q => q _ _ hi2
  ·intro v hv h3 q
   obtain ⟨a, ha, rfl⟩ := List.mem_map.mp hv
   simp only [Jfr, tupH, Jbn, Jf6, Jcv, Jcc, Jj7, Jcb, Jc5, Jcr, Jfc, Jf4, Jcx, Je8, Jeu, Jdj, Je, Jb0, Juy, Jj9, Jk9, Jdx, Jlr, Jgh, Jld, Jl5, Jc7, Jgl, Jcm, Jb6, Jba, Jbe, Jai, Jd2, Jey, Jc6, Jck, Jky, Jge, Jfe, Jbk, Jbl, Jk8, Jgc, Jgg, Jgo, Jfo, Jgr, Jcq, Jgp, Jgi, Jcj, Jlc, Jlv, Jlw, Jl1, Jlj, Jkv, Jf5, Jfu, Jfv, Jcp, Jf0, Jfm, Jih, Jbw, Jgf, Jc4, Jcu, Jgq, Jgs, Jfa, Jgj, Jbo, List.set_cons_succ, List.set_cons_zero, List.append_nil, List.cons_append, List.nil_append, exists_eq_left, exists_eq_left', IV.bl.injEq, IV.int.injEq, IV.ref.injEq, IV.str.injEq, IO.lst.injEq, IV.tup.injEq, Option.some.injEq, Bool.not_true, Bool.not_false, reduceCtorEq, eq_self, true_implies, false_implies, implies_true, and_true, true_and, and_false, false_and, Option.bind_some, Bool.true_eq_false, Bool.false_eq_true, Jew, Jb7, Jex, Jkd, Je5, Jez, Jco, Jbh, Jc3, Jay, Jcw, Jds, Je1, Jjp, Jje, Jkb, Jkk, Jj8, Jb9, Jb8, Jb5, List.length_cons, List.length_nil]
   exact ⟨by omega, .refl _⟩
  ·rintro v h3 ⟨rfl, g3, rfl⟩
   simp only [Jvt, J2, exists_eq_left, exists_eq_left', IV.bl.injEq, IV.int.injEq, IV.ref.injEq, IV.str.injEq, IO.lst.injEq, IV.tup.injEq, Option.some.injEq, Bool.not_true, Bool.not_false, reduceCtorEq, eq_self, true_implies, false_implies, implies_true, and_true, true_and, and_false, false_and, Option.bind_some, Bool.true_eq_false, Bool.false_eq_true, Jew, Jb7, Jex, Jkd, Je5, Jez, Jco, Jbh, Jc3, Jay, Jcw, Jds, Je1, Jjp, Jje, Jkb, Jkk, Jj8, Jb9, Jb8, Jb5, List.map_id']
   exact x1.trans (x2.trans (.cons ..))
theorem Jm4 {due gap : Int} (h1 : 1 <= due) (h2 : due <= gap) : Jdz (k + 3) [.int due, .int gap] h = .ok (.int due) h := by
 refine Jdw ?_
 rw [Jte]
 have : ¬ gap < due := by omega
 simp! [Jha, Jk1, Jln, Jys, isI, Jjs, decide_eq_true h1, decide_eq_false this]
noncomputable def wfs (name : Str) (gap len due late : Int) (hs : List IV) : List (Str × IV) := [("name", .str name), ("gap", .int gap), ("length", .int len), ("due", .int due), ("late", .int late), ("hold_tuples", .tup hs)]
section
variable (a b c d e f : IV)
theorem put0 : putI "name" a ([] : List (Str × IV)) = ([("name", a)] : List (Str × IV)) := by kernel_rfl
theorem put1 : putI "gap" b ([("name", a)] : List (Str × IV)) = ([("name", a), ("gap", b)] : List (Str × IV)) := by kernel_rfl
theorem put2 : putI "length" c ([("name", a), ("gap", b)] : List (Str × IV)) = ([("name", a), ("gap", b), ("length", c)] : List (Str × IV)) := by kernel_rfl
theorem put3 : putI "due" d ([("name", a), ("gap", b), ("length", c)] : List (Str × IV)) = ([("name", a), ("gap", b), ("length", c), ("due", d)] : List (Str × IV)) := by kernel_rfl
theorem put4 : putI "late" e ([("name", a), ("gap", b), ("length", c), ("due", d)] : List (Str × IV)) = ([("name", a), ("gap", b), ("length", c), ("due", d), ("late", e)] : List (Str × IV)) := by kernel_rfl
theorem put5 : putI "hold_tuples" f ([("name", a), ("gap", b), ("length", c), ("due", d), ("late", e)] : List (Str × IV)) = ([("name", a), ("gap", b), ("length", c), ("due", d), ("late", e), ("hold_tuples", f)] : List (Str × IV)) := by kernel_rfl
variable {name : Str} {gap len due late : Int} {hs : List IV}
theorem fl0 : (wfs name gap len due late hs).lookup ("name" : Str) = some (.str name) := by kernel_rfl
theorem fl1 : (wfs name gap len due late hs).lookup ("gap" : Str) = some (.int gap) := by kernel_rfl
theorem fl2 : (wfs name gap len due late hs).lookup ("length" : Str) = some (.int len) := by kernel_rfl
theorem fl3 : (wfs name gap len due late hs).lookup ("due" : Str) = some (.int due) := by kernel_rfl
theorem fl4 : (wfs name gap len due late hs).lookup ("late" : Str) = some (.int late) := by kernel_rfl
theorem fl5 : (wfs name gap len due late hs).lookup ("hold_tuples" : Str) = some (.tup hs) := by kernel_rfl
theorem flh : (wfs name gap len due late hs).lookup ("held" : Str) = none := by kernel_rfl
end
theorem Jvp {name : Str} {gap len due late : Int} {dv hv : IV} {hs : List IV} {w : Nat} (hw : h[w]? = some (.ins "Work" [])) (hn : IsNm name) (hg : 1 <= gap) (hl : 1 <= len) (ht : 0 <= late)
  (hd : ∀ h1, Jdz (k + 4) [dv, .int gap] h1 = .ok (.int due) h1) (hh : ∀ h1 : IH, (∀ (j : Nat) (o : IO), j ≠ w -> h[j]? = some o -> h1[j]? = some o) -> WR (Jbx (k + 4) [hv, .int len] h1) fun v h2 => v = .tup hs /\ Ex h1 h2) :
  WR (Jbs (k + 5) [.ref w, .str name, .int gap, .int len, dv, .int late, hv] h) fun v h' => v = .non /\ ∃ g, h' = h.set w (.ins "Work" (wfs name gap len due late hs)) ++ g := by
 rw [Jo2]
 simp! [Jeh]
 refine WR.mono (Jne hn) ?_
 rintro v h1 ⟨rfl, g1, rfl⟩
 have lw := Jhk hw
 have s1 : ∀ {o : IO}, (h ++ g1).set w o = h.set w o ++ g1 := by intro o; rw [List.set_append_left (h := lw)]
 have at1 : ∀ {o : IO}, (h.set w o ++ g1)[w]? = some o := by
  intro o
  rw [List.getElem?_append_left (by rw [List.length_set]; exact lw), List.getElem?_set_self lw]
 have s2 : ∀ {o o' : IO}, (h.set w o ++ g1).set w o' = h.set w o' ++ g1 := by intro o o'; rw [List.set_append_left (h := by rw [List.length_set]; exact lw), List.set_set]
 simp! [Jie, Jh7, Ji5, Jh6, Jip, Jik, Jiu, Jjc, Jjs, decide_eq_true hg, decide_eq_true hl, decide_eq_true ht, Jre, IO.ins.injEq, grow hw]
 refine ⟨w, _, _, rfl, grow hw, by decide, ?_⟩
 rw [s1, put0]
 refine ⟨w, _, _, rfl, at1, by show (1 : Nat) < 1000; decide, ?_⟩
 rw [s2, put1]
 refine ⟨w, _, _, rfl, at1, by show (2 : Nat) < 1000; decide, ?_⟩
 rw [s2, put2, hd]
 refine ⟨w, _, _, rfl, at1, by show (3 : Nat) < 1000; decide, ?_⟩
 rw [s2, put3]
 refine ⟨w, _, _, rfl, at1, by show (4 : Nat) < 1000; decide, ?_⟩
 rw [s2, put4]
 simp! [Jir, Jre]
 refine WR.mono (hh _ fun j o hj e => ?_) ?_
 ·refine grow ?_
  rw [List.getElem?_set_ne (Ne.symm hj)]
  exact e
 ·rintro v h2 ⟨rfl, g2, rfl⟩
  refine ⟨w, _, _, rfl, grow at1, by show (5 : Nat) < 1000; decide, g1 ++ g2, ?_⟩
  rw [List.set_append_left (h := Jhk at1), s2, put5, List.append_assoc]
  rfl
theorem Jvs {name : Str} {gap len due late : Int} {dv hv : IV} {hs : List IV} (hn : IsNm name) (hg : 1 <= gap) (hl : 1 <= len) (ht : 0 <= late)
  (hd : ∀ h1, Jdz (k + 4) [dv, .int gap] h1 = .ok (.int due) h1) (hh : ∀ h1 : IH, (∀ (j : Nat) (o : IO), h[j]? = some o -> h1[j]? = some o) -> WR (Jbx (k + 4) [hv, .int len] h1) fun v h2 => v = .tup hs /\ Ex h1 h2) :
  WR (Jbs (k + 5) [.ref h.length, .str name, .int gap, .int len, dv, .int late, hv] (h ++ [.ins "Work" []])) fun v h' => v = .non /\ ∃ g, h' = h ++ .ins "Work" (wfs name gap len due late hs) :: g := by
 refine WR.mono (Jvp Jaw hn hg hl ht hd fun h1 q => hh h1 fun j o e => q j o (by have := Jhk e; omega) (grow e)) ?_
 rintro v h' ⟨rfl, g, rfl⟩
 exact ⟨rfl, g, by rw [J2n]; simp⟩
end
end LW
namespace LW
open PySem L2 L3 L4
section
variable {k : Nat} {h : IH}
theorem Jk0 {name : Str} {gap len due late : Int} {hs : List IV} {w : Nat} (hw : h[w]? = some (.ins "Work" (wfs name gap len due late hs))) : Jd5 (k + 1) [.ref w] h = .ok (.ref h.length) (h ++ [.lst hs]) := by
 refine Jdw ?_
 rw [Jon]
 simp! [Jed, Jh hw, fl5]
end
end LW
namespace LW
open PySem L2 L3 L4
section
variable {k : Nat} {h : IH}
noncomputable def nSz (c : Int) : Int := 1 + c % 8
noncomputable def nAt (c : Int) : Int := c / 8 % 840 % nSz c
noncomputable def nSg (c k j : Int) : Int := c / 6720 + j * (1 + c % 25) + k * (if j = nAt c then 1 else 0)
noncomputable def nL (c : Int) (k m : Nat) : List Nat := (List.range m).map fun j : Nat => 97 + (nSg c (k : Int) (j : Int) % 26).toNat
noncomputable def nm (c : Int) (k : Nat) : Str := ⟨(nL c k (nSz c).toNat).toArray⟩
theorem Jq1 : (Str.ofString "abcdefghijklmnopqrstuvwxyz").cps.toList = (List.range 26).map (97 + ·) := by decide +kernel
theorem Jq2 : (Str.ofString "abcdefghijklmnopqrstuvwxyz").length = 26 := by decide +kernel
theorem Jxf {n : Int} (h0 : 0 <= n) (h1 : n < 26) {Q : IV -> IH -> Prop} : WR (opIx (.str "abcdefghijklmnopqrstuvwxyz") (.int n) h) Q = Q (.str ⟨#[97 + n.toNat]⟩) h := by
 have hb := Jd
 have e : atI (Str.ofString "abcdefghijklmnopqrstuvwxyz").cps.toList n = some (97 + n.toNat) := by
  rw [Jq1]
  refine Jrj h0 ?_
  rw [List.getElem?_map, List.getElem?_range (by omega)]
  rfl
 simp only [opIx]
 rw [if_pos (by rw [Jq2]; omega), e]
 rfl
theorem J1d (c : Int) (k m : Nat) : nL c k (m + 1) = nL c k m ++ [97 + (nSg c (k : Int) (m : Int) % 26).toNat] := by simp [nL, List.range_succ]
theorem Jxj (c : Int) (k m : Nat) : (nL c k m).length = m := by simp [nL]
theorem Jyb (l : List Nat) (x : Nat) : (⟨l.toArray⟩ : Str) ++ (⟨#[x]⟩ : Str) = ⟨(l ++ [x]).toArray⟩ := by
 show Str.append _ _ = _
 unfold Str.append
 simp
theorem Jnm (l : List Nat) : (⟨l.toArray⟩ : Str).length = l.length := by simp [Str.length]
theorem Jw0 : (Str.ofString "") = (⟨([] : List Nat).toArray⟩ : Str) := by decide +kernel
theorem Jrb (c : Int) (k : Nat) : IsNm (nm c k) := by
 have hs : 0 < nSz c /\ nSz c <= 8 := by unfold nSz; omega
 refine ⟨?_, ?_, ?_⟩
 ·rw [nm, Jnm, Jxj]; omega
 ·rw [nm, Jnm, Jxj]; omega
 ·intro x hx
  have hx : x ∈ nL c k (nSz c).toNat := by simpa [nm] using hx
  obtain ⟨j, _, rfl⟩ := List.mem_map.mp hx
  have h1 := Int.emod_nonneg (nSg c (k : Int) (j : Int)) (b := 26) (by decide)
  have h2 := Int.emod_lt_of_pos (nSg c (k : Int) (j : Int)) (b := 26) (by decide)
  omega
theorem J25 {c : Int} {k l : Nat} (hk : k < 26) (hl : l < 26) (e : nm c k = nm c l) : k = l := by
 have hs : 0 < nSz c /\ nSz c <= 8 := by unfold nSz; omega
 have ha : 0 <= nAt c /\ nAt c < nSz c := ⟨Int.emod_nonneg _ (by omega), Int.emod_lt_of_pos _ hs.1⟩
 have e1 : nL c k (nSz c).toNat = nL c l (nSz c).toNat := by
  have : (nL c k (nSz c).toNat).toArray = (nL c l (nSz c).toNat).toArray := congrArg Str.cps e
  simpa using this
 have e2 := congrArg (fun L : List Nat => L[(nAt c).toNat]?) e1
 have hj : ((nAt c).toNat : Int) = nAt c := by omega
 simp only [nL, List.getElem?_map, List.getElem?_range (show (nAt c).toNat < (nSz c).toNat by omega), Option.map_some, Option.some.injEq, hj] at e2
 have e3 : nSg c (k : Int) (nAt c) % 26 = nSg c (l : Int) (nAt c) % 26 := by
  have h1 := Int.emod_nonneg (nSg c (k : Int) (nAt c)) (b := 26) (by decide)
  have h2 := Int.emod_nonneg (nSg c (l : Int) (nAt c)) (b := 26) (by decide)
  omega
 simp only [nSg, if_true, Int.mul_one] at e3
 omega
noncomputable abbrev nmS (c : Int) (m : Nat) (a b d e f : Option IV) : ISt := [some (.int c), some (.int m), some (.str "abcdefghijklmnopqrstuvwxyz"), some (.int (1 + c % 8)), some (.int (c / 8 % 840 % (1 + c % 8))), a, b, d, e, f]
theorem Jy9 (c : Int) (m : Nat) (hm : m <= 12) : Jc8 (k + 1) [.int c, .int m] h = .ok (.ref h.length) (h ++ [.lst ((List.range m).map fun j => .str (nm c j))]) := by
 have hb := Jd
 refine Jdw ?_
 rw [Joz]
 have hs : 0 < nSz c /\ nSz c <= 8 := by unfold nSz; omega
 have l8 : (8 : Int).natAbs.log2 < 9000 := by decide
 have l7 : (6720 : Int).natAbs.log2 < 9000 := by decide +kernel
 have ha : 0 <= nAt c /\ nAt c < nSz c := ⟨Int.emod_nonneg _ (by omega), Int.emod_lt_of_pos _ hs.1⟩
 simp! [Jea, Jhz, Jib, Jio, Jhx, show (0 : Int) < 8 by decide, show (0 : Int) < 840 by decide, l8, show (0 : Int) < 1 + c % 8 by omega, List.length_nil, Nat.zero_le]
 refine ⟨⟨by omega, by omega⟩, ?_⟩
 refine Jdn (fun n σ h' => h' = h ++ [.lst ((List.range n).map fun j => .str (nm c j))] /\ ∃ a b d e, σ = nmS c m (some (.ref h.length)) a b d e)
  (fun _ _ _ _ => trivial) ?_ ?_ ⟨by simp, _, _, _, _, rfl⟩
 ·rintro n hn _ _ ⟨rfl, a, b, d, e, rfl⟩
  rw [Jg1]
  rw [Jas] at hn
  simp! [Jg8]
  refine ⟨⟨by omega, by omega⟩, ?_⟩
  refine Jdn (fun j σ h' => h' = h ++ [.lst ((List.range n).map fun j => .str (nm c j))] /\ ∃ d e, σ = nmS c m (some (.ref h.length)) (some (.int (0 + (n : Int)))) (some (.str ⟨(nL c n j).toArray⟩)) d e)
   (fun _ _ _ _ => trivial) ?_ ?_ ⟨rfl, _, _, by rw [Jw0]; rfl⟩
  ·rintro j hj _ _ ⟨rfl, d, e, rfl⟩
   rw [Jg1]
   rw [Jas] at hj
   have hj8 : (j : Int) < nSz c := by unfold nSz; omega
   have m1 : Jat (0 + (j : Int)) (1 + c % 25) := .inl (by omega)
   have m2 : ∀ x : Int, Jat (0 + (n : Int)) x := fun x => .inl (by omega)
   simp! [Jg0, show (0 : Int) < 6720 by decide, show (0 : Int) < 25 by decide, show (0 : Int) < 26 by decide, l7, m1, m2, intI]
   have hx : c / 6720 + (0 + (j : Int)) * (1 + c % 25) + (0 + (n : Int)) * (if decide (0 + (j : Int) = c / 8 % 840 % (1 + c % 8)) = true then 1 else 0) = nSg c (n : Int) (j : Int) := by
    by_cases q : (j : Int) = c / 8 % 840 % (1 + c % 8) <;> simp [nSg, nAt, nSz, q]
   rw [hx, Jxf (Int.emod_nonneg _ (by decide)) (Int.emod_lt_of_pos _ (by decide))]
   simp! [Jyb]
   refine ⟨?_, _, _, by rw [J1d]⟩
   rw [Jnm, Jnm, Jxj]
   simp
   omega
  ·rintro _ _ ⟨rfl, d, e, rfl⟩
   rw [Jas]
   rw [Jjl (i := h.length) (h1 := h ++ [.lst ((List.range n).map fun j => .str (nm c j))]) rfl Jaw Jll]
   simp! [Jlk]
   refine ⟨_, Jaw, ?_, ?_, _, _, _, _, rfl⟩
   ·simp; omega
   ·rw [List.range_succ, List.map_append, List.set_append_right _ _ (Nat.le_refl _), Nat.sub_self]
    simp [nm, nSz]
 ·rintro _ _ ⟨rfl, a, b, d, e, rfl⟩
  rw [Jas]
  simp! [Jhu]
  simp
end
end LW
namespace LW
open PySem L2 L3 L4
section
variable {k : Nat} {h : IH}
mutual
theorem Jok : ∀ d : PyData, d.canLay0 = true -> PyData.eqv d d = true
 | .none, _ => by simp [PyData.eqv]
 | .bool _, _ => by simp [PyData.eqv]
 | .int _, _ => by simp [PyData.eqv]
 | .str _, _ => by simp [PyData.eqv]
 | .list xs, q => by
  rw [PyData.eqv]
  exact Jla xs (by rw [PyData.canLay0] at q; exact q)
 | .tuple xs, q => by
  rw [PyData.eqv]
  exact Jla xs (by rw [PyData.canLay0] at q; exact q)
 | .dict _, q => by rw [PyData.canLay0] at q; cases q
theorem Jla : ∀ ds : List PyData, PyData.canLayAll0 ds = true -> PyData.eqvAll ds ds = true
 | [], _ => by rw [PyData.eqvAll]
 | d :: ds, q => by
  rw [PyData.canLayAll0, Bool.and_eq_true] at q
  rw [PyData.eqvAll, Jok d q.1, Jla ds q.2]
  rfl
end
theorem Jz8 {i j : Nat} {d : PyData} (hi : toD h 6 (.ref i) = some d) (hj : toD h 6 (.ref j) = some d) (q : d.canLay0 = true) : cNe (.ref i) (.ref j) h = .ok (.bl false) h := by
 have e3 : Jmn (.ref i) (.ref j) h = some true := by
  unfold Jmn
  rw [hi, hj]
  dsimp only
  rw [if_pos ⟨q, q⟩, Jok d q]
 unfold cNe
 have e4 : Jl9 (.ref i) (.ref j) = none := rfl
 rw [e4]
 dsimp only
 rw [e3]
 rfl
theorem Jxt {i n : Nat} {xs : List IV} (e : h[i]? = some (.lst xs)) : toD h (n + 1) (.ref i) = (xs.mapM (toD h n)).map PyData.list := by
 show (match h[i]? with | some (.lst xs) => (xs.mapM (toD h n)).map PyData.list | _ => none) = _
 rw [e]
theorem Ju0 {f : IV -> Option PyData} {g : IV -> PyData} : ∀ {xs : List IV}, (∀ x ∈ xs, f x = some (g x)) -> xs.mapM f = some (xs.map g)
 | [], _ => rfl
 | x :: xs, q => by
  rw [List.mapM_cons, q x (List.mem_cons_self ..), Ju0 fun y hy => q y (List.mem_cons_of_mem _ hy)]
  rfl
theorem Jz0 {g : IV -> PyData} : ∀ {xs : List IV}, (∀ x ∈ xs, (g x).canLay0 = true) -> PyData.canLayAll0 (xs.map g) = true
 | [], _ => by rw [List.map_nil, PyData.canLayAll0]
 | x :: xs, q => by
  rw [List.map_cons, PyData.canLayAll0, q x (List.mem_cons_self ..), Jz0 fun y hy => q y (List.mem_cons_of_mem _ hy)]
  rfl
end
end LW
namespace LW
open PySem L2 L3 L4
structure WD where
 name : Str
 gap : Int
 len : Int
 due : Int
 late : Int
noncomputable def IsW (h : IH) (v : IV) (d : WD) : Prop := ∃ i hs, v = .ref i /\ h[i]? = some (.ins "Work" (wfs d.name d.gap d.len d.due d.late hs))
theorem IsW.kp {h h' : IH} {v : IV} {d : WD} (k : Kp h h') (w : IsW h v d) : IsW h' v d := by
 obtain ⟨i, hs, e, q⟩ := w
 exact ⟨i, hs, e, k _ _ q⟩
structure AllW (h : IH) (vs : List IV) (ds : List WD) : Prop where
 len : vs.length = ds.length
 at_ : ∀ (i : Nat) v d, vs[i]? = some v -> ds[i]? = some d -> IsW h v d
theorem AllW.kp {h h' : IH} {vs : List IV} {ds : List WD} (k : Kp h h') (w : AllW h vs ds) : AllW h' vs ds := ⟨w.len, fun i v d a b => (w.at_ i v d a b).kp k⟩
theorem AllW.of {h : IH} {vs : List IV} {ds : List WD} (w : AllW h vs ds) {v : IV} (hv : v ∈ vs) : ∃ d ∈ ds, IsW h v d := by
 obtain ⟨i, hi, rfl⟩ := List.mem_iff_getElem.mp hv
 have hi' : i < ds.length := by rw [<- w.len]; exact hi
 exact ⟨ds[i], List.getElem_mem hi', w.at_ i _ _ (List.getElem?_eq_getElem hi) (List.getElem?_eq_getElem hi')⟩
noncomputable def fOf (f : Str) (h : IH) (v : IV) : IV := (Jhc f v h).getD .non
theorem AllW.mapF {h : IH} {vs : List IV} {ds : List WD} (w : AllW h vs ds) {F : IV -> IV} {g : WD -> IV} (hf : ∀ (i : Nat) (d : WD) hs, h[i]? = some (.ins "Work" (wfs d.name d.gap d.len d.due d.late hs)) -> F (.ref i) = g d) : vs.map F = ds.map g := by
 refine List.ext_getElem? fun i => ?_
 rw [List.getElem?_map, List.getElem?_map]
 by_cases hi : i < vs.length
 ·have hi' : i < ds.length := by rw [<- w.len]; exact hi
  rw [List.getElem?_eq_getElem hi, List.getElem?_eq_getElem hi']
  obtain ⟨j, hs, e, q⟩ := w.at_ i _ _ (List.getElem?_eq_getElem hi) (List.getElem?_eq_getElem hi')
  simp only [Option.map_some, Option.some.injEq]
  rw [e, hf j _ hs q]
 ·have hi' : ¬ i < ds.length := by rw [<- w.len]; exact hi
  rw [List.getElem?_eq_none (by omega), List.getElem?_eq_none (by omega)]
  rfl
section
variable {k : Nat} {h : IH}
theorem Jyx : J0a ["Work"] (.ins "Work") = some true := by kernel_rfl
theorem Jo0 {vs : List IV} {ds : List WD} {i : Nat} (hi : h[i]? = some (.lst vs)) (w : AllW h vs ds) (nd : (ds.map (·.name)).Nodup) (hl : ds.length <= 20) :
  WR (Jeg (k + 1) [.ref i] h) fun v h' => v = .tup vs /\ Ex h h' := by
 have hb := Jd
 have wl := w.len
 rw [Jqc]
 simp! [Jd7, Ji4, Jw4 hi]
 refine WR.mono (Jak (h := h) (xs := vs) (chk := fun h' => h'[i]? = some (.lst vs)) (f := fun _ => .bl true) ?_ (by omega) (fun h2 q => q _ _ hi) ?_) ?_
 ·simp! [Jb1, hi]
 ·intro v hv h2 q
  obtain ⟨d, _, j, hs, rfl, e⟩ := w.of hv
  have ty : tyI (.ref j) h2 = some (.ins "Work") := by simp [tyI, q _ _ e]
  simp! [Jf1, ty, Jyx]
  exact .refl _
 ·rintro _ _ ⟨rfl, g, rfl⟩
  have x1 : Ex h (h ++ L3.IO.lst (vs.map fun _ => .bl true) :: g) := .cons _ _ _
  rw [all_map (f := fun _ => true) J2]
  generalize h ++ L3.IO.lst (vs.map fun _ => .bl true) :: g = h1 at x1
  have at1 : (vs.all fun _ => true) = true := by simp
  simp! [at1, Ji8, Ju4]
  have w1 := w.kp x1.kp
  have nm := w1.mapF (F := fOf "name" h1) (g := fun d => .str d.name) fun j d hs e => by rw [fOf, Jh e, fl0]; rfl
  refine WR.mono (Jak (h := h1) (xs := vs) (chk := fun h' => h'[i]? = some (.lst vs)) (f := fOf "name" h1) ?_ (by omega) (fun h2 q => q _ _ (x1.get hi)) ?_) ?_
  ·simp! [Jb1, x1.get hi]
  ·intro v hv h2 q
   obtain ⟨d, _, j, hs, rfl, e⟩ := w1.of hv
   simp! [Jgm, Jh (q _ _ e), fl0, fOf, Jh e, Option.getD_some]
   exact .refl _
  ·rintro _ _ ⟨rfl, g2, rfl⟩
   rw [nm]
   have em : ds.map (fun d => IV.str d.name) = (ds.map (·.name)).map IV.str := by simp
   rw [em]
   have x2 : Ex h1 (h1 ++ L3.IO.lst ((ds.map (·.name)).map IV.str) :: g2) := .cons _ _ _
   refine ⟨_, rfl, _, J2, ds.map (·.name), Jsj _, by rw [List.length_map]; unfold scanBound; omega, ?_⟩
   rw [Jo1 nd _ (Nat.le_refl _)]
   simp! [Jrw, x2.get (x1.get hi), List.length_map, wl, decide_true, Jig, Jvt]
   exact x1.trans x2
noncomputable def rup (top bottom : Int) : Int := (top + bottom - 1) / bottom
noncomputable def topD (ds : List WD) : Int := if ds.map (·.due) = [] then 0 else Je9 (fun i => (ds.map (·.due)).getD i 0) (ds.map (·.due)).length
noncomputable def Jsx (ds : List WD) : Int := (ds.map fun d => rup (topD ds + d.late) d.gap).sum
noncomputable def rOf (T : Int) (h : IH) (v : IV) : IV := match Jhc "late" v h, Jhc "gap" v h with
 | some (.int l), some (.int g) => .int (rup (T + l) g)
 | _, _ => .non
theorem Jqr {a b : Int} (hb : 0 < b) (hl : b.natAbs.log2 < 9000) : Jc2 (k + 1) [.int a, .int b] h = .ok (.int (rup a b)) h := by
 refine Jdw ?_
 rw [Jqb]
 simp! [Jd9, hb, hl, rup]
theorem Jyc {vs : List IV} {ds : List WD} (w : AllW h vs ds) (hl : ds.length <= 20) (hg : ∀ d ∈ ds, 0 < d.gap /\ d.gap.natAbs.log2 < 9000) :
  WR (Jgu (k + 2) [.tup vs] h) fun v h' => v = .int (Jsx ds) /\ Ex h h' := by
 have hb := Jd
 have wl := w.len
 rw [Jr3]
 simp! [Jgt, J0v]
 have dm := w.mapF (F := fOf "due" h) (g := fun d => .int d.due) fun j d hs e => by rw [fOf, Jh e, fl3]; rfl
 refine WR.mono (Jak (h := h) (xs := vs) (chk := fun _ => True) (f := fOf "due" h) ?_ (by omega) (fun _ _ => trivial) ?_) ?_
 ·simp! [true_and]
 ·intro v hv h2 q
  obtain ⟨d, _, j, hs, rfl, e⟩ := w.of hv
  simp! [Jg7, Jh (q _ _ e), fl3, fOf, Jh e, Option.getD_some]
  exact .refl _
 ·rintro _ _ ⟨rfl, g, rfl⟩
  rw [dm]
  have em : ds.map (fun d => IV.int d.due) = (ds.map (·.due)).map IV.int := by simp
  rw [em]
  have x1 : Ex h (h ++ L3.IO.lst ((ds.map (·.due)).map IV.int) :: g) := .cons _ _ _
  refine ⟨_, rfl, _, J2, _, Jdf _, ?_⟩
  have et : maxD (ds.map (·.due)) (.int 0) = .int (topD ds) := by
   unfold maxD topD
   split <;> rfl
  rw [et]
  generalize h ++ L3.IO.lst ((ds.map (·.due)).map IV.int) :: g = h1 at x1
  have w1 := w.kp x1.kp
  simp! [Jjv]
  have rm := w1.mapF (F := rOf (topD ds) h1) (g := fun d => .int (rup (topD ds + d.late) d.gap)) fun j d hs e => by rw [rOf, Jh e, Jh e, fl4, fl1]
  refine WR.mono (Jak (h := h1) (xs := vs) (chk := fun _ => True) (f := rOf (topD ds) h1) ?_ (by omega) (fun _ _ => trivial) ?_) ?_
  ·simp! [true_and]
  ·intro v hv h2 q
   obtain ⟨d, hd, j, hs, rfl, e⟩ := w1.of hv
   have e2 := q _ _ e
   simp only [List.map_cons, List.map_nil, List.getElem?_cons_succ, List.getElem?_cons_zero, Option.join_some]
   simp! [Jg6, Jh e2, fl4, fl1, Jqr (hg d hd).1 (hg d hd).2]
   exact ⟨by rw [rOf, Jh e, Jh e, fl4, fl1], .refl _⟩
  ·rintro _ _ ⟨rfl, g2, rfl⟩
   rw [rm]
   have em2 : ds.map (fun d => IV.int (rup (topD ds + d.late) d.gap)) = (ds.map fun d => rup (topD ds + d.late) d.gap).map IV.int := by simp
   rw [em2]
   simp! [Jn9, J2, Jdf]
   exact ⟨rfl, x1.trans (.cons _ _ _)⟩
noncomputable abbrev dfs (vs : List IV) : List (Str × IV) := [("works", .tup vs)]
theorem dp0 {a : IV} : putI "works" a ([] : List (Str × IV)) = ([("works", a)] : List (Str × IV)) := by kernel_rfl
theorem dl0 {a : IV} : (([("works", a)] : List (Str × IV))).lookup ("works" : Str) = some a := by kernel_rfl
theorem dlw {a : IV} : (([("works", a)] : List (Str × IV))).lookup ("work" : Str) = none := by kernel_rfl
theorem Jww {vs : List IV} {ds : List WD} {i : Nat} (hi : h[i]? = some (.lst vs)) (w : AllW h vs ds) (nd : (ds.map (·.name)).Nodup) (hl : ds.length <= 12) (hg : ∀ d ∈ ds, 0 < d.gap /\ d.gap.natAbs.log2 < 9000) (hc : Jsx ds <= 80) :
  WR (Jbg (k + 3) [.ref h.length, .ref i] (h ++ [.ins "Duty" []])) fun v h' => v = .non /\ ∃ g, h' = h ++ .ins "Duty" (dfs vs) :: g := by
 have wl := w.len
 rw [Jqp]
 simp! [Jej, Jre]
 refine WR.mono (Jo0 (grow hi) (w.kp (Ex.one h _).kp) nd (by omega)) ?_
 rintro _ _ ⟨rfl, g1, rfl⟩
 refine ⟨_, _, _, rfl, grow Jaw, by decide, ?_⟩
 rw [dp0, List.append_assoc, List.cons_append, List.nil_append, Jkw]
 simp! [Jhw, Jh (J2 (h := h)), dl0, wl]
 refine ⟨fun q => ?_, fun _ => ?_⟩
 ·rw [decide_eq_true_eq] at q
  omega
 simp! [Jic, Jh (J2 (h := h)), dl0]
 refine WR.mono (Jyc (w.kp (Ex.cons h _ _).kp) (by omega) hg) ?_
 rintro _ _ ⟨rfl, g2, rfl⟩
 simp! [true_and]
 refine ⟨fun q => ?_, fun _ => ⟨g1 ++ g2, by simp⟩⟩
 rw [decide_eq_true_eq] at q
 omega
theorem Jiq {vs : List IV} {D : Nat} {n : Int} {x : IV} (hD : h[D]? = some (.ins "Duty" (dfs vs))) (hx : atI vs n = some x) : Jem (k + 1) [.ref D, .int n] h = .ok x h := by
 refine Jdw ?_
 rw [Jow]
 simp! [Jer, Jh hD, dl0, hx]
end
end LW
namespace LW
open PySem L2 L3 L4
theorem J3y {a b m : Int} (hb : 0 < b) (h : a <= m * b) : rup a b <= m := by
 unfold rup
 have : (a + b - 1) / b < m + 1 := by
  rw [Int.ediv_lt_iff_lt_mul hb, Int.add_mul]
  omega
 omega
theorem J0g (m : Int) : ∀ l : List Int, (∀ x ∈ l, x <= m) -> l.sum <= l.length * m
 | [], _ => by simp
 | x :: l, q => by
  have := J0g m l fun y hy => q y (List.mem_cons_of_mem _ hy)
  have := q x (List.mem_cons_self ..)
  rw [List.sum_cons, List.length_cons, Int.natCast_add, Int.add_mul]
  simp
  omega
theorem Jnh {a b K : Nat} (h : a <= b) (hb : b.log2 < K) : a.log2 < K := by
 by_cases ha : a = 0
 ·subst ha
  exact Nat.lt_of_le_of_lt (Nat.zero_le _) hb
 ·have hb0 : b ≠ 0 := by omega
  rw [Nat.log2_lt ha]
  exact Nat.lt_of_le_of_lt h ((Nat.log2_lt hb0).mp hb)
noncomputable abbrev RH := WD × List Hd
noncomputable def rd : RH := ⟨⟨⟨#[]⟩, 0, 0, 0, 0⟩, []⟩
noncomputable abbrev wo (r : RH) : IO := .ins "Work" (wfs r.1.name r.1.gap r.1.len r.1.due r.1.late (r.2.map tupH))
structure AllH (h : IH) (vs : List IV) (rs : List RH) : Prop where
 len : vs.length = rs.length
 at_ : ∀ (i : Nat) v r, vs[i]? = some v -> rs[i]? = some r -> ∃ j, v = .ref j /\ h[j]? = some (wo r)
theorem AllH.kp {h h' : IH} {vs : List IV} {rs : List RH} (k : Kp h h') (w : AllH h vs rs) : AllH h' vs rs := ⟨w.len, fun i v r a b => let ⟨j, e, g⟩ := w.at_ i v r a b; ⟨j, e, k _ _ g⟩⟩
theorem AllH.w {h : IH} {vs : List IV} {rs : List RH} (w : AllH h vs rs) : AllW h vs (rs.map (·.1)) := by
 refine ⟨by rw [List.length_map]; exact w.len, fun i v d a b => ?_⟩
 rw [List.getElem?_map] at b
 cases er : rs[i]? with
 | none => rw [er] at b; cases b
 | some r =>
  rw [er] at b
  cases b
  obtain ⟨j, e, g⟩ := w.at_ i v r a er
  exact ⟨j, _, e, g⟩
theorem AllH.get {h : IH} {vs : List IV} {rs : List RH} (w : AllH h vs rs) {n : Nat} {r : RH} (e : rs[n]? = some r) : ∃ j, vs[n]? = some (.ref j) /\ h[j]? = some (wo r) := by
 have hn : n < vs.length := by rw [w.len]; exact (List.getElem?_eq_some_iff.mp e).1
 obtain ⟨j, e1, g⟩ := w.at_ n _ r (List.getElem?_eq_getElem hn) e
 exact ⟨j, by rw [List.getElem?_eq_getElem hn, e1], g⟩
structure F8 (unit : Int) (r : RH) : Prop where
 nm : IsNm r.1.name
 g1 : unit <= r.1.gap
 g2 : r.1.gap < 9 * unit
 l1 : 1 <= r.1.len
 d1 : 1 <= r.1.due
 d2 : r.1.due <= r.1.gap
 t1 : 0 <= r.1.late
 t2 : r.1.late < 2 * r.1.gap
 ok : HsOk r.1.len r.2
structure Gd (unit : Int) (rs : List RH) : Prop where
 u1 : 1 <= unit
 u2 : unit <= 10 ^ 40
 few : rs.length <= 7
 f : ∀ r ∈ rs, F8 unit r
 nd : (rs.map fun r => r.1.name).Nodup
theorem J4o {unit : Int} {rs : List RH} (G : Gd unit rs) : Jsx (rs.map (·.1)) <= 80 := by
 have hu := G.u1
 have hf := G.f
 have hl := G.few
 have ht : topD (rs.map (·.1)) <= 9 * unit := by
  unfold topD
  split
  ·omega
  ·rename_i hne
   refine Jz6 _ _ _ (by rw [List.length_map, List.length_map]; cases rs with | nil => exact absurd rfl hne | cons _ _ => simp) fun j hj => ?_
   rw [List.length_map, List.length_map] at hj
   have e : ((rs.map (·.1)).map (·.due)).getD j 0 = (rs[j]).1.due := by
    rw [List.getD_eq_getElem?_getD, List.getElem?_map, List.getElem?_map, List.getElem?_eq_getElem hj]; rfl
   have f := hf _ (List.getElem_mem hj)
   have f1 := f.d2
   have f2 := f.g2
   show ((rs.map (·.1)).map (·.due)).getD j 0 <= _
   rw [e]
   omega
 have := J0g 11 ((rs.map (·.1)).map fun d => rup (topD (rs.map (·.1)) + d.late) d.gap) fun x hx => by
  obtain ⟨d, hd, rfl⟩ := List.mem_map.mp hx
  obtain ⟨r, hr, rfl⟩ := List.mem_map.mp hd
  have f := hf r hr
  have f1 := f.g1
  have f2 := f.t2
  exact J3y (by omega) (by omega)
 rw [List.length_map, List.length_map] at this
 unfold Jsx
 omega
theorem Gd.gl {unit : Int} {rs : List RH} (G : Gd unit rs) : ∀ d ∈ rs.map (·.1), 0 < d.gap /\ d.gap.natAbs.log2 < 9000 := fun d hd => by
 obtain ⟨r, hr, rfl⟩ := List.mem_map.mp hd
 have f := G.f r hr
 have f1 := f.g1
 have f2 := f.g2
 have u1 := G.u1
 have u2 := G.u2
 refine ⟨by omega, Jnh (b := 9 * 10 ^ 40) ?_ (by decide +kernel)⟩
 have e : ((10 ^ 40 : Nat) : Int) = 10 ^ 40 := by decide +kernel
 clear G f
 generalize (10 ^ 40 : Int) = y at *
 generalize (10 ^ 40 : Nat) = z at *
 omega
noncomputable def IsDu (h : IH) (D : Nat) (rs : List RH) : Prop := ∃ vs, h[D]? = some (.ins "Duty" (dfs vs)) /\ AllH h vs rs
theorem IsDu.kp {h h' : IH} {D : Nat} {rs : List RH} (k : Kp h h') (w : IsDu h D rs) : IsDu h' D rs := let ⟨vs, a, b⟩ := w; ⟨vs, k _ _ a, b.kp k⟩
section
variable {k : Nat} {h : IH}
theorem J1o {vs : List IV} {rs : List RH} {unit : Int} {i : Nat} (hi : h[i]? = some (.lst vs)) (w : AllH h vs rs) (G : Gd unit rs) :
  WR (Jbg (k + 3) [.ref h.length, .ref i] (h ++ [.ins "Duty" []])) fun v h' => v = .non /\ Ex h h' /\ IsDu h' h.length rs := by
 have hl := G.few
 refine WR.mono (Jww hi w.w (by have := G.nd; rwa [List.map_map]) (by rw [List.length_map]; omega) G.gl (J4o G)) ?_
 rintro _ _ ⟨rfl, g, rfl⟩
 exact ⟨rfl, .cons _ _ _, vs, J2, w.kp (Ex.cons _ _ _).kp⟩
end
end LW
namespace LW
open PySem L2 L3 L4
section
variable {k : Nat} {h h1 : IH} {σ : ISt}
theorem J06 {Q : IV -> IH -> Prop} : WR (Jyo σ h) Q = Q (.ref h.length) (h ++ [.dct []]) := rfl
theorem Jwq {P : Pg} {m : Str} {n i : Nat} {o : E1} {a : A1} {kvs : List (Key × IV)} {Q : IV -> IH -> Prop} {g : IV -> List IV -> IH -> Res IV} (e : o σ h = .ok (.ref i) h1) (hl : h1[i]? = some (.dct kvs)) (hg : bmOf "dict" m n = some g) : WR (eDot P m n o a σ h) Q = WR (a σ h1) fun vs h2 => WR (g (.ref i) vs h2) Q := by
 unfold eDot
 rw [e]
 have hi : Jrh (.ref i) h1 = false := by simp [Jrh, hl]
 have ht : tyS (.ref i) h1 = "dict" := by simp [tyS, hl]
 dsimp only
 rw [hi, ht, hg]
 dsimp only
 rw [if_neg Bool.false_ne_true]
 unfold eBm
 rw [e, Je, Jb0]
 have : tyOk "dict" (.ref i) h1 = true := by simp [tyOk, hl]
 rw [if_pos this, Je]
theorem J3e : bmOf "dict" "get" 1 = some getI := by kernel_rfl
theorem Jva : bmOf "dict" "setdefault" 2 = some Jfz := by kernel_rfl
theorem J5a {i : Nat} {kvs : List (Key × IV)} {x : Str} {Q : IV -> IH -> Prop} (hi : h[i]? = some (.dct kvs)) : WR (getI (.ref i) [.str x] h) Q = Q ((valI kvs (.inr x)).getD .non) h := by
 unfold getI
 simp only [hi, keyI]
 rfl
theorem Jyt {i : Nat} {kvs : List (Key × IV)} {x : Str} {v w : IV} {Q : IV -> IH -> Prop} (hi : h[i]? = some (.dct kvs)) (e : valI kvs (.inr x) = some w) : WR (Jfz (.ref i) [.str x, v] h) Q = Q w h := by
 unfold Jfz
 simp only [hi, keyI, e]
 rfl
theorem Jx7 {i : Nat} {kvs : List (Key × IV)} {x : Str} {v : IV} {Q : IV -> IH -> Prop} (hi : h[i]? = some (.dct kvs)) (e : valI kvs (.inr x) = none) (hl : kvs.length < sizeLine) : WR (Jfz (.ref i) [.str x, v] h) Q = Q v (h.set i (.dct (kvs ++ [(.inr x, v)]))) := by
 unfold Jfz
 simp only [hi, keyI, e, hl, if_true]
 rfl
end
theorem Jv4 (kvs : List (Key × IV)) (k k' : Key) (v : IV) : valI (kvs ++ [(k, v)]) k' = match valI kvs k' with
  | some w => some w
  | none => if k = k' then some v else none := by
 induction kvs with
 | nil =>
  by_cases e : k = k'
  ·rw [List.nil_append, Jkr e, if_pos e]; rfl
  ·rw [List.nil_append, Jkl e, if_neg e]; rfl
 | cons p r ih =>
  by_cases e : p.1 = k'
  ·rw [List.cons_append, Jkr e, Jkr e]
  ·rw [List.cons_append, Jkl e, Jkl e, ih]
noncomputable def has (x : Str) (hs : List Hd) : Bool := hs.any fun a => decide (a.1 = x)
noncomputable def fstK (hss : List (List Hd)) (x : Str) : Option Nat := hss.findIdx? (has x)
noncomputable def fV (o : Option Nat) : IV := match o with
 | some i => .int (i : Int)
 | none => .non
theorem Jxk (hss : List (List Hd)) (hs : List Hd) (x : Str) : fstK (hss ++ [hs]) x = match fstK hss x with
  | some i => some i
  | none => if has x hs = true then some hss.length else none := by
 unfold fstK
 rw [List.findIdx?_append]
 cases hss.findIdx? (has x) with
 | some i => rfl
 | none =>
  by_cases e : has x hs = true
  ·simp [List.findIdx?_cons, e]
  ·simp [List.findIdx?_cons, e]
theorem Jsv (x : Str) (hs : List Hd) (a : Hd) : has x (hs ++ [a]) = (has x hs || decide (a.1 = x)) := by simp [has]
section
variable {k : Nat} {h : IH}
theorem dls {a : IV} : (([("works", a)] : List (Str × IV))).lookup ("size" : Str) = none := by kernel_rfl
theorem Jhr {vs : List IV} {D : Nat} (hD : h[D]? = some (.ins "Duty" (dfs vs))) : Jei (k + 1) [.ref D] h = .ok (.int vs.length) h := by
 refine Jdw ?_
 rw [Jo8]
 simp! [Jeq, Jh hD, dl0]
noncomputable def Told (kvs : List (Key × IV)) (hss : List (List Hd)) (n : Nat) (hs : List Hd) : Prop := ∀ x, valI kvs (.inr x) = match fstK hss x with
 | some i => some (.int (i : Int))
 | none => if has x hs = true then some (.int (n : Int)) else none
theorem Told.next {kvs : List (Key × IV)} {hss : List (List Hd)} {hs : List Hd} {n : Nat} (t : Told kvs hss n hs) (hn : hss.length = n) : Told kvs (hss ++ [hs]) (n + 1) [] := fun x => by
 subst hn
 rw [t x, Jxk]
 cases fstK hss x with
 | some i => rfl
 | none =>
  by_cases e : has x hs = true
  ·simp only [e, if_true]
  ·simp only [e]; rfl
theorem Told.old {kvs : List (Key × IV)} {hss : List (List Hd)} {n : Nat} {hs : List Hd} {a : Hd} {w : IV} (t : Told kvs hss n hs) (e : valI kvs (.inr a.1) = some w) : Told kvs hss n (hs ++ [a]) := fun x => by
 rw [t x]
 cases ef : fstK hss x with
 | some i => rfl
 | none =>
  dsimp only
  rw [Jsv]
  by_cases ea : a.1 = x
  ·have := t x
   rw [<- ea, e, ea, ef] at this
   dsimp only at this
   by_cases q : has x hs = true
   ·simp [q]
   ·rw [if_neg q] at this
    cases this
  ·simp [ea]
theorem Told.new {kvs : List (Key × IV)} {hss : List (List Hd)} {n : Nat} {hs : List Hd} {a : Hd} (t : Told kvs hss n hs) (e : valI kvs (.inr a.1) = none) : Told (kvs ++ [(.inr a.1, .int (n : Int))]) hss n (hs ++ [a]) := fun x => by
 rw [Jv4, t x]
 cases ef : fstK hss x with
 | some i => rfl
 | none =>
  dsimp only
  rw [Jsv]
  by_cases q : has x hs = true
  ·simp [q]
  ·by_cases ea : a.1 = x
   ·simp [q, ea]
   ·have : ¬ ((.inr a.1 : Key) = .inr x) := fun z => ea (Sum.inr.inj z)
    simp [q, ea]
theorem Jlx {vs : List IV} {rs : List RH} {D : Nat} (hD : h[D]? = some (.ins "Duty" (dfs vs))) (w : AllH h vs rs) (hl : rs.length <= 12) (h6 : ∀ r ∈ rs, r.2.length <= 6) :
  WR (Jci (k + 2) [.ref D] h) fun v h' => ∃ i kvs, v = .ref i /\ h'[i]? = some (.dct kvs) /\ (∀ x, (valI kvs (.inr x)).getD .non = fV (fstK (rs.map (·.2)) x)) /\ Ex h h' := by
 have hb := Jd
 have wl := w.len
 rw [Jq3]
 simp! [Jf8, Jj3, J06]
 rw [Jbt (i := D) (h1 := h ++ [.dct []]) rfl (grow hD) dls (Jdi _)]
 simp! [Jhr (grow hD)]
 refine ⟨by omega, ?_⟩
 refine Jdn (fun n σ h' => ∃ kvs g a b, h' = h ++ L3.IO.dct kvs :: g /\ σ = [some (.ref D), some (.ref h.length), a, b] /\ kvs.length <= 6 * n /\ Told kvs ((rs.map (·.2)).take n) n []) (fun _ _ _ _ => trivial) ?_ ?_ ⟨[], [], none, none, rfl, rfl, by simp, fun x => by simp [valI, fstK, has]⟩
 ·rintro n hn _ _ ⟨kvs, g, a, b, rfl, rfl, ln, td⟩
  rw [Jg1]
  rw [Jas] at hn
  have hn' : n < rs.length := by omega
  have en : (0 : Int) + (n : Int) = n := by omega
  obtain ⟨j, ej, gj⟩ := w.at_ n _ _ (List.getElem?_eq_getElem (by omega)) (List.getElem?_eq_getElem hn')
  have av : atI vs (n : Int) = some (.ref j) := Jc0 (by rw [List.getElem?_eq_getElem (by omega), ej])
  have hl6 := h6 _ (List.getElem_mem hn')
  have hm : n < (rs.map (·.2)).length := by rw [List.length_map]; exact hn'
  have tk : (rs.map (·.2)).take (n + 1) = (rs.map (·.2)).take n ++ [(rs[n]).2] := by rw [List.take_succ_eq_append_getElem hm, List.getElem_map]
  rw [tk]
  generalize rs[n] = r at gj hl6
  simp! [en, Ji6]
  have x1 : Ex h (h ++ L3.IO.dct kvs :: g) := .cons _ _ _
  have ed : eDot (pg (k + 1)) "work" 1 (eVar 0) (Ja (eVar 2) aNil) [some (IV.ref D), some (IV.ref h.length), some (IV.int (n : Int)), b] (h ++ L3.IO.dct kvs :: g) = .ok (.ref j) (h ++ L3.IO.dct kvs :: g) := by
   refine Jdw ?_
   rw [Jbt (i := D) (h1 := h ++ L3.IO.dct kvs :: g) rfl (x1.get hD) dlw (Jdg _)]
   simp! [Jiq (x1.get hD) av]
  rw [Jbt (i := j) (h1 := h ++ L3.IO.dct kvs :: g) ed (x1.get gj) flh (Jfw _)]
  simp! [Jk0 (x1.get gj), Jb1, Jaw]
  generalize r.2 = hs at hl6
  refine Jdn (fun m σ h' => ∃ kvs' b', h' = h ++ L3.IO.dct kvs' :: (g ++ [L3.IO.lst (hs.map tupH)]) /\ σ = [some (.ref D), some (.ref h.length), some (.int (n : Int)), b'] /\ kvs'.length <= 6 * n + m /\ Told kvs' ((rs.map (·.2)).take n) n (hs.take m)) ?_ ?_ ?_ ⟨kvs, b, by rw [List.append_assoc, List.cons_append], rfl, by omega, td⟩
  ·rintro _ _ _ ⟨kvs', b', rfl, _⟩
   rw [show h ++ L3.IO.dct kvs' :: (g ++ [L3.IO.lst (hs.map tupH)]) = (h ++ L3.IO.dct kvs' :: g) ++ [L3.IO.lst (hs.map tupH)] by rw [List.append_assoc, List.cons_append],
    show (h ++ L3.IO.dct kvs :: g).length = (h ++ L3.IO.dct kvs' :: g).length by simp]
   exact Jaw
  ·rintro m hm _ _ ⟨kvs', b', rfl, rfl, lm, tm⟩
   have hm' : m < hs.length := by simpa using hm
   rw [List.getElem_map, List.take_succ_eq_append_getElem hm']
   generalize hs[m] = a at *
   simp! [Jhs]
   rw [Jwq (i := h.length) (h1 := h ++ L3.IO.dct kvs' :: (g ++ [L3.IO.lst (hs.map tupH)])) rfl J2 Jva]
   simp! [tupH]
   cases ev : valI kvs' (.inr a.1) with
   | some w' =>
    rw [Jyt J2 ev]
    exact ⟨kvs', _, rfl, rfl, by omega, tm.old ev⟩
   | none =>
    rw [Jx7 J2 ev (by omega), Jkw]
    exact ⟨_, _, rfl, rfl, by rw [List.length_append, List.length_singleton]; omega, tm.new ev⟩
  ·rintro _ _ ⟨kvs', b', rfl, rfl, lm, tm⟩
   rw [List.length_map] at lm tm
   rw [List.take_of_length_le (Nat.le_refl _)] at tm
   have ltn : ((rs.map (·.2)).take n).length = n := by rw [List.length_take]; omega
   exact ⟨kvs', _, _, _, rfl, rfl, by omega, tm.next ltn⟩
 ·rintro _ _ ⟨kvs, g, a, b, rfl, rfl, ln, td⟩
  simp! [Jj4]
  refine ⟨_, kvs, rfl, J2, fun x => ?_, .cons _ _ _⟩
  have := td x
  rw [Jas, List.take_of_length_le (by rw [List.length_map]; omega)] at this
  rw [this]
  cases fstK (rs.map (·.2)) x with
  | some i => rfl
  | none => simp [has, fV]
theorem Jti {vs : List IV} {rs : List RH} {D : Nat} {x : Str} (hD : h[D]? = some (.ins "Duty" (dfs vs))) (w : AllH h vs rs) (hl : rs.length <= 12) (h6 : ∀ r ∈ rs, r.2.length <= 6) :
  WR (Jh9 (k + 3) [.ref D, .str x] h) fun v h' => v = fV (fstK (rs.map (·.2)) x) /\ Ex h h' := by
 rw [Juo]
 simp! [Jhd]
 obtain ⟨v, h1, e, i, kvs, rfl, gi, q, x1⟩ := (Jlx (k := k) hD w hl h6).eq
 have ec : Jm (Jci (k + 2)) [] (Ja (eVar 0) aNil) [some (IV.ref D), some (IV.str x)] h = .ok (.ref i) h1 := by
  refine Jdw ?_
  simp! [e]
 rw [Jwq ec gi J3e]
 simp! [J5a gi, q]
 exact x1
end
end LW
namespace LW
open PySem L2 L3 L4
noncomputable abbrev ni (l : List Nat) : List IV := (l.map fun n : Nat => (n : Int)).map IV.int
noncomputable def pk (rs : List RH) (os : List Nat) : List RH := os.map fun n => rs.getD n rd
theorem Jzn (rs : List RH) : pk rs (List.range rs.length) = rs := by
 refine List.ext_getElem? fun i => ?_
 by_cases hi : i < rs.length
 ·simp [pk, hi, List.getD_eq_getElem?_getD]
 ·simp [pk, hi]
theorem Jns {rs : List RH} {os : List Nat} (p : os.Perm (List.range rs.length)) : (pk rs os).Perm rs := by
 have := p.map fun n => rs.getD n rd
 rw [show (List.range rs.length).map (fun n => rs.getD n rd) = rs from Jzn rs] at this
 exact this
theorem Gd.perm {unit : Int} {rs rs' : List RH} (G : Gd unit rs) (p : rs'.Perm rs) : Gd unit rs' :=
 ⟨G.u1, G.u2, by rw [p.length_eq]; exact G.few, fun r hr => G.f r (p.mem_iff.mp hr), (p.map _).nodup_iff.mpr G.nd⟩
noncomputable def lg (r : RH) (m : Int) : RH := ⟨{ r.1 with len := r.1.len + m }, r.2⟩
theorem HsOk.longer {len m : Int} {hs : List Hd} (hm : 0 <= m) (o : HsOk len hs) : HsOk (len + m) hs :=
 ⟨o.few, fun a ha => let ⟨x, y, z, w⟩ := o.each a ha; ⟨x, y, z, by omega⟩, o.tog⟩
theorem F8.longer {unit m : Int} {r : RH} (hm : 0 <= m) (f : F8 unit r) : F8 unit (lg r m) :=
 ⟨f.nm, f.g1, f.g2, by have := f.l1; show 1 <= r.1.len + m; omega, f.d1, f.d2, f.t1, f.t2, f.ok.longer hm⟩
theorem Jx0 {rs : List RH} {n : Nat} {r : RH} {m : Int} (e : rs[n]? = some r) : (rs.set n (lg r m)).map (fun r => r.1.name) = rs.map fun r => r.1.name := by
 rw [List.map_set]
 refine List.ext_getElem? fun i => ?_
 by_cases hi : i = n
 ·subst hi
  have := (List.getElem?_eq_some_iff.mp e).1
  rw [List.getElem?_set_self (by rw [List.length_map]; exact this), List.getElem?_map, e]
  rfl
 ·rw [List.getElem?_set_ne (Ne.symm hi)]
theorem Gd.longer {unit m : Int} {rs : List RH} {n : Nat} {r : RH} (G : Gd unit rs) (hm : 0 <= m) (e : rs[n]? = some r) : Gd unit (rs.set n (lg r m)) := by
 refine ⟨G.u1, G.u2, by rw [List.length_set]; exact G.few, fun x hx => ?_, by rw [Jx0 e]; exact G.nd⟩
 rcases List.mem_or_eq_of_mem_set hx with q | rfl
 ·exact G.f x q
 ·exact (G.f r (List.mem_of_getElem? e)).longer hm
section
variable {k : Nat} {h : IH}
theorem J3g {i n : Nat} {ls : List Int} (e : h[i]? = some (.lst (ls.map .int))) : toD h (n + 1) (.ref i) = some (.list (ls.map PyData.int)) := by
 rw [Jxt e]
 have : ∀ ls : List Int, (ls.map IV.int).mapM (toD h n) = some (ls.map PyData.int) := by
  intro ls
  induction ls with
  | nil => rfl
  | cons a r ih =>
   have e : toD h n (.int a) = some (.int a) := by cases n <;> rfl
   rw [List.map_cons, List.mapM_cons, e, ih]
   rfl
 rw [this]
 rfl
theorem Jwu : ∀ as : List Int, PyData.canLayAll0 (as.map PyData.int) = true
 | [] => rfl
 | _ :: r => by
  rw [List.map_cons, PyData.canLayAll0, Jwu r]
  simp [PyData.canLay0]
theorem J5e {i j : Nat} {ls : List Int} (hi : h[i]? = some (.lst (ls.map .int))) (hj : h[j]? = some (.lst (ls.map .int))) : cNe (.ref i) (.ref j) h = .ok (.bl false) h :=
 Jz8 (J3g hi) (J3g hj) (by rw [PyData.canLay0]; exact Jwu ls)
theorem Jw6 {os : List Nat} {n : Nat} (p : os.Perm (List.range n)) : Jt3 (os.map fun n : Nat => (n : Int)) = (List.range n).map fun n : Nat => (n : Int) := by
 refine (Jsg ((p.map _).symm) ?_).symm
 rw [List.pairwise_map]
 exact List.pairwise_le_range.imp fun h => by omega
theorem J0b (m : Nat) : rngI 0 (m : Int) = ni (List.range m) := by rw [Jxm]; simp
theorem Jom {D O : Nat} {rs : List RH} {os : List Nat} {unit : Int} (hD : IsDu h D rs) (G : Gd unit rs) (hO : h[O]? = some (.lst (ni os))) (p : os.Perm (List.range rs.length)) :
  WR (Jbc (k + 4) [.ref D, .ref O] h) fun v h' => ∃ D', v = .ref D' /\ Ex h h' /\ IsDu h' D' (pk rs os) := by
 have hb := Jd
 obtain ⟨vs, gD, w⟩ := hD
 have wl := w.len
 have few := G.few
 have lo : os.length = rs.length := by rw [p.length_eq, List.length_range]
 have ln : (ni os).length = os.length := by simp
 rw [Jjf]
 simp! [Jbj, Jw4 hO]
 refine WR.mono (Jak (h := h) (xs := ni os) (chk := fun h' => h'[O]? = some (.lst (ni os))) (f := fun _ => .bl true) ?_ (by omega) (fun h2 q => q _ _ hO) ?_) ?_
 ·simp! [Jb1, hO]
 ·intro v hv h2 q
  obtain ⟨a, ha, rfl⟩ := List.mem_map.mp hv
  simp! [Jcd, Jjw]
  exact .refl _
 ·rintro _ _ ⟨rfl, g, rfl⟩
  have x1 : Ex h (h ++ L3.IO.lst ((ni os).map fun _ => .bl true) :: g) := .cons _ _ _
  rw [all_map (f := fun _ => true) J2]
  generalize h ++ L3.IO.lst ((ni os).map fun _ => .bl true) :: g = h1 at x1
  have at1 : ((ni os).all fun _ => true) = true := by simp
  have hO1 := x1.get hO
  have gD1 := x1.get gD
  simp! [at1, Jdc]
  have es : Jjk (.ref O) h1 = .ok (.ref h1.length) (h1 ++ [.lst (ni (List.range rs.length))]) := by
   dsimp only [Jjk]
   rw [hO1]
   dsimp only
   rw [if_pos (by omega), srtI, Jdf]
   dsimp only
   rw [Jw6 p]
  rw [es, Jb0]
  have x2 : Ex h1 (h1 ++ [L3.IO.lst (ni (List.range rs.length))]) := .one _ _
  simp only [J3u, Jbn, Jf6, Jcv, Jcc, Jj7, Jcb, Jc5, Jcr, Jfc, Jf4, Jcx, Je8, Jeu, Jdj, Je, Jb0, Juy, Jj9, Jk9, Jdx, Jlr, Jgh, Jld, Jl5, Jc7, Jgl, Jcm, Jb6, Jba, Jbe, Jai, Jd2, Jey, Jc6, Jck, Jky, Jge, Jfe, Jbk, Jbl, Jk8, Jgc, Jgg, Jgo, Jfo, Jgr, Jcq, Jgp, Jgi, Jcj, Jlc, Jlv, Jlw, Jl1, Jlj, Jkv, Jf5, Jfu, Jfv, Jcp, Jf0, Jfm, Jih, Jbw, Jgf, Jc4, Jcu, Jgq, Jgs, Jfa, Jgj, Jbo, List.set_cons_succ, List.set_cons_zero, List.append_nil, List.cons_append, List.nil_append]
  rw [Jbt (i := D) (h1 := h1 ++ [L3.IO.lst (ni (List.range rs.length))]) rfl (x2.get gD1) (by kernel_rfl) (Jdi _)]
  simp! [Jhr (x2.get gD1), wl, List.cons.injEq]
  refine ⟨by omega, ?_⟩
  rw [J0b]
  have x3 : Ex (h1 ++ [L3.IO.lst (ni (List.range rs.length))]) (h1 ++ [L3.IO.lst (ni (List.range rs.length))] ++ [L3.IO.lst (ni (List.range rs.length))]) := .one _ _
  rw [J5e (x3.get Jaw) Jaw]
  have x13 := (x1.trans x2).trans x3
  generalize h1 ++ [L3.IO.lst (ni (List.range rs.length))] ++ [L3.IO.lst (ni (List.range rs.length))] = h3 at x13
  clear x3 x2 x1 hO1 gD1 es
  have hO3 := x13.get hO
  have gD3 := x13.get gD
  simp! [Jdh]
  refine WR.mono (Jak (h := h3) (xs := ni os) (chk := fun h' => h'[O]? = some (.lst (ni os))) (f := fun v => match v with | .int n => vs.getD n.toNat .non | _ => .non) ?_ (by omega) (fun h2 q => q _ _ hO3) ?_) ?_
  ·simp! [Jb1, hO3]
  ·intro v hv h4 q
   obtain ⟨a, ha, rfl⟩ := List.mem_map.mp hv
   obtain ⟨n, hn, rfl⟩ := List.mem_map.mp ha
   have hn' : n < vs.length := by rw [wl]; exact List.mem_range.mp (p.mem_iff.mp hn)
   have ea : atI vs (n : Int) = some vs[n] := Jc0 (List.getElem?_eq_getElem hn')
   simp only [List.map_cons, List.map_nil, List.getElem?_cons_succ, List.getElem?_cons_zero, Option.join_some]
   simp! [Jcf, Jh (q _ _ gD3), dl0, ea]
   exact ⟨by simp [List.getD_eq_getElem?_getD, hn'], .refl _⟩
  ·rintro _ _ ⟨rfl, g4, rfl⟩
   generalize hvs : (ni os).map (fun v => match v with | .int n => vs.getD n.toNat IV.non | _ => IV.non) = vs'
   have x4 : Ex h3 (h3 ++ L3.IO.lst vs' :: g4) := .cons _ _ _
   have w4 : AllH (h3 ++ L3.IO.lst vs' :: g4) vs' (pk rs os) := by
    refine ⟨by rw [<- hvs]; simp [pk], fun i v r a b => ?_⟩
    have hi : i < os.length := by
     have := (List.getElem?_eq_some_iff.mp b).1
     simpa [pk] using this
    have ho : os[i] < rs.length := List.mem_range.mp (p.mem_iff.mp (List.getElem_mem hi))
    have ho' : os[i] < vs.length := by omega
    have er : r = rs[os[i]] := by
     simp only [pk, List.getElem?_map, List.getElem?_eq_getElem hi, Option.map_some, Option.some.injEq, List.getD_eq_getElem?_getD, List.getElem?_eq_getElem ho, Option.getD_some] at b
     exact b.symm
    have ev : v = vs[os[i]] := by
     rw [<- hvs] at a
     simp only [List.getElem?_map, List.getElem?_eq_getElem hi, Option.map_some, Option.some.injEq, Int.toNat_natCast, List.getD_eq_getElem?_getD, List.getElem?_eq_getElem ho', Option.getD_some] at a
     exact a.symm
    obtain ⟨j, e1, e2⟩ := w.at_ os[i] v r (by rw [ev, List.getElem?_eq_getElem ho']) (by rw [er, List.getElem?_eq_getElem ho])
    exact ⟨j, e1, x4.get (x13.get e2)⟩
   refine WR.mono (J1o (k := k) J2 w4 (G.perm (Jns p))) ?_
   rintro _ h5 ⟨rfl, x5, d5⟩
   exact ⟨rfl, (x13.trans x4).trans x5, d5⟩
theorem Jw3 {D n : Nat} {rs : List RH} {r : RH} {unit m : Int} (hD : IsDu h D rs) (G : Gd unit rs) (e : rs[n]? = some r) (hm : 0 <= m) :
  WR (Jcg (k + 6) [.ref D, .int n, .int m] h) fun v h' => ∃ D', v = .ref D' /\ Ex h h' /\ IsDu h' D' (rs.set n (lg r m)) := by
 have hb := Jd
 obtain ⟨vs, gD, w⟩ := hD
 have wl := w.len
 have few := G.few
 have f := G.f r (List.mem_of_getElem? e)
 have f' := f.longer hm
 have hn := (List.getElem?_eq_some_iff.mp e).1
 obtain ⟨j, ej, gj⟩ := w.get e
 have ea : atI vs (n : Int) = some (.ref j) := Jc0 ej
 rw [Jmr]
 have x1 : Ex h (h ++ [L3.IO.lst vs]) := .one _ _
 have gj1 := x1.get gj
 simp! [Jcy, Jfx, Jfh, Jh gD, Jh (x1.get gD), dl0, ea, Jh gj1, fl0, fl1, fl2, fl3, fl4]
 rw [Jbt (i := j) (h1 := h ++ [L3.IO.lst vs]) rfl gj1 flh (Jfw _)]
 simp! [Jk0 gj1]
 generalize hs' : r.2.map tupH = hs
 have x2 : Ex (h ++ [L3.IO.lst vs]) (h ++ [L3.IO.lst vs] ++ [L3.IO.lst hs]) := .one _ _
 have u1 := G.u1
 have f1 := f.g1
 refine WR.mono (Jvs (k := k) (h := h ++ [L3.IO.lst vs] ++ [L3.IO.lst hs]) (hs := hs) f.nm (by omega) f'.l1 f.t1 (fun h1 => Jm4 f.d1 f.d2) fun h1 z => hs' ▸ Jju (z _ _ (by rw [hs']; exact Jaw)) f'.ok) ?_
 rintro _ h3 ⟨rfl, g3, rfl⟩
 refine ⟨rfl, ?_⟩
 generalize hw : List.length (h ++ [L3.IO.lst vs] ++ [L3.IO.lst hs]) = W
 have gW : (h ++ [L3.IO.lst vs] ++ [L3.IO.lst hs] ++ L3.IO.ins "Work" (wfs r.1.name r.1.gap (lg r m).1.len r.1.due r.1.late hs) :: g3)[W]? = some (wo (lg r m)) := by rw [<- hw, <- hs']; exact J2
 have eix : ixN vs.length (n : Int) = some n := by
  simp [ixN]
  omega
 have gL : (h ++ [L3.IO.lst vs] ++ [L3.IO.lst hs] ++ L3.IO.ins "Work" (wfs r.1.name r.1.gap (lg r m).1.len r.1.due r.1.late hs) :: g3)[h.length]? = some (.lst vs) := grow (grow Jaw)
 simp only [J0l, Jv3, Jbn, Jf6, Jcv, Jcc, Jj7, Jcb, Jc5, Jcr, Jfc, Jf4, Jcx, Je8, Jeu, Jdj, Je, Jb0, Juy, Jj9, Jk9, Jdx, Jlr, Jgh, Jld, Jl5, Jc7, Jgl, Jcm, Jb6, Jba, Jbe, Jai, Jd2, Jey, Jc6, Jck, Jky, Jge, Jfe, Jbk, Jbl, Jk8, Jgc, Jgg, Jgo, Jfo, Jgr, Jcq, Jgp, Jgi, Jcj, Jlc, Jlv, Jlw, Jl1, Jlj, Jkv, Jf5, Jfu, Jfv, Jcp, Jf0, Jfm, Jih, Jbw, Jgf, Jc4, Jcu, Jgq, Jgs, Jfa, Jgj, Jbo, List.set_cons_succ, List.set_cons_zero, List.append_nil, List.cons_append, List.nil_append, exists_eq_left, exists_eq_left', IV.bl.injEq, IV.int.injEq, IV.ref.injEq, IV.str.injEq, IO.lst.injEq, IV.tup.injEq, Option.some.injEq, Bool.not_true, Bool.not_false, reduceCtorEq, eq_self, true_implies, false_implies, implies_true, and_true, true_and, and_false, false_and, Option.bind_some, Bool.true_eq_false, Bool.false_eq_true, Jew, Jb7, Jex, Jkd, Je5, Jez, Jco, Jbh, Jc3, Jay, Jcw, Jds, Je1, Jjp, Jje, Jkb, Jkk, Jj8, Jb9, Jb8, Jb5]
 refine ⟨vs, gL, n, eix, ?_⟩
 have es : List.set (h ++ [L3.IO.lst vs] ++ [L3.IO.lst hs] ++ L3.IO.ins "Work" (wfs r.1.name r.1.gap (lg r m).1.len r.1.due r.1.late hs) :: g3) h.length (.lst (vs.set n (.ref W))) = h ++ (L3.IO.lst (vs.set n (.ref W)) :: ([L3.IO.lst hs] ++ L3.IO.ins "Work" (wfs r.1.name r.1.gap (lg r m).1.len r.1.due r.1.late hs) :: g3)) := by
  rw [List.append_assoc, List.append_assoc, List.cons_append, Jkw]
  simp
 have ne : W ≠ h.length := by rw [<- hw]; simp
 have gW2 : (h ++ (L3.IO.lst (vs.set n (.ref W)) :: ([L3.IO.lst hs] ++ L3.IO.ins "Work" (wfs r.1.name r.1.gap (lg r m).1.len r.1.due r.1.late hs) :: g3)))[W]? = some (wo (lg r m)) := by
  rw [<- es, List.getElem?_set_ne (Ne.symm ne)]
  exact gW
 show WS (Jc1 _ _ (List.set (h ++ [L3.IO.lst vs] ++ [L3.IO.lst hs] ++ L3.IO.ins "Work" (wfs r.1.name r.1.gap (lg r m).1.len r.1.due r.1.late hs) :: g3) h.length (.lst (vs.set n (.ref W))))) _ _
 rw [es]
 generalize hg4 : [L3.IO.lst hs] ++ L3.IO.ins "Work" (wfs r.1.name r.1.gap (lg r m).1.len r.1.due r.1.late hs) :: g3 = g4 at gW2
 have x4 : Ex h (h ++ L3.IO.lst (vs.set n (.ref W)) :: g4) := .cons _ _ _
 simp! [Jc1]
 have w4 : AllH (h ++ L3.IO.lst (vs.set n (.ref W)) :: g4) (vs.set n (.ref W)) (rs.set n (lg r m)) := by
  refine ⟨by rw [List.length_set, List.length_set]; exact wl, fun i v x a b => ?_⟩
  by_cases hi : i = n
  ·subst hi
   rw [List.getElem?_set_self (by omega)] at a b
   cases a
   cases b
   exact ⟨W, rfl, gW2⟩
  ·rw [List.getElem?_set_ne (Ne.symm hi)] at a b
   obtain ⟨q, e1, e2⟩ := w.at_ i v x a b
   exact ⟨q, e1, x4.get e2⟩
 refine WR.mono (J1o (k := k + 2) J2 w4 (G.longer hm e)) ?_
 rintro _ h5 ⟨rfl, x5, d5⟩
 exact ⟨rfl, x4.trans x5, d5⟩
end
end LW
namespace LW
open PySem L2 L3 L4
noncomputable abbrev pl (r : RH) (q : Nat) : List IV := [.str r.1.name, .int r.1.gap, .int r.1.len, .int r.1.due, .int r.1.late, .ref q]
structure RowP (h : IH) (ys : List IV) (rs : List RH) : Prop where
 len : ys.length = rs.length
 at_ : ∀ (i : Nat) y r, ys[i]? = some y -> rs[i]? = some r -> ∃ p q, y = .ref p /\ h[p]? = some (.lst (pl r q)) /\ h[q]? = some (.lst (r.2.map tupH))
theorem RowP.kp {h h' : IH} {ys : List IV} {rs : List RH} (k : Kp h h') (w : RowP h ys rs) : RowP h' ys rs := ⟨w.len, fun i y r a b => let ⟨p, q, e, g1, g2⟩ := w.at_ i y r a b; ⟨p, q, e, k _ _ g1, k _ _ g2⟩⟩
theorem RowP.get {h : IH} {ys : List IV} {rs : List RH} (w : RowP h ys rs) {n : Nat} {r : RH} (e : rs[n]? = some r) : ∃ p q, ys[n]? = some (.ref p) /\ h[p]? = some (.lst (pl r q)) /\ h[q]? = some (.lst (r.2.map tupH)) := by
 have hn : n < ys.length := by rw [w.len]; exact (List.getElem?_eq_some_iff.mp e).1
 obtain ⟨p, q, e1, g⟩ := w.at_ n _ r (List.getElem?_eq_getElem hn) e
 exact ⟨p, q, by rw [List.getElem?_eq_getElem hn, e1], g⟩
section
variable {k : Nat} {h : IH}
theorem atI_5 {α : Type} {x y z u v w : α} {xs : List α} : atI (x :: y :: z :: u :: v :: w :: xs) 5 = some w := Jc0 (n := 5) rfl
theorem J14 {r r' : RH} {q q' : Nat} (e : pl r q = pl r' q') : r.1.name = r'.1.name := by
 simp only [pl, List.cons.injEq, IV.str.injEq] at e
 exact e.1
theorem Jsz {S n : Nat} {ys : List IV} {rs : List RH} {r : RH} {unit m : Int} (G : Gd unit rs) (hS : h[S]? = some (.lst ys)) (w : RowP h ys rs) (e : rs[n]? = some r) :
  WR (Jcn (k + 1) [.ref S, .int n, .int m] h) fun v h' => ∃ S' ys', v = .ref S' /\ Kp h h' /\ h'[S']? = some (.lst ys') /\ RowP h' ys' (rs.set n (lg r m)) := by
 have hb := Jd
 have few := G.few
 have wl := w.len
 have hn := (List.getElem?_eq_some_iff.mp e).1
 rw [Jqm]
 simp! [Jee]
 refine WR.mono (Jsw (h := h) (xs := ys) (chk := fun h' => h'[S]? = some (.lst ys)) (fun x y h' => ∀ p xs, x = .ref p -> h[p]? = some (.lst xs) -> ∃ p', y = .ref p' /\ h.length < p' /\ h'[p']? = some (.lst xs)) ?_ (by omega) ?_ (fun h2 q => q _ _ hS) ?_) ?_
 ·simp! [Jb1, hS]
 ·intro x y h2 h3 kb d p xs e1 e2
  obtain ⟨p', e3, e4, e5⟩ := d p xs e1 e2
  exact ⟨p', e3, e4, kb _ _ (by omega) e5⟩
 ·intro x hx h2 k2 l2
  obtain ⟨i, hi, rfl⟩ := List.mem_iff_getElem.mp hx
  obtain ⟨p, q, ey, gp, gq⟩ := w.at_ i _ _ (List.getElem?_eq_getElem hi) (List.getElem?_eq_getElem (show i < rs.length by omega))
  rw [ey]
  simp! [Jfj, Jnj, k2 _ _ gp]
  refine ⟨.one _ _, fun p' xs e1 e2 => ?_⟩
  cases e1
  rw [gp] at e2
  cases e2
  first | exact ⟨_, rfl, l2, Jaw⟩ | exact ⟨l2, Jaw⟩
 ·rintro _ h1 ⟨rfl, zs, gz, lz, k1, dz⟩
  have row : ∀ (i : Nat) x, rs[i]? = some x -> ∃ p q, zs[i]? = some (.ref p) /\ h.length < p /\ h1[p]? = some (.lst (pl x q)) /\ h[q]? = some (.lst (x.2.map tupH)) := fun i x ex => by
   obtain ⟨p, q, ey, gp, gq⟩ := w.get ex
   have hi : i < zs.length := by rw [lz]; exact (List.getElem?_eq_some_iff.mp ey).1
   obtain ⟨p', e1, e2, e3⟩ := dz i _ _ ey (List.getElem?_eq_getElem hi) p _ rfl gp
   exact ⟨p', q, by rw [List.getElem?_eq_getElem hi, e1], e2, e3, gq⟩
  obtain ⟨P, Q, eP, hP, gP, gQ⟩ := row n r e
  have aP : atI zs (n : Int) = some (.ref P) := Jc0 eP
  have e2 : ixN (pl r Q).length 2 = some 2 := rfl
  simp! [Jja, Jnd, gz, aP, gP, J0l, Jv3, e2, Ji3]
  have kk : ∀ (j : Nat) o, j ≠ P -> h1[j]? = some o -> (h1.set P (.lst ((pl r Q).set 2 (.int (r.1.len + m)))))[j]? = some o := fun j o hj q => by
   rw [List.getElem?_set_ne (Ne.symm hj)]; exact q
  have kh : Kp h (h1.set P (.lst ((pl r Q).set 2 (.int (r.1.len + m))))) := fun j o q => kk j o (by have := Jhk q; omega) (k1 _ _ q)
  refine ⟨_, zs, rfl, kh, kk _ _ (by omega) gz, by rw [List.length_set, lz, wl], fun i y x a b => ?_⟩
  by_cases hi : i = n
  ·subst hi
   rw [eP] at a
   rw [List.getElem?_set_self hn] at b
   cases a
   cases b
   refine ⟨P, Q, rfl, ?_, kh _ _ gQ⟩
   rw [List.getElem?_set_self (Jhk gP)]
   rfl
  ·rw [List.getElem?_set_ne (Ne.symm hi)] at b
   obtain ⟨p, q, ep, hp, gp, gq⟩ := row i x b
   rw [ep] at a
   cases a
   refine ⟨p, q, rfl, kk _ _ ?_ gp, kh _ _ gq⟩
   rintro rfl
   rw [gp] at gP
   have en := J14 (show pl x q = pl r Q by simpa using gP)
   refine hi ((List.getElem_inj (xs := rs.map fun r => r.1.name) (h₀ := by simpa using (List.getElem?_eq_some_iff.mp b).1) (h₁ := by simpa using hn) G.nd).mp ?_)
   rw [List.getElem_map, List.getElem_map]
   rw [List.getElem?_eq_getElem hn] at e
   rw [List.getElem?_eq_getElem (List.getElem?_eq_some_iff.mp b).1] at b
   rw [Option.some.inj e, Option.some.inj b]
   exact en
end
end LW
namespace LW
open PySem L2 L3 L4
noncomputable def tn (b : Hd) : Int := b.2.2 - b.2.1 - 1
noncomputable def stB (hss : List (List Hd)) (a : Nat) (b : Hd) : Bool := match fstK hss b.1 with
 | some m => decide (m <= a)
 | none => false
noncomputable def fds (st : Hd -> Bool) : Nat -> List (List Hd) -> List (Nat × Hd)
 | _, [] => []
 | o, hs :: r => (hs.filter st).map (fun b => (o, b)) ++ fds st (o + 1) r
theorem Jsm (st : Hd -> Bool) : ∀ (l : List (List Hd)) (o : Nat) (hs : List Hd), fds st o (l ++ [hs]) = fds st o l ++ (hs.filter st).map fun b => (o + l.length, b)
 | [], o, hs => by simp [fds]
 | a :: l, o, hs => by
  rw [List.cons_append, fds, fds, Jsm st l (o + 1) hs, List.append_assoc, List.length_cons, show o + 1 + l.length = o + (l.length + 1) by omega]
theorem Jwj (st : Hd -> Bool) : ∀ (l : List (List Hd)) (o : Nat), (∀ hs ∈ l, hs.length <= 6) -> (fds st o l).length <= 6 * l.length
 | [], o, _ => by simp [fds]
 | a :: l, o, q => by
  have h1 := Jwj st l (o + 1) fun hs h => q hs (List.mem_cons_of_mem _ h)
  have h2 := q a List.mem_cons_self
  have h3 := List.length_filter_le st a
  rw [fds, List.length_append, List.length_map, List.length_cons]
  omega
noncomputable def prV (p : Nat × Hd) : IV := .tup [.int (p.1 : Int), tupH p.2]
noncomputable def kfV (v : IV) : Int := match v with
 | .tup [_, .tup [_, .int s, .int e]] => e - s - 1
 | _ => 0
theorem kf_pr (p : Nat × Hd) : kfV (prV p) = tn p.2 := rfl
theorem Jvc (l : List (Nat × Hd)) : (l = [] /\ Jtf kfV .non (l.map prV) = .non) ∨ ∃ p ∈ l, Jtf kfV .non (l.map prV) = prV p /\ ∀ p' ∈ l, tn p'.2 <= tn p.2 := by
 cases l with
 | nil => exact .inl ⟨rfl, rfl⟩
 | cons p0 r =>
  refine .inr ?_
  rw [List.map_cons]
  show ∃ p ∈ p0 :: r, Jdu kfV (prV p0) (r.map prV) = prV p /\ _
  obtain ⟨h1, h2⟩ := Jls kfV (r.map prV) (prV p0)
  have key : ∀ p, Jdu kfV (prV p0) (r.map prV) = prV p -> ∀ p' ∈ p0 :: r, tn p'.2 <= tn p.2 := fun p e p' hp' => by
   rw [e, kf_pr] at h1 h2
   rcases List.mem_cons.mp hp' with rfl | hp'
   ·exact h1
   ·exact h2 _ (List.mem_map.mpr ⟨p', hp', rfl⟩)
  rcases Jjd kfV (r.map prV) (prV p0) with e | e
  ·exact ⟨p0, List.mem_cons_self, e, key p0 e⟩
  ·obtain ⟨p, hp, e⟩ := List.mem_map.mp e
   exact ⟨p, List.mem_cons_of_mem _ hp, e.symm, key p e.symm⟩
structure Dty (h : IH) (D : Nat) (vs : List IV) (rs : List RH) : Prop where
 d : h[D]? = some (.ins "Duty" (dfs vs))
 w : AllH h vs rs
 few : rs.length <= 12
 six : ∀ r ∈ rs, r.2.length <= 6 /\ ∀ a ∈ r.2, IsNm a.1
theorem Dty.kp {h h' : IH} {D : Nat} {vs : List IV} {rs : List RH} (k : Kp h h') (y : Dty h D vs rs) : Dty h' D vs rs := ⟨k _ _ y.d, y.w.kp k, y.few, y.six⟩
noncomputable def stV (hss : List (List Hd)) (a : Nat) (v : IV) : Bool := match v with
 | .tup [.str x, .int s, .int e] => stB hss a (x, s, e)
 | _ => false
noncomputable def J19 (o : Int) (v : IV) : IV := .tup [.int o, v]
theorem Ju3 (hss : List (List Hd)) (a o : Nat) : ∀ hs : List Hd, ((hs.map tupH).filter (stV hss a)).map (J19 (o : Int)) = ((hs.filter (stB hss a)).map fun b => (o, b)).map prV
 | [] => rfl
 | b :: hs => by
  rw [List.map_cons, List.filter_cons, List.filter_cons]
  have e : stV hss a (tupH b) = stB hss a b := rfl
  rw [e]
  split
  ·rw [List.map_cons, List.map_cons, List.map_cons, Ju3 hss a o hs]
   rfl
  ·exact Ju3 hss a o hs
section
variable {k : Nat} {h : IH}
theorem J2d {i : Nat} {kvs : List (Key × IV)} {x : Str} {v : IV} {Q : IV -> IH -> Prop} (hi : h[i]? = some (.dct kvs)) (e : valI kvs (.inr x) = some v) : WR (Jt6 (.ref i) (.str x) h) Q = Q v h := by
 unfold Jt6
 simp only [hi, keyI, e]
 rfl
theorem Jss (b : Hd) : Jb2 (k + 1) [tupH b] h = .ok (.int (tn b)) h := by
 refine Jdw ?_
 rw [Jnn]
 simp! [Jdp, tupH, tn]
theorem J1f {gt : IV -> IV -> Option Bool} {q : Str} {j i a : Nat} {js : List Nat} {m : E1} {d : IV} {σ : ISt} {Q : IV -> IH -> Prop} (hj : h[j]? = some (.tab q)) (hi : σ[i]? = some (some (.ref a))) :
  WR (Jvn gt q j js (Ja (eVar i) aNil) m (eC d) σ h) Q = WR (Juj gt (fun v h' => m (some v :: js.map fun j => (σ[j]?).join) h') a d h) Q := by
 have e : Ja (eVar i) aNil σ h = .ok [.ref a] h := by
  unfold Ja eVar aNil
  rw [hi]
  rfl
 unfold Jvn
 rw [e]
 show WR (match h[j]? with | some (.tab q') => _ | _ => _) Q = _
 rw [hj]
 dsimp only
 rw [if_pos rfl]
 rfl
theorem Jui {D a : Nat} {vs : List IV} {rs : List RH} (y : Dty h D vs rs) (ha : a < rs.length) (h0 : h[0]? = some (.tab "longest_hold")) :
  WR (Jby (k + 3) [.ref D, .int (a : Int)] h) fun v h' => v = Jtf kfV .non ((fds (stB (rs.map (·.2)) a) (a + 1) ((rs.map (·.2)).drop (a + 1))).map prV) /\ Ex h h' := by
 have hb := Jd
 rw [Jl2]
 simp! [Jca]
 refine WR.mono (Jlx (k := k) y.d y.w y.few fun r hr => (y.six r hr).1) ?_
 rintro _ h1 ⟨t, kvs, rfl, gt, tv, x1⟩
 have y1 := y.kp x1.kp
 have wl := y1.w.len
 have few := y.few
 simp! [Je2, Je3, List.length_nil, Nat.zero_le]
 rw [Jbt (i := D) (h1 := h1 ++ [.lst []]) rfl (grow y1.d) dls (Jdi _)]
 simp! [Jhr (grow y1.d)]
 refine ⟨by omega, ?_⟩
 generalize hss' : rs.map (·.2) = hss at tv
 have lh : hss.length = rs.length := by rw [<- hss']; simp
 have six : ∀ hs ∈ hss, hs.length <= 6 := fun hs q => by
  rw [<- hss'] at q
  obtain ⟨r, hr, rfl⟩ := List.mem_map.mp q
  exact (y.six r hr).1
 refine Jdn (fun m σ h' => ∃ g c, h' = h1 ++ L3.IO.lst ((fds (stB hss a) (a + 1) ((hss.drop (a + 1)).take m)).map prV) :: g /\ σ = [some (.ref D), some (.int (a : Int)), some (.ref t), some (.ref h1.length), c]) (fun _ _ _ _ => trivial) ?_ ?_ ⟨[], none, rfl, rfl⟩
 ·rintro n hn _ _ ⟨g, c, rfl, rfl⟩
  rw [Jg1]
  rw [Jas] at hn
  have hn' : a + 1 + n < rs.length := by omega
  have en : (a : Int) + 1 + (n : Int) = ((a + 1 + n : Nat) : Int) := by push_cast; omega
  have hd : n < (hss.drop (a + 1)).length := by rw [List.length_drop]; omega
  have ed : (hss.drop (a + 1))[n] = (rs[a + 1 + n]).2 := by
   rw [List.getElem_drop]
   subst hss'
   rw [List.getElem_map]
  rw [List.take_succ_eq_append_getElem hd, Jsm, List.length_take, Nat.min_eq_left (by omega), ed]
  have lf := Jwj (stB hss a) ((hss.drop (a + 1)).take n) (a + 1) fun hs q => six hs (List.mem_of_mem_drop (List.mem_of_mem_take q))
  rw [List.length_take, Nat.min_eq_left (by omega)] at lf
  generalize hF : fds (stB hss a) (a + 1) ((hss.drop (a + 1)).take n) = F at lf
  obtain ⟨j, ej, gj⟩ := y1.w.at_ (a + 1 + n) _ _ (List.getElem?_eq_getElem (by omega)) (List.getElem?_eq_getElem hn')
  have av : atI vs ((a + 1 + n : Nat) : Int) = some (.ref j) := Jc0 (by rw [List.getElem?_eq_getElem (by omega), ej])
  have hl6 := (y.six _ (List.getElem_mem hn')).1
  have held : ∀ b ∈ (rs[a + 1 + n]).2, ∃ m, fstK hss b.1 = some m := fun b hb' => by
   cases e : fstK hss b.1 with
   | some m => exact ⟨m, rfl⟩
   | none =>
    exfalso
    unfold fstK at e
    rw [List.findIdx?_eq_none_iff] at e
    have := e (rs[a + 1 + n]).2 (by rw [<- hss']; exact List.mem_map.mpr ⟨_, List.getElem_mem hn', rfl⟩)
    unfold has at this
    have t2 : ((rs[a + 1 + n]).2.any fun x => decide (x.1 = b.1)) = true := List.any_eq_true.mpr ⟨b, hb', by simp⟩
    rw [t2] at this
    cases this
  generalize rs[a + 1 + n] = r at gj hl6 held
  have x2 : Ex h1 (h1 ++ L3.IO.lst (F.map prV) :: g) := .cons _ _ _
  rw [en]
  simp! [Jdv]
  have ew : eDot (pg (k + 2)) "work" 1 (eVar 0) (Ja (eVar 4) aNil) [some (IV.ref D), some (IV.int (a : Int)), some (IV.ref t), some (IV.ref h1.length), some (IV.int ((a + 1 + n : Nat) : Int))] (h1 ++ L3.IO.lst (F.map prV) :: g) = .ok (.ref j) (h1 ++ L3.IO.lst (F.map prV) :: g) := by
   refine Jdw ?_
   rw [Jbt (i := D) (h1 := h1 ++ L3.IO.lst (F.map prV) :: g) rfl (x2.get y1.d) dlw (Jdg _)]
   simp! [Jiq (x2.get y1.d) av]
  rw [Jjl (i := h1.length) (h1 := h1 ++ L3.IO.lst (F.map prV) :: g) rfl J2 Jwk]
  simp! [true_and]
  refine WR.mono (Jwg (h := h1 ++ L3.IO.lst (F.map prV) :: g ++ [L3.IO.lst (r.2.map tupH)]) (xs := r.2.map tupH) (chk := fun h' => h'[(h1 ++ L3.IO.lst (F.map prV) :: g).length]? = some (.lst (r.2.map tupH))) (p := stV hss a) (f := J19 ((a + 1 + n : Nat) : Int)) ?_ (by rw [List.length_map]; omega) (fun h2 q => q _ _ Jaw) ?_ ?_) ?_
  ·rw [Jbw, Jbt (i := j) (h1 := h1 ++ L3.IO.lst (F.map prV) :: g) ew (x2.get gj) flh (Jfw _)]
   simp! [Jk0 (x2.get gj), Jb1, Jaw]
  ·intro v hv h2 q
   obtain ⟨b, hb', rfl⟩ := List.mem_map.mp hv
   obtain ⟨m, em⟩ := held b hb'
   have ev : valI kvs (.inr b.1) = some (.int (m : Int)) := by
    have z := tv b.1
    rw [em] at z
    cases w : valI kvs (.inr b.1) with
    | none => rw [w] at z; cases z
    | some v' => rw [w] at z; exact congrArg some z
   have gt2 : h2[t]? = some (.dct kvs) := q _ _ (grow (x2.get gt))
   simp only [List.map_cons, List.map_nil, List.getElem?_cons_succ, List.getElem?_cons_zero, Option.join_some]
   simp! [Jdd, tupH, J2d gt2 ev]
   refine ⟨?_, .refl _⟩
   show decide ((m : Int) <= a) = stB hss a b
   unfold stB
   rw [em]
   simp
  ·intro v hv _ h2 q
   simp only [List.map_cons, List.map_nil, List.getElem?_cons_succ, List.getElem?_cons_zero, Option.join_some]
   simp! [Jdb, J19, List.length_cons, List.length_nil]
   exact ⟨by omega, .refl _⟩
  ·rintro _ _ ⟨rfl, g2, rfl⟩
   rw [Ju3]
   have lr := List.length_filter_le (stB hss a) r.2
   rw [Jwr (xs := F.map prV) (grow (grow J2)) J2 (by rw [List.length_map, List.length_map, List.length_map]; omega)]
   refine ⟨g ++ [L3.IO.lst (r.2.map tupH)] ++ L3.IO.lst (((r.2.filter (stB hss a)).map fun b => (a + 1 + n, b)).map prV) :: g2, _, ?_, rfl⟩
   rw [List.append_assoc, List.append_assoc, List.cons_append, Jkw, List.map_append, List.append_assoc]
 ·rintro _ _ ⟨g, c, rfl, rfl⟩
  rw [Jas, List.take_of_length_le (by rw [List.length_drop]; omega)]
  generalize fds (stB hss a) (a + 1) (hss.drop (a + 1)) = F
  have x2 : Ex h1 (h1 ++ L3.IO.lst (F.map prV) :: g) := .cons _ _ _
  simp! [Je0]
  rw [J1f (x2.get (x1.get h0)) rfl]
  refine WR.mono (Jzh (kf := kfV) J2 ?_) ?_
  ·intro v hv h2 x3
   obtain ⟨p, hp, rfl⟩ := List.mem_map.mp hv
   simp! [Jda, prV, Jss]
   exact ⟨rfl, .refl _⟩
  ·rintro v h3 ⟨rfl, x3⟩
   exact ⟨rfl, (x1.trans x2).trans x3⟩
noncomputable def UpIs (l : List (Nat × Hd)) (z : Int) : Prop := (l = [] /\ z = 0) ∨ ∃ p ∈ l, z = tn p.2 /\ ∀ p' ∈ l, tn p'.2 <= z
theorem Jm7 {D a : Nat} {vs : List IV} {rs : List RH} (y : Dty h D vs rs) (ha : a < rs.length) (h0 : h[0]? = some (.tab "longest_hold")) :
  WR (Jfy (k + 4) [.ref D, .int (a : Int)] h) fun v h' => (∃ z, v = .int z /\ UpIs (fds (stB (rs.map (·.2)) a) (a + 1) ((rs.map (·.2)).drop (a + 1))) z) /\ Ex h h' := by
 rw [Jum]
 simp! [Jhb]
 refine WR.mono (Jui (k := k) y ha h0) ?_
 rintro _ h1 ⟨rfl, x1⟩
 generalize fds (stB (rs.map (·.2)) a) (a + 1) ((rs.map (·.2)).drop (a + 1)) = F
 rcases Jvc F with ⟨e1, e2⟩ | ⟨p, hp, e2, all⟩
 ·rw [e2]
  simp! [Jhi, Jys, isI]
  exact ⟨.inl ⟨e1, rfl⟩, x1⟩
 ·rw [e2]
  simp! [Jhi, prV, Jys, isI, Jss]
  exact ⟨.inr ⟨p, hp, rfl, all⟩, x1⟩
end
end LW
namespace LW
open PySem L2 L3 L4
noncomputable def cmn (s : Int) (d : WD) : Int := if 1 <= s then rup (s + d.late) d.gap else 0
noncomputable def Jzc (rs : List RH) (s : Int) : Int := (rs.map fun r => cmn s r.1 * r.1.len).sum
noncomputable def aOfN (s : Int) (h : IH) (v : IV) : IV := match Jhc "late" v h, Jhc "gap" v h, Jhc "length" v h with
 | some (.int l), some (.int g), some (.int n) => .int ((if 1 <= s then rup (s + l) g else 0) * n)
 | _, _, _ => .non
noncomputable def GapsS (s : Int) (rs : List RH) : Prop := ∀ r ∈ rs, 0 < r.1.gap /\ r.1.gap.natAbs.log2 < 9000 /\ Jat (cmn s r.1) r.1.len
theorem AllH.take {h : IH} {vs : List IV} {rs : List RH} (w : AllH h vs rs) (n : Nat) : AllH h (vs.take n) (rs.take n) := by
 refine ⟨by rw [List.length_take, List.length_take, w.len], fun i v r a b => ?_⟩
 rw [List.getElem?_take] at a b
 split at a
 ·rename_i q
  rw [if_pos q] at b
  exact w.at_ i v r a b
 ·cases a
noncomputable def vAt (vs : List IV) (v : IV) : IV := match v with
 | .int n => (vs[n.toNat]?).getD .non
 | _ => .non
theorem J2b (vs : List IV) (a : Nat) (ha : a <= vs.length) : (rngI 0 (a : Int)).map (vAt vs) = vs.take a := by
 refine List.ext_getElem? fun i => ?_
 rw [List.getElem?_map]
 by_cases hi : i < a
 ·have hr : i < (rngI 0 (a : Int)).length := by rw [Jas]; omega
  rw [List.getElem?_eq_getElem hr, Jg1, List.getElem?_take, if_pos hi, List.getElem?_eq_getElem (show i < vs.length by omega)]
  simp only [Option.map_some, vAt]
  rw [show ((0 : Int) + (i : Int)).toNat = i by omega, List.getElem?_eq_getElem (show i < vs.length by omega)]
  rfl
 ·rw [List.getElem?_eq_none (by rw [Jas]; omega), List.getElem?_take, if_neg hi]
  rfl
section
variable {k : Nat} {h : IH}
theorem Jm0 {d : WD} {hs : List IV} {w : Nat} {s : Int} (hw : h[w]? = some (.ins "Work" (wfs d.name d.gap d.len d.due d.late hs))) (hg : 0 < d.gap) (hl : d.gap.natAbs.log2 < 9000) :
  Jb4 (k + 2) [.ref w, .int s] h = .ok (.int (cmn s d)) h := by
 refine Jdw ?_
 rw [Jn6]
 simp! [Jdm, Jh hw, fl4, fl1, Jqr hg hl, decide_eq_true_eq, decide_eq_false_iff_not, cmn]
 exact ⟨fun q => by rw [if_pos q], fun q => by rw [if_neg q]⟩
theorem J3j {h h0 : IH} {it : I1} {e : E1} {js : List Nat} {σ : ISt} {xs : List IV} {chk : IH -> Prop} {f : IV -> IV} (hit : WR (it σ h0) fun J h1 => J.xs = xs /\ J.chk = chk /\ h1 = h) (hl : xs.length < sizeLine)
  (hc : ∀ h2 : IH, (∀ (j : Nat) (ob : IO), h[j]? = some ob -> h2[j]? = some ob) -> chk h2)
  (he : ∀ x ∈ xs, ∀ h2 : IH, (∀ (j : Nat) (ob : IO), h[j]? = some ob -> h2[j]? = some ob) -> WR (e (some x :: js.map fun j => (σ[j]?).join) h2) fun v h3 => v = f x /\ Ex h2 h3) :
  ∃ g, Jaj it 1 js (gNm 0) Jav e σ h0 = .ok (.ref h.length) (h ++ .lst (xs.map f) :: g) := by
 obtain ⟨v, h3, e, rfl, g, rfl⟩ := (Jak hit hl hc he).eq
 exact ⟨g, e⟩
theorem Jvw {D a : Nat} {vs : List IV} {s2 s3 s4 : Option IV} (hD : h[D]? = some (.ins "Duty" (dfs vs))) (ha : a <= vs.length) (hv : vs.length <= 12) :
  ∃ g, Jaj (iRg Jbp (Ja (eVar 1) aNil)) 1 [0] (gNm 0) Jav (Jd1 (k + 1)) [some (.ref D), some (.int (a : Int)), s2, s3, s4] h = .ok (.ref h.length) (h ++ .lst (vs.take a) :: g) := by
 have hb := Jd
 have X := @J3j h h (iRg Jbp (Ja (eVar 1) aNil)) (Jd1 (k + 1)) [0] [some (.ref D), some (.int (a : Int)), s2, s3, s4] (rngI 0 (a : Int)) (fun _ => True) (vAt vs)
  (by simp! [true_and]; exact ⟨by omega, by omega⟩) (by rw [Jas]; omega) (fun _ _ => trivial) (by
   intro x hx h2 q
   obtain ⟨n, hn, rfl⟩ := List.mem_iff_getElem.mp hx
   rw [Jas] at hn
   rw [Jg1, show (0 : Int) + (n : Int) = n by omega]
   have hnv : n < vs.length := by omega
   have av : atI vs (n : Int) = some vs[n] := Jc0 (List.getElem?_eq_getElem hnv)
   have eD : h2[D]? = some (.ins "Duty" (dfs vs)) := q _ _ hD
   simp only [List.map_cons, List.map_nil, List.getElem?_cons_succ, List.getElem?_cons_zero, Option.join_some]
   unfold Jd1
   rw [Jbt (i := D) (h1 := h2) rfl eD dlw (Jdg _)]
   simp! [Jiq eD av]
   refine ⟨?_, .refl _⟩
   unfold vAt
   dsimp only
   rw [show (n : Int).toNat = n by omega, List.getElem?_eq_getElem hnv]
   rfl)
 rw [J2b vs a ha] at X
 exact X
theorem J1v {r : Res IV} {h : IH} {P : Int -> Prop} {f : Int -> Int} (W : WR r fun v h' => (∃ z, P z /\ v = .int (f z)) /\ Ex h h') : ∃ z h', P z /\ r = .ok (.int (f z)) h' /\ Ex h h' := by
 obtain ⟨v, h', e, ⟨z, p, rfl⟩, x⟩ := W.eq
 exact ⟨z, h', p, e, x⟩
theorem J2e {D a : Nat} {vs : List IV} {rs : List RH} {s : Int} (y : Dty h D vs rs) (ha : a < rs.length) (h0 : h[0]? = some (.tab "longest_hold")) (hg : GapsS s rs) :
  ∃ z h', UpIs (fds (stB (rs.map (·.2)) a) (a + 1) ((rs.map (·.2)).drop (a + 1))) z /\ Jm6 (k + 5) [.ref D, .int (a : Int), .int s] h = .ok (.int (z + (rs[a]).1.len + Jzc (rs.take a) s)) h' /\ Ex h h' := by
 refine J1v (P := UpIs (fds (stB (rs.map (·.2)) a) (a + 1) ((rs.map (·.2)).drop (a + 1)))) (f := fun z => z + (rs[a]).1.len + Jzc (rs.take a) s) ?_
 have hb := Jd
 have wl := y.w.len
 have few := y.few
 rw [J2r]
 simp! [Jn1]
 have Y0 := @Jvw (k + 3) h D a vs (some (.int s)) none none y.d (by omega) (by omega)
 generalize Jaj (iRg Jbp (Ja (eVar 1) aNil)) 1 [0] (gNm 0) Jav (Jd1 (k + 3 + 1)) [some (.ref D), some (.int (a : Int)), some (.int s), none, none] h = rc at Y0 ⊢
 obtain ⟨g, rfl⟩ := Y0
 rw [Jb0]
 have x1 : Ex h (h ++ L3.IO.lst (vs.take a) :: g) := .cons _ _ _
 have gV : (h ++ L3.IO.lst (vs.take a) :: g)[h.length]? = some (.lst (vs.take a)) := J2
 generalize h.length = V at gV
 generalize h ++ L3.IO.lst (vs.take a) :: g = h1 at x1 gV
 have y1 := y.kp x1.kp
 have w1 := (y1.w.take a).w
 have rm := w1.mapF (F := aOfN s h1) (g := fun d => .int (cmn s d * d.len)) fun j d hs e => by rw [aOfN, Jh e, Jh e, Jh e, fl4, fl1, fl2]; rfl
 simp! [Js1]
 refine WR.mono (Jak (h := h1) (xs := vs.take a) (chk := fun h' => h'[V]? = some (.lst (vs.take a))) (f := aOfN s h1) ?_ (by rw [List.length_take]; omega) (fun h2 q => q _ _ gV) ?_) ?_
 ·simp! [Jb1, gV]
 ·intro v hv h2 q
  obtain ⟨d, hd, j, hs, rfl, e⟩ := w1.of hv
  obtain ⟨r, hr, rfl⟩ := List.mem_map.mp hd
  have g := hg r (List.mem_of_mem_take hr)
  have e2 := q _ _ e
  have mf := g.2.2
  simp only [List.map_cons, List.map_nil, List.getElem?_cons_succ, List.getElem?_cons_zero, Option.join_some]
  simp! [Jna, Jm0 e2 g.1 g.2.1, Jh e2, fl2, mf]
  exact ⟨by rw [aOfN, Jh e, Jh e, Jh e, fl4, fl1, fl2]; rfl, .refl _⟩
 ·rintro _ _ ⟨rfl, g2, rfl⟩
  rw [rm]
  have em : ((rs.take a).map (·.1)).map (fun d => IV.int (cmn s d * d.len)) = ((rs.take a).map fun r => cmn s r.1 * r.1.len).map IV.int := by rw [List.map_map, List.map_map]; rfl
  rw [em]
  have x2 : Ex h1 (h1 ++ L3.IO.lst (((rs.take a).map fun r => cmn s r.1 * r.1.len).map IV.int) :: g2) := .cons _ _ _
  simp! [Jn9, J2, Jdf, Jsk]
  generalize h1 ++ L3.IO.lst (((rs.take a).map fun r => cmn s r.1 * r.1.len).map IV.int) :: g2 = h2 at x2
  have y2 := y1.kp x2.kp
  refine WR.mono (Jm7 (k := k) y2 ha ((x1.trans x2).get h0)) ?_
  rintro _ h3 ⟨⟨z, rfl, up⟩, x3⟩
  have y3 := y2.kp x3.kp
  obtain ⟨j, ej, gj⟩ := y3.w.at_ a _ _ (List.getElem?_eq_getElem (show a < vs.length by omega)) (List.getElem?_eq_getElem ha)
  have av : atI vs (a : Int) = some (.ref j) := Jc0 (by rw [List.getElem?_eq_getElem (show a < vs.length by omega), ej])
  rw [Jbt (i := D) (h1 := h3) rfl y3.d dlw (Jdg _)]
  simp! [Jiq y3.d av, Jh gj, fl2]
  exact ⟨⟨z, up, rfl⟩, (x1.trans x2).trans x3⟩
end
theorem UpIs.uniq {F : List (Nat × Hd)} {z z' : Int} (u : UpIs F z) (u' : UpIs F z') : z = z' := by
 rcases u with ⟨e, rfl⟩ | ⟨p, hp, rfl, a⟩
 ·rcases u' with ⟨_, rfl⟩ | ⟨p', hp', _, _⟩
  ·rfl
  ·rw [e] at hp'; cases hp'
 ·rcases u' with ⟨e, rfl⟩ | ⟨p', hp', rfl, a'⟩
  ·rw [e] at hp; cases hp
  ·have := a p' hp'
   have := a' p hp
   omega
end LW
namespace LW
open PySem L2 L3 L4
noncomputable def dm (s : Int) (d : WD) : Int := if 0 <= s + d.late - d.due then (s + d.late - d.due) / d.gap + 1 else 0
noncomputable def dem (ds : List WD) (s : Int) : Int := (ds.map fun d => dm s d * d.len).sum
noncomputable def ask (ds : List WD) (s : Int) : Int := (ds.map fun d => cmn s d * d.len).sum
noncomputable def eOf (s : Int) (h : IH) (v : IV) : IV := match Jhc "late" v h, Jhc "gap" v h, Jhc "length" v h, Jhc "due" v h with
 | some (.int l), some (.int g), some (.int n), some (.int u) => .int ((if 0 <= s + l - u then (s + l - u) / g + 1 else 0) * n)
 | _, _, _, _ => .non
section
variable {k : Nat} {h : IH}
theorem Jy2 {vs : List IV} {ds : List WD} {D : Nat} {s : Int} (hD : h[D]? = some (.ins "Duty" (dfs vs))) (w : AllW h vs ds) (hl : ds.length <= 20) (hg : ∀ d ∈ ds, 0 < d.gap /\ d.gap.natAbs.log2 < 9000 /\ Jat (cmn s d) d.len) :
  WR (Jnk (k + 3) [.ref D, .int s] h) fun v h' => v = .int (ask ds s) /\ Ex h h' := by
 have hb := Jd
 have wl := w.len
 rw [Jyj]
 simp! [Jk6]
 have rm := w.mapF (F := aOfN s h) (g := fun d => .int (cmn s d * d.len)) fun j d hs e => by rw [aOfN, Jh e, Jh e, Jh e, fl4, fl1, fl2]; rfl
 refine WR.mono (Jak (h := h) (xs := vs) (chk := fun _ => True) (f := aOfN s h) ?_ (by omega) (fun _ _ => trivial) ?_) ?_
 ·simp! [Jh hD, dl0]
 ·intro v hv h2 q
  obtain ⟨d, hd, j, hs, rfl, e⟩ := w.of hv
  have e2 := q _ _ e
  have g := hg d hd
  have mf := g.2.2
  simp only [List.map_cons, List.map_nil, List.getElem?_cons_succ, List.getElem?_cons_zero, Option.join_some]
  simp! [Jly, Jm0 e2 g.1 g.2.1, Jh e2, fl2, mf]
  exact ⟨by rw [aOfN, Jh e, Jh e, Jh e, fl4, fl1, fl2]; rfl, .refl _⟩
 ·rintro _ _ ⟨rfl, g, rfl⟩
  rw [rm]
  have em : ds.map (fun d => IV.int (cmn s d * d.len)) = (ds.map fun d => cmn s d * d.len).map IV.int := by simp
  rw [em]
  simp! [Jn9, J2, Jdf]
  exact ⟨rfl, .cons _ _ _⟩
theorem J1j {d : WD} {hs : List IV} {w : Nat} {s : Int} (hw : h[w]? = some (.ins "Work" (wfs d.name d.gap d.len d.due d.late hs))) (hg : 0 < d.gap) (hl : d.gap.natAbs.log2 < 9000) :
  Jh0 (k + 2) [.ref w, .int s] h = .ok (.int (dm s d)) h := by
 refine Jdw ?_
 rw [Juk]
 simp! [Jhf, Jk7, Jh hw, fl4, fl3, fl1, hg, hl, decide_eq_true_eq, decide_eq_false_iff_not, dm]
 exact ⟨fun q => by rw [if_pos q], fun q => by rw [if_neg q]⟩
theorem Jv0 {vs : List IV} {ds : List WD} {D : Nat} {s : Int} (hD : h[D]? = some (.ins "Duty" (dfs vs))) (w : AllW h vs ds) (hl : ds.length <= 20) (hg : ∀ d ∈ ds, 0 < d.gap /\ d.gap.natAbs.log2 < 9000 /\ Jat (dm s d) d.len) :
  WR (Jkm (k + 3) [.ref D, .int s] h) fun v h' => v = .int (dem ds s) /\ Ex h h' := by
 have hb := Jd
 have wl := w.len
 rw [Jwz]
 simp! [Jjr]
 have rm := w.mapF (F := eOf s h) (g := fun d => .int (dm s d * d.len)) fun j d hs e => by rw [eOf, Jh e, Jh e, Jh e, Jh e, fl4, fl1, fl2, fl3]; rfl
 refine WR.mono (Jak (h := h) (xs := vs) (chk := fun _ => True) (f := eOf s h) ?_ (by omega) (fun _ _ => trivial) ?_) ?_
 ·simp! [Jh hD, dl0]
 ·intro v hv h2 q
  obtain ⟨d, hd, j, hs, rfl, e⟩ := w.of hv
  have e2 := q _ _ e
  have g := hg d hd
  have mf := g.2.2
  simp only [List.map_cons, List.map_nil, List.getElem?_cons_succ, List.getElem?_cons_zero, Option.join_some]
  simp! [Jjy, J1j e2 g.1 g.2.1, Jh e2, fl2, mf]
  exact ⟨by rw [eOf, Jh e, Jh e, Jh e, Jh e, fl4, fl1, fl2, fl3]; rfl, .refl _⟩
 ·rintro _ _ ⟨rfl, g, rfl⟩
  rw [rm]
  have em : ds.map (fun d => IV.int (dm s d * d.len)) = (ds.map fun d => dm s d * d.len).map IV.int := by simp
  rw [em]
  simp! [Jn9, J2, Jdf]
  exact ⟨rfl, .cons _ _ _⟩
end
end LW
namespace LW
open PySem L2 L3 L4
section
variable {k : Nat} {h : IH}
theorem Jmy {α : Type} : ∀ (l : List α) (j : Nat) (x : α), l[j]? = some x -> (x :: l.eraseIdx j).Perm l
 | [], _, _, e => by cases e
 | a :: l, 0, x, e => by cases e; exact .refl _
 | a :: l, j + 1, x, e => by
  have := Jmy l j x e
  exact (List.Perm.swap a x _).trans (this.cons a)
theorem Jk3 {α β : Type} (f : α -> β) : ∀ (l : List α) (j : Nat), (l.map f).eraseIdx j = (l.eraseIdx j).map f
 | [], _ => rfl
 | _ :: _, 0 => rfl
 | a :: l, j + 1 => by
  show f a :: (l.map f).eraseIdx j = f a :: (l.eraseIdx j).map f
  rw [Jk3 f l j]
theorem Jyd (c : Int) (m : Nat) (hm : m <= 7) : WR (Jek (k + 1) [.int c, .int m] h) fun v h' => ∃ O os, v = .ref O /\ Ex h h' /\ h'[O]? = some (.lst (ni os)) /\ os.Perm (List.range m) := by
 have hb := Jd
 rw [Jpf]
 simp! [Jet, Ji1, Jiy, J3u, List.cons.injEq, List.length_nil, Nat.zero_le]
 refine ⟨by omega, ⟨by omega, by omega⟩, ?_⟩
 refine Jdn (fun n σ h' => ∃ left fnd c' a, h' = h ++ [.lst (ni left), .lst (ni fnd)] /\ σ = [some (.int c'), some (.int m), some (.ref h.length), some (.ref (h.length + 1)), a] /\ (fnd ++ left).Perm (List.range m) /\ fnd.length = n) (fun _ _ _ _ => trivial) ?_ ?_ ⟨List.range m, [], c, none, by rw [J0b]; simp, by simp, by simp, rfl⟩
 ·rintro n hn _ _ ⟨left, fnd, c', a, rfl, rfl, p, lf⟩
  rw [Jg1]
  rw [Jas] at hn
  have lp := p.length_eq
  rw [List.length_append, List.length_range] at lp
  have gL : (h ++ [L3.IO.lst (ni left), L3.IO.lst (ni fnd)])[h.length]? = some (.lst (ni left)) := J2
  have gF : (h ++ [L3.IO.lst (ni left), L3.IO.lst (ni fnd)])[h.length + 1]? = some (.lst (ni fnd)) := by simp
  have ll : (ni left).length = left.length := by simp
  have a0 := Int.emod_nonneg c' (b := (left.length : Int)) (by omega)
  have a1 := Int.emod_lt_of_pos c' (b := (left.length : Int)) (by omega)
  obtain ⟨j, ej⟩ : ∃ j : Nat, c' % (left.length : Int) = j := ⟨(c' % (left.length : Int)).toNat, by omega⟩
  have hj : j < left.length := by omega
  have ex : (ni left)[j]? = some (.int (left[j] : Nat)) := by simp [hj]
  have mf : Jat 7 (0 + (n : Int)) := .inl (by decide)
  have lg : (Int.natAbs (2 + (0 + (n : Int)))).log2 < 9000 := Jnh (b := 10) (by omega) (by decide)
  simp! [Jg2]
  rw [Jjl (i := h.length + 1) (h1 := h ++ [L3.IO.lst (ni left), L3.IO.lst (ni fnd)]) rfl gF Jll]
  simp (implicitDefEqProofs := false) only [Jbn, Jf6, Jcv, Jcc, Jj7, Jcb, Jc5, Jcr, Jfc, Jf4, Jcx, Je8, Jeu, Jdj, Je, Jb0, Juy, Jj9, Jk9, Jdx, Jlr, Jgh, Jld, Jl5, Jc7, Jgl, Jcm, Jb6, Jba, Jbe, Jai, Jd2, Jey, Jc6, Jck, Jky, Jge, Jfe, Jbk, Jbl, Jk8, Jgc, Jgg, Jgo, Jfo, Jgr, Jcq, Jgp, Jgi, Jcj, Jlc, Jlv, Jlw, Jl1, Jlj, Jkv, Jf5, Jfu, Jfv, Jcp, Jf0, Jfm, Jih, Jbw, Jgf, Jc4, Jcu, Jgq, Jgs, Jfa, Jgj, Jbo, Krz, Ksz, Kvz, Ktz, Kuz]
  rw [Jjl (i := h.length) (h1 := h ++ [L3.IO.lst (ni left), L3.IO.lst (ni fnd)]) rfl gL J3a]
  simp! [Jrw, gL, ll, ej, show (0 : Int) < (left.length : Int) by omega]
  rw [J35 gL (by omega) ex]
  have es : (h ++ [L3.IO.lst (ni left), L3.IO.lst (ni fnd)]).set h.length (.lst ((ni left).eraseIdx j)) = h ++ [L3.IO.lst ((ni left).eraseIdx j), L3.IO.lst (ni fnd)] := Jkw _ _ _
  rw [es]
  have gF2 : (h ++ [L3.IO.lst ((ni left).eraseIdx j), L3.IO.lst (ni fnd)])[h.length + 1]? = some (.lst (ni fnd)) := by simp
  simp only [Jlk, gF2, Jbn, Jf6, Jcv, Jcc, Jj7, Jcb, Jc5, Jcr, Jfc, Jf4, Jcx, Je8, Jeu, Jdj, Je, Jb0, Juy, Jj9, Jk9, Jdx, Jlr, Jgh, Jld, Jl5, Jc7, Jgl, Jcm, Jb6, Jba, Jbe, Jai, Jd2, Jey, Jc6, Jck, Jky, Jge, Jfe, Jbk, Jbl, Jk8, Jgc, Jgg, Jgo, Jfo, Jgr, Jcq, Jgp, Jgi, Jcj, Jlc, Jlv, Jlw, Jl1, Jlj, Jkv, Jf5, Jfu, Jfv, Jcp, Jf0, Jfm, Jih, Jbw, Jgf, Jc4, Jcu, Jgq, Jgs, Jfa, Jgj, Jbo, List.set_cons_succ, List.set_cons_zero, List.append_nil, List.cons_append, List.nil_append, exists_eq_left, exists_eq_left', IV.bl.injEq, IV.int.injEq, IV.ref.injEq, IV.str.injEq, IO.lst.injEq, IV.tup.injEq, Option.some.injEq, Bool.not_true, Bool.not_false, reduceCtorEq, eq_self, true_implies, false_implies, implies_true, and_true, true_and, and_false, false_and, Option.bind_some, Bool.true_eq_false, Bool.false_eq_true, Jew, Jb7, Jex, Jkd, Je5, Jez, Jco, Jbh, Jc3, Jay, Jcw, Jds, Je1, Jjp, Jje, Jkb, Jkk, Jj8, Jb9, Jb8, Jb5, lg, mf, show (0 : Int) < 2 + (0 + (n : Int)) by omega]
  refine ⟨by simp; omega, left.eraseIdx j, fnd ++ [left[j]], _, _, ?_, rfl, ?_, by simp [lf]⟩
  ·rw [show (ni left).eraseIdx j = ni (left.eraseIdx j) by rw [Jk3, Jk3]]
   rw [List.set_append_right _ _ (by omega)]
   simp
  ·rw [List.append_assoc]
   refine (List.Perm.append_left fnd ?_).trans p
   exact Jmy left j _ (List.getElem?_eq_getElem hj)
 ·rintro _ _ ⟨left, fnd, c', a, rfl, rfl, p, lf⟩
  rw [Jas] at lf
  have lp := p.length_eq
  rw [List.length_append, List.length_range] at lp
  have : left = [] := List.eq_nil_of_length_eq_zero (by omega)
  subst this
  rw [List.append_nil] at p
  simp! [Jh3]
  exact ⟨_, fnd, rfl, ⟨_, rfl⟩, by simp, p⟩
noncomputable def inv (os : List Nat) (n : Nat) : Nat := ((os.map fun n : Nat => (n : Int)).findIdx? (· == (n : Int))).getD 0
theorem Jqk {os : List Nat} {n m : Nat} (p : os.Perm (List.range m)) (hn : n < m) : (os.map fun n : Nat => (n : Int)).findIdx? (· == (n : Int)) = some (inv os n) /\ os[inv os n]? = some n := by
 have mem : (n : Int) ∈ os.map fun n : Nat => (n : Int) := List.mem_map.mpr ⟨n, p.mem_iff.mpr (List.mem_range.mpr hn), rfl⟩
 unfold inv
 cases e : (os.map fun n : Nat => (n : Int)).findIdx? (· == (n : Int)) with
 | none =>
  rw [List.findIdx?_eq_none_iff] at e
  have := e _ mem
  simp at this
 | some j =>
  refine ⟨rfl, ?_⟩
  obtain ⟨h1, h2, _⟩ := List.findIdx?_eq_some_iff_getElem.mp e
  rw [List.length_map] at h1
  simp only [List.getElem_map, beq_iff_eq] at h2
  rw [Option.getD_some, List.getElem?_eq_getElem h1]
  congr 1
  omega
theorem J4k {os : List Nat} {i m : Nat} (p : os.Perm (List.range m)) (hi : i < os.length) : inv os os[i] = i := by
 have ho : os[i] < m := List.mem_range.mp (p.mem_iff.mp (List.getElem_mem hi))
 obtain ⟨_, e⟩ := Jqk p ho
 obtain ⟨h1, h2⟩ := List.getElem?_eq_some_iff.mp e
 exact (List.getElem_inj (h₀ := h1) (h₁ := hi) (p.nodup_iff.mpr List.nodup_range)).mp h2
theorem Js3 {O : Nat} {os : List Nat} {n m : Nat} {o : E1} {a : A1} {σ : ISt} {h1 : IH} {Q : IV -> IH -> Prop} (p : os.Perm (List.range m)) (hn : n < m) (ho : o σ h = .ok (.ref O) h) (ha : a σ h = .ok [.int n] h1) (gO : h[O]? = some (.lst (ni os))) (gO1 : h1[O]? = some (.lst (ni os))) : WR (eDot (pg k) "index" 1 o a σ h) Q = Q (.int (inv os n)) h1 := by
 rw [Jjl (i := O) (h1 := h) ho gO Jzr, ha, Jb0, Jxz gO1 (Jqk p hn).1]
theorem Jl8 {α : Type} {P : Nat -> α -> Prop} : ∀ n : Nat, (∀ i, i < n -> ∃ a, P i a) -> ∃ l : List α, l.length = n /\ ∀ i a, l[i]? = some a -> P i a
 | 0, _ => ⟨[], rfl, fun i a e => by simp at e⟩
 | n + 1, q => by
  obtain ⟨l, hl, hp⟩ := Jl8 n fun i hi => q i (by omega)
  obtain ⟨a, ha⟩ := q n (by omega)
  refine ⟨l ++ [a], by simp [hl], fun i b e => ?_⟩
  by_cases hi : i < n
  ·rw [List.getElem?_append_left (by omega)] at e
   exact hp i b e
  ·have := (List.getElem?_eq_some_iff.mp e).1
   rw [List.length_append, List.length_singleton] at this
   have hin : i = l.length := by omega
   rw [hin, List.getElem?_append_right (Nat.le_refl _), Nat.sub_self] at e
   cases e
   rw [hin, hl]
   exact ha
theorem J4x {h h0 : IH} {it : I1} {e : E1} {js : List Nat} {σ : ISt} {xs : List IV} {chk : IH -> Prop} (D : IV -> IV -> IH -> Prop) (hit : WR (it σ h0) fun J h1 => J.xs = xs /\ J.chk = chk /\ h1 = h) (hl : xs.length < sizeLine)
  (mono : ∀ x y h2 h3, KpB h.length h2 h3 -> D x y h2 -> D x y h3) (hc : ∀ h2 : IH, Kp h h2 -> chk h2)
  (he : ∀ x ∈ xs, ∀ h2 : IH, Kp h h2 -> h.length < h2.length -> WR (e (some x :: js.map fun j => (σ[j]?).join) h2) fun v h3 => Ex h2 h3 /\ D x v h3) :
  ∃ v h3, Jaj it 1 js (gNm 0) Jav e σ h0 = .ok v h3 /\ v = .ref h.length /\ ∃ ys, h3[h.length]? = some (.lst ys) /\ ys.length = xs.length /\ Kp h h3 /\ ∀ (i : Nat) x y, xs[i]? = some x -> ys[i]? = some y -> D x y h3 :=
 (Jsw D hit hl mono hc he).eq
noncomputable def DV (h1 : IH) (x y : IV) (h' : IH) : Prop := ∀ p : Nat, x = IV.ref p -> ∃ w : Nat, y = IV.ref w /\ w ≠ h1.length /\ ∃ (r : RH) (q : Nat), h1[p]? = some (.lst (pl r q)) /\ h1[q]? = some (.lst (r.2.map tupH)) /\ h'[w]? = some (wo r)
theorem wo_eq {h1 : IH} {r r' : RH} {q q' : Nat} (e : pl r q = pl r' q') (g : h1[q]? = some (.lst (r.2.map tupH))) (g' : h1[q']? = some (.lst (r'.2.map tupH))) : wo r = wo r' := by
 simp only [pl, List.cons.injEq, IV.str.injEq, IV.int.injEq, IV.ref.injEq, and_true] at e
 obtain ⟨e1, e2, e3, e4, e5, rfl⟩ := e
 rw [g] at g'
 have g' : r.2.map tupH = r'.2.map tupH := by simpa using g'
 unfold wo
 rw [e1, e2, e3, e4, e5, g']
theorem Jy8 {S : Nat} {ys : List IV} {rs : List RH} {unit : Int} (G : Gd unit rs) (gS : h[S]? = some (.lst ys)) (w : RowP h ys rs) :
  ∃ h', Jaj (iAny (eVar 0)) 1 [] (gNm 0) Jav (Ja9 (k + 5)) [some (.ref S)] h = .ok (.ref h.length) h' /\ ∃ vs, h'[h.length]? = some (.lst vs) /\ AllH h' vs rs /\ Kp h h' := by
 have hb := Jd
 have few := G.few
 have wl := w.len
 have X := @J4x h h (iAny (eVar 0)) (Ja9 (k + 5)) [] [some (.ref S)] ys (fun h' => h'[S]? = some (.lst ys)) (DV h)
  (by simp! [Jb1, gS]) (by omega) (by
   intro x y h2 h3 kb dd p e
   obtain ⟨w, e1, e2, r, q, e3, e4, e5⟩ := dd p e
   exact ⟨w, e1, e2, r, q, e3, e4, kb _ _ e2 e5⟩) (fun h2 q => q _ _ gS) (by
   intro x hx h2 k2 l2
   obtain ⟨n, hn, rfl⟩ := List.mem_iff_getElem.mp hx
   have hn' : n < rs.length := by omega
   obtain ⟨p, q, ey, gp, gq⟩ := w.at_ n _ _ (List.getElem?_eq_getElem hn) (List.getElem?_eq_getElem hn')
   have f8 := G.f _ (List.getElem_mem hn')
   have u1 := G.u1
   rw [ey]
   generalize rs[n] = r at gp gq f8
   have f1 := f8.g1
   have gp2 := k2 _ _ gp
   have gq2 := k2 _ _ gq
   simp! [Ja9, Jnd, gp2, atI_5, Jnj, gq2]
   generalize hs' : r.2.map tupH = hs
   refine WR.mono (Jvs (k := k) (hs := hs) f8.nm (by omega) f8.l1 f8.t1 (fun h1 => Jm4 f8.d1 f8.d2) fun h1 z => hs' ▸ Jju (z _ _ (by rw [hs']; exact Jaw)) f8.ok) ?_
   rintro _ h3 ⟨rfl, g, rfl⟩
   refine ⟨rfl, (Ex.one _ _).trans (.cons _ _ _), fun p' ep => ?_⟩
   cases ep
   exact ⟨_, rfl, by rw [List.length_append]; omega, r, q, gp, gq, by rw [<- hs']; exact J2⟩)
 obtain ⟨v, h3, ev, rfl, vs, gv, lv, k3, dv⟩ := X
 refine ⟨h3, ev, vs, gv, ⟨by omega, fun i v r a b => ?_⟩, k3⟩
 obtain ⟨p, q, ey, gp, gq⟩ := w.get b
 obtain ⟨W, e1, _, r', q', e3, e4, e5⟩ := dv i _ _ ey a p rfl
 rw [gp] at e3
 have e3 : pl r q = pl r' q' := by simpa using e3
 exact ⟨W, e1, by rw [wo_eq e3 gq e4]; exact e5⟩
end
end LW
namespace LW
open PySem L2 L3 L4
noncomputable def upF (F : List (Nat × Hd)) : Int := match Jtf kfV .non (F.map prV) with
 | .non => 0
 | v => kfV v
theorem J0d (F : List (Nat × Hd)) : UpIs F (upF F) := by
 unfold upF
 rcases Jvc F with ⟨e1, e2⟩ | ⟨p, hp, e2, al⟩
 ·rw [e2]
  exact .inl ⟨e1, rfl⟩
 ·rw [e2]
  exact .inr ⟨p, hp, rfl, al⟩
noncomputable abbrev FF (rs : List RH) (a : Nat) : List (Nat × Hd) := fds (stB (rs.map (·.2)) a) (a + 1) ((rs.map (·.2)).drop (a + 1))
noncomputable def mx1 (s : Int) : Int := if s > 1 then s else 1
noncomputable def J1m (rs : List RH) (v : IV) : IV := match v with
 | .str x => fV (fstK (rs.map (·.2)) x)
 | _ => .non
noncomputable def Jjq (rs : List RH) (xs : List Str) : List IV := (xs.map IV.str).map (J1m rs)
noncomputable def tSp (rs : List RH) (s : Int) : List IV := [.int (dem (rs.map (·.1)) s), .int (ask (rs.map (·.1)) s)]
noncomputable def ldV (rs : List RH) (a : Nat) (v : IV) : IV := match v with
 | .int s => .int (upF (FF rs a) + (rs.getD a rd).1.len + Jzc (rs.take a) (mx1 s))
 | _ => .non
noncomputable def tAt (rs : List RH) (sp : List Int) (a : Nat) : List IV := .int (upF (FF rs a)) :: (sp.map IV.int).map (ldV rs a)
noncomputable def Jr7 (rs : List RH) (sp : List Int) (xs : List Str) : List IV := Jjq rs xs ++ (sp.map (tSp rs)).flatten ++ ((List.range rs.length).map (tAt rs sp)).flatten
noncomputable def Sc (v : IV) : Prop := v = .non ∨ ∃ x, v = .int x
theorem Jvd (rs : List RH) (sp : List Int) (xs : List Str) : ∀ v ∈ Jr7 rs sp xs, Sc v := fun v hv => by
 unfold Jr7 at hv
 rcases List.mem_append.mp hv with hv | hv
 ·rcases List.mem_append.mp hv with hv | hv
  ·unfold Jjq at hv
   obtain ⟨w, hw, rfl⟩ := List.mem_map.mp hv
   obtain ⟨x, _, rfl⟩ := List.mem_map.mp hw
   show Sc (fV (fstK (rs.map (·.2)) x))
   cases fstK (rs.map (·.2)) x with
   | none => exact .inl rfl
   | some i => exact .inr ⟨_, rfl⟩
  ·obtain ⟨l, hl, hv⟩ := List.mem_flatten.mp hv
   obtain ⟨s, _, rfl⟩ := List.mem_map.mp hl
   unfold tSp at hv
   simp only [List.mem_cons, List.not_mem_nil, or_false] at hv
   rcases hv with rfl | rfl
   ·exact .inr ⟨_, rfl⟩
   ·exact .inr ⟨_, rfl⟩
 ·obtain ⟨l, hl, hv⟩ := List.mem_flatten.mp hv
  obtain ⟨a, _, rfl⟩ := List.mem_map.mp hl
  unfold tAt at hv
  rcases List.mem_cons.mp hv with rfl | hv
  ·exact .inr ⟨_, rfl⟩
  ·obtain ⟨w, hw, rfl⟩ := List.mem_map.mp hv
   obtain ⟨s, _, rfl⟩ := List.mem_map.mp hw
   exact .inr ⟨_, rfl⟩
noncomputable def dI (v : IV) : PyData := match v with
 | .int x => .int x
 | _ => .none
theorem Ex.put {h h' : IH} (x : Ex h h') {i : Nat} (hi : h.length <= i) (o : IO) : Ex h (h'.set i o) := by
 obtain ⟨g, rfl⟩ := x
 rw [List.set_append_right _ _ hi]
 exact ⟨_, rfl⟩
section
variable {k : Nat} {h : IH}
theorem J0i {i : Nat} {L : List IV} (hi : h[i]? = some (.lst L)) (q : ∀ v ∈ L, Sc v) : toD h 6 (.ref i) = some (.list (L.map dI)) /\ PyData.canLay0 (.list (L.map dI)) = true := by
 refine ⟨?_, ?_⟩
 ·rw [Jxt hi, Ju0 (g := dI) fun v hv => ?_]
  ·rfl
  ·rcases q v hv with rfl | ⟨x, rfl⟩ <;> rfl
 ·rw [PyData.canLay0]
  refine Jz0 fun v hv => ?_
  rcases q v hv with rfl | ⟨x, rfl⟩
  ·show PyData.canLay0 .none = true
   rw [PyData.canLay0]
  ·show PyData.canLay0 (.int x) = true
   rw [PyData.canLay0]
theorem ne_sc {i j : Nat} {L : List IV} (hi : h[i]? = some (.lst L)) (hj : h[j]? = some (.lst L)) (q : ∀ v ∈ L, Sc v) : cNe (.ref i) (.ref j) h = .ok (.bl false) h :=
 Jz8 (J0i hi q).1 (J0i hj q).1 (J0i hi q).2
theorem eq_sc {i j : Nat} {L : List IV} (hi : h[i]? = some (.lst L)) (hj : h[j]? = some (.lst L)) (q : ∀ v ∈ L, Sc v) : cEq (.ref i) (.ref j) h = .ok (.bl true) h := by
 have e3 : Jmn (.ref i) (.ref j) h = some true := by
  unfold Jmn
  rw [(J0i hi q).1, (J0i hj q).1]
  dsimp only
  rw [if_pos ⟨(J0i hi q).2, (J0i hj q).2⟩, Jok _ (J0i hi q).2]
 unfold cEq
 have e4 : Jl9 (.ref i) (.ref j) = none := rfl
 rw [e4]
 dsimp only
 rw [e3]
theorem Jwe (i j : Int) {Q : IV -> IH -> Prop} : WR (maxI (.int i) (.int j) h) Q = Q (.int (if j > i then j else i)) h := rfl
structure FitS (sp : List Int) (rs : List RH) : Prop where
 g : ∀ r ∈ rs, 0 < r.1.gap /\ r.1.gap.natAbs.log2 < 9000
 c : ∀ s ∈ sp, ∀ r ∈ rs, Jat (cmn s r.1) r.1.len /\ Jat (dm s r.1) r.1.len /\ Jat (cmn (mx1 s) r.1) r.1.len
theorem J2v {D P T : Nat} {vs : List IV} {rs : List RH} {sp : List Int} {xs : List Str} (Y : Dty h D vs rs) (h0 : h[0]? = some (.tab "longest_hold")) (hP : h[P]? = some (.lst (sp.map .int))) (hT : h[T]? = some (.lst (xs.map .str))) (lp : sp.length <= 10) (lx : xs.length <= 10) (fit : FitS sp rs) :
  WR (Jz (k + 8) [.ref D, .ref P, .ref T] h) fun v h' => ∃ i, v = .ref i /\ h'[i]? = some (.lst (Jr7 rs sp xs)) /\ Ex h h' := by
 have hb := Jd
 have few := Y.few
 have wl := Y.w.len
 rw [Jry]
 simp! [Jf9]
 refine WR.mono (Jak (h := h) (xs := xs.map IV.str) (chk := fun h' => h'[T]? = some (.lst (xs.map IV.str))) (f := J1m rs) ?_ (by rw [List.length_map]; omega) (fun h2 q => q _ _ hT) ?_) ?_
 ·simp! [Jb1, hT]
 ·intro v hv h2 q
  obtain ⟨x, _, rfl⟩ := List.mem_map.mp hv
  simp only [List.map_cons, List.map_nil, List.getElem?_cons_succ, List.getElem?_cons_zero, Option.join_some]
  simp! [Jg3]
  refine WR.mono (Jti (k := k + 4) (x := x) (q _ _ Y.d) (Y.w.kp q) few fun r hr => (Y.six r hr).1) ?_
  rintro _ h3 ⟨rfl, x3⟩
  exact ⟨rfl, x3⟩
 rintro _ _ ⟨rfl, g, rfl⟩
 have e1 : (xs.map IV.str).map (J1m rs) = Jjq rs xs := rfl
 rw [e1]
 have lc : (Jjq rs xs).length = xs.length := by simp [Jjq]
 have x1 : Ex h (h ++ L3.IO.lst (Jjq rs xs) :: g) := .cons _ _ _
 have g1 : (h ++ L3.IO.lst (Jjq rs xs) :: g)[h.length]? = some (.lst (Jjq rs xs)) := J2
 have l1 : h.length <= h.length := Nat.le_refl _
 generalize hI : h.length = I at g1
 generalize h ++ L3.IO.lst (Jjq rs xs) :: g = h1 at x1 g1
 simp! [Jj1, Jb1, x1.get hP]
 refine Jdn (fun n σ h' => Ex h h' /\ ∃ (i : Nat) (c : Option IV), σ = [some (.ref D), some (.ref P), some (.ref T), some (.ref i), c, none] /\ h.length <= i /\ h'[i]? = some (.lst (Jjq rs xs ++ ((sp.take n).map (tSp rs)).flatten))) (fun _ _ _ q => q.1.get hP) ?_ ?_ ⟨x1, I, none, rfl, by omega, by simpa using g1⟩
 ·rintro n hn _ h2 ⟨x2, i, c, rfl, li, gi⟩
  rw [List.length_map] at hn
  rw [List.getElem_map, List.take_succ_eq_append_getElem hn, List.map_append, List.flatten_append]
  have hs := fit.c _ (List.getElem_mem hn)
  generalize sp[n] = s at hs
  have ll : ∀ l : List Int, ((l.map (tSp rs)).flatten).length = 2 * l.length := fun l => by
   induction l with
   | nil => rfl
   | cons a l ih => rw [List.map_cons, List.flatten_cons, List.length_append, ih]; simp [tSp]; omega
  have lt := ll (sp.take n)
  rw [List.length_take] at lt
  generalize ((sp.take n).map (tSp rs)).flatten = M at gi lt
  simp! [Jid]
  have y2 := Y.kp x2.kp
  refine WR.mono (Jv0 (k := k + 4) (s := s) y2.d y2.w.w (by rw [List.length_map]; omega) fun d hd => ?_) ?_
  ·obtain ⟨r, hr, rfl⟩ := List.mem_map.mp hd
   exact ⟨(fit.g r hr).1, (fit.g r hr).2, (hs r hr).2.1⟩
  rintro _ h3 ⟨rfl, x3⟩
  have y3 := y2.kp x3.kp
  refine WR.mono (Jy2 (k := k + 4) (s := s) y3.d y3.w.w (by rw [List.length_map]; omega) fun d hd => ?_) ?_
  ·obtain ⟨r, hr, rfl⟩ := List.mem_map.mp hd
   exact ⟨(fit.g r hr).1, (fit.g r hr).2, (hs r hr).1⟩
  rintro _ h4 ⟨rfl, x4⟩
  have gi4 := x4.get (x3.get gi)
  simp only [List.length_cons, List.length_nil, Jwb]
  refine ⟨by omega, _, grow gi4, _, Jaw, by rw [List.length_append]; simp; omega, ?_⟩
  have x5 := ((x2.trans x3).trans x4).trans ((Ex.one h4 (L3.IO.lst [IV.int (dem (rs.map (·.1)) s), IV.int (ask (rs.map (·.1)) s)])).trans (Ex.one _ (L3.IO.lst (Jjq rs xs ++ M ++ [IV.int (dem (rs.map (·.1)) s), IV.int (ask (rs.map (·.1)) s)]))))
  have l5 := (x2.trans x3).trans x4 |>.len
  refine ⟨x5, _, _, rfl, by rw [List.length_append]; omega, ?_⟩
  rw [<- List.append_assoc]
  exact Jaw
 ·rintro _ h2 ⟨x2, i, c, rfl, li, gi⟩
  rw [List.length_map, List.take_of_length_le (Nat.le_refl _)] at gi
  have y2 := Y.kp x2.kp
  simp! [Jj2]
  rw [Jbt (i := D) (h1 := h2) rfl y2.d dls (Jdi _)]
  simp! [Jhr y2.d]
  refine ⟨by omega, ?_⟩
  have ll : ∀ l : List Int, ((l.map (tSp rs)).flatten).length = 2 * l.length := fun l => by
   induction l with
   | nil => rfl
   | cons a l ih => rw [List.map_cons, List.flatten_cons, List.length_append, ih]; simp [tSp]; omega
  have lA : (Jjq rs xs ++ (sp.map (tSp rs)).flatten).length <= 40 := by rw [List.length_append, ll]; omega
  unfold Jr7
  generalize Jjq rs xs ++ (sp.map (tSp rs)).flatten = A at gi lA
  refine Jdn (fun n σ h' => Ex h h' /\ ∃ (i : Nat) (c d : Option IV), σ = [some (.ref D), some (.ref P), some (.ref T), some (.ref i), c, d] /\ h.length <= i /\ h'[i]? = some (.lst (A ++ ((List.range n).map (tAt rs sp)).flatten))) (fun _ _ _ _ => trivial) ?_ ?_ ⟨x2, i, c, none, rfl, li, by simpa using gi⟩
  ·rintro n hn _ h3 ⟨x3, i3, c3, d3, rfl, li3, gi3⟩
   rw [Jg1]
   rw [Jas] at hn
   have hnr : n < rs.length := by omega
   have en : (0 : Int) + (n : Int) = n := by omega
   rw [en, List.range_succ, List.map_append, List.flatten_append]
   have lf : ∀ m : Nat, (((List.range m).map (tAt rs sp)).flatten).length = (1 + sp.length) * m := fun m => by
    induction m with
    | zero => rfl
    | succ m ih => rw [List.range_succ, List.map_append, List.flatten_append, List.length_append, ih]; simp [tAt]; rw [Nat.mul_add]; omega
   have lB : (A ++ ((List.range n).map (tAt rs sp)).flatten).length <= 300 := by
    rw [List.length_append, lf]
    have : (1 + sp.length) * n <= 11 * 12 := Nat.mul_le_mul (by omega) (by omega)
    omega
   generalize ((List.range n).map (tAt rs sp)).flatten = M at gi3 lB
   have y3 := Y.kp x3.kp
   simp! [Jhp]
   rw [Jjl (i := i3) (h1 := h3) rfl gi3 Jll]
   simp! [true_and]
   refine WR.mono (Jm7 (k := k + 3) y3 hnr (x3.get h0)) ?_
   rintro _ h4 ⟨⟨z, rfl, up⟩, x4⟩
   have ez := up.uniq (J0d _)
   subst ez
   simp only [Jlk, x4.get gi3]
   refine ⟨_, rfl, by omega, ?_⟩
   have x34 := x3.trans x4
   have x5 := Ex.put x34 li3 (L3.IO.lst (A ++ M ++ [IV.int (upF (FF rs n))]))
   have g5 : (h4.set i3 (L3.IO.lst (A ++ M ++ [IV.int (upF (FF rs n))])))[i3]? = some (.lst (A ++ M ++ [IV.int (upF (FF rs n))])) := by
    rw [List.getElem?_set_self (Jhk (x4.get gi3))]
   generalize h4.set i3 (L3.IO.lst (A ++ M ++ [IV.int (upF (FF rs n))])) = h5 at x5 g5
   have y5 := Y.kp x5.kp
   refine WR.mono (Jak (h := h5) (xs := sp.map IV.int) (chk := fun h' => h'[P]? = some (.lst (sp.map IV.int))) (f := ldV rs n) ?_ (by rw [List.length_map]; omega) (fun h6 q => q _ _ (x5.get hP)) ?_) ?_
   ·simp! [Jb1, x5.get hP]
   ·intro v hv h6 q
    obtain ⟨s, hs, rfl⟩ := List.mem_map.mp hv
    have k6 : Kp h h6 := fun j o e => q j o (x5.get e)
    simp only [List.map_cons, List.map_nil, List.getElem?_cons_succ, List.getElem?_cons_zero, Option.join_some]
    simp! [Jg5, Jwe]
    have Z : ∃ z h', UpIs (fds (stB (rs.map (·.2)) n) (n + 1) ((rs.map (·.2)).drop (n + 1))) z /\ Jm6 (k + 7) [.ref D, .int (n : Int), .int (if s > 1 then s else 1)] h6 = .ok (.int (z + (rs[n]).1.len + Jzc (rs.take n) (mx1 s))) h' /\ Ex h6 h' := J2e (k := k + 2) (s := mx1 s) (Y.kp k6) hnr (k6 _ _ h0) fun r hr => ⟨(fit.g r hr).1, (fit.g r hr).2, (fit.c s hs r hr).2.2⟩
    rw [show WR (on2 maxI [IV.int 1, IV.int s] h6) = WR (maxI (.int 1) (.int s) h6) from rfl, Jwe]
    generalize Jm6 (k + 7) [.ref D, .int (n : Int), .int (if s > 1 then s else 1)] h6 = rF at Z ⊢
    obtain ⟨z, h7, up', rfl, x7⟩ := Z
    have ez := up'.uniq (J0d _)
    subst ez
    rw [Jb0]
    refine ⟨?_, x7⟩
    show IV.int _ = IV.int _
    rw [List.getD_eq_getElem?_getD, List.getElem?_eq_getElem hnr]
    rfl
   ·rintro _ _ ⟨rfl, g6, rfl⟩
    rw [Jwb]
    refine ⟨_, grow g5, _, J2, by rw [List.length_append, List.length_map, List.length_map, List.length_singleton]; omega, ?_⟩
    have x7 := (x5.trans (Ex.cons h5 (L3.IO.lst ((sp.map IV.int).map (ldV rs n))) g6)).trans (Ex.one _ (L3.IO.lst (A ++ M ++ [IV.int (upF (FF rs n))] ++ (sp.map IV.int).map (ldV rs n))))
    have l7 := x5.len
    refine ⟨x7, _, _, _, rfl, by rw [List.length_append]; omega, ?_⟩
    have e7 : A ++ (M ++ ([n].map (tAt rs sp)).flatten) = A ++ M ++ [IV.int (upF (FF rs n))] ++ (sp.map IV.int).map (ldV rs n) := by simp [tAt]
    rw [e7]
    exact Jaw
  ·rintro _ h3 ⟨x3, i3, c3, d3, rfl, li3, gi3⟩
   rw [Jas, show ((vs.length : Int) - 0).toNat = rs.length by omega] at gi3
   simp! [Jj6]
   exact ⟨gi3, x3⟩
end
end LW
namespace LW
open PySem L2 L3 L4
section
variable {k : Nat} {h : IH}
theorem Jy5 {ns : List Int} {unit : Int} {name : Str} {TT : Nat} {ws : List Str} (hu : 1 <= unit) (hu2 : unit <= 10 ^ 40) (j : Nat) (hn : IsNm name) (gT : h[TT]? = some (.lst (ws.map .str))) (lw : 2 <= ws.length) (hw : ∀ x ∈ ws, IsNm x) :
  WR (Jd6 (k + 2) [.rol (ns.map .int), .int j, .int unit, .str name, .ref TT] h) fun v h' => ∃ r p q, v = .ref p /\ h.length <= p /\ h.length <= q /\ Ex h h' /\ h'[p]? = some (.lst (pl r q)) /\ h'[q]? = some (.lst (r.2.map tupH)) /\ F8 unit r /\ r.1.name = name /\ r.1.len <= 2 * 10 ^ 40 := by
 have hb := Jd
 rw [Jpm]
 have cc := fun h : IH => Jes (k := k) (h := h) ns (3 + (j : Int)) (by omega)
 generalize ns.getD (3 + (j : Int)).toNat 0 = c at cc
 have m1 : Jat unit (1 + c % 8) := .inr (.inl (by omega))
 have m2 : Jat (c / 3) 48271 := .inr (.inl (by decide))
 have m3 : Jat (c / 5) 69621 := .inr (.inl (by decide))
 have m4 : Jat (c / 7) 16807 := .inr (.inl (by decide))
 have l8 : (Int.natAbs 8).log2 < 9000 := by decide
 have l3 : (Int.natAbs 3).log2 < 9000 := by decide
 have l5 : (Int.natAbs 5).log2 < 9000 := by decide
 have l7 : (Int.natAbs 7).log2 < 9000 := by decide
 have l2 : (Int.natAbs 2).log2 < 9000 := by decide
 have l11 : (Int.natAbs 11).log2 < 9000 := by decide
 have l13 : (Int.natAbs 13).log2 < 9000 := by decide
 simp! [Jeo, Jhn, cc, m1, l8, show (0 : Int) < 8 by decide, show (0 : Int) < unit by omega]
 obtain ⟨g, eg, g1, g2⟩ : ∃ g, unit * (1 + c % 8) + c / 8 % unit = g /\ unit <= g /\ g < 9 * unit := by
  have a1 := Int.emod_nonneg (c / 8) (b := unit) (by omega)
  have a2 := Int.emod_lt_of_pos (c / 8) (b := unit) (by omega)
  have b1 : unit * 1 <= unit * (1 + c % 8) := Int.mul_le_mul_of_nonneg_left (by omega) (by omega)
  have b2 : unit * (1 + c % 8) <= unit * 8 := Int.mul_le_mul_of_nonneg_left (by omega) (by omega)
  exact ⟨_, rfl, by omega, by omega⟩
 rw [eg]
 clear eg m1
 have m5 : Jat 2 g := .inl (by decide)
 have b1 := Int.emod_nonneg (c / 3 * 48271) (b := g) (by omega)
 have b2 := Int.emod_lt_of_pos (c / 3 * 48271) (b := g) (by omega)
 simp! [Ji7, Jjb, m2, m3, m5, l3, l5, show (0 : Int) < 3 by decide, show (0 : Int) < 5 by decide, show (0 : Int) < 2 by decide, show (0 : Int) < g by omega, show (0 : Int) < 2 * g by omega, Jnd, Jaw, List.length_cons, List.length_nil]
 obtain ⟨lt, elt, t1, t2⟩ : ∃ x : Int, atI [IV.int 0, IV.int (c / 5 * 69621 % (2 * g))] (c / 3 % 2) = some (.int x) /\ 0 <= x /\ x < 2 * g := by
  have c1 := Int.emod_nonneg (c / 5 * 69621) (b := 2 * g) (by omega)
  have c2 := Int.emod_lt_of_pos (c / 5 * 69621) (b := 2 * g) (by omega)
  have : c / 3 % 2 = 0 ∨ c / 3 % 2 = 1 := by omega
  rcases this with q | q <;> rw [q]
  ·exact ⟨_, Jjp, by omega, by omega⟩
  ·exact ⟨_, Jje, by omega, by omega⟩
 refine ⟨by omega, _, elt, ?_⟩
 have t40 : (0 : Int) < 10 ^ 40 := by decide +kernel
 have tn : Int.toNat 40 = 40 := rfl
 generalize hd : 1 + c / 3 * 48271 % g = due
 have l14 : (Int.natAbs 14).log2 < 9000 := by decide
 have l16 : (Int.natAbs 16).log2 < 9000 := by decide
 have l32 : (Int.natAbs 32).log2 < 9000 := by decide
 have m13 : Jat (c / 13) 48271 := .inr (.inl (by decide))
 simp! [Jin, tn, t40, m4, l7, show (0 : Int) < 7 by decide]
 refine ⟨by decide, ?_⟩
 have q1 := Int.emod_nonneg (c / 7 * 16807) (b := 10 ^ 40) (by decide +kernel)
 have q2 := Int.emod_lt_of_pos (c / 7 * 16807) t40
 have big : (2000000 : Int) <= 10 ^ 40 := by decide +kernel
 obtain ⟨len0, el, le1, le2⟩ : ∃ len : Int, 1 + c / 7 * 16807 % 10 ^ 40 = len /\ 1 <= len /\ len <= 2 * 10 ^ 40 := ⟨_, rfl, by generalize (10 : Int) ^ 40 = y at *; omega, by generalize (10 : Int) ^ 40 = y at *; omega⟩
 rw [el]
 have x1 : Ex h (h ++ [L3.IO.lst [IV.int 0, IV.int (c / 5 * 69621 % (2 * g))]]) := .one _ _
 generalize h ++ [L3.IO.lst [IV.int 0, IV.int (c / 5 * 69621 % (2 * g))]] = h1 at x1
 have ln := x1.len
 have fin : ∀ (len : Int) {N : ISt -> IH -> Prop}, 1 <= len -> len <= 2 * 10 ^ 40 -> WS (Jep (k + 1) [some (.rol (ns.map .int)), some (.int (j : Int)), some (.int unit), some (.str name), some (.ref TT), some (.int c), some (.int g), some (.int due), some (.int lt), some (.int len), none, none] h1) N
   fun v h' => ∃ r p q, v = .ref p /\ h.length <= p /\ h.length <= q /\ Ex h h' /\ h'[p]? = some (.lst (pl r q)) /\ h'[q]? = some (.lst (r.2.map tupH)) /\ F8 unit r /\ r.1.name = name /\ r.1.len <= 2 * 10 ^ 40 := by
  intro len N le1 le2
  simp! [Jep, Jiw, Jhy, l16, show (0 : Int) < 16 by decide, show (0 : Int) < 2 by decide, decide_eq_true_eq, decide_eq_false_iff_not, List.length_cons, List.length_nil, Nat.zero_le]
  have base : ∀ hs : List Hd, HsOk len hs -> F8 unit (⟨⟨name, g, len, due, lt⟩, hs⟩ : RH) := fun hs ok => ⟨hn, g1, g2, le1, by show 1 <= due; omega, by show due <= g; omega, t1, t2, ok⟩
  have non := base [] ⟨by simp, by simp, fun m n hm hn => absurd hn (by simp)⟩
  refine ⟨fun _ => ⟨fun hl => ?_, fun _ => ?_⟩, fun _ => ?_⟩
  ·have s0 := Int.emod_nonneg (c / 11) (b := len - 1) (by omega)
   have s1 := Int.emod_lt_of_pos (c / 11) (b := len - 1) (by omega)
   obtain ⟨s, es, s0, s1⟩ : ∃ s, c / 11 % (len - 1) = s /\ 0 <= s /\ s < len - 1 := ⟨_, rfl, s0, s1⟩
   have e0 := Int.emod_nonneg (c / 13 * 48271) (b := len - 1 - s) (by omega)
   have e1 := Int.emod_lt_of_pos (c / 13 * 48271) (b := len - 1 - s) (by omega)
   have at_w : ∃ x ∈ ws, atI (ws.map IV.str) (c / 32 % 2) = some (.str x) := by
    have hn : (c / 32 % 2).toNat < ws.length := by omega
    exact ⟨ws[(c / 32 % 2).toNat], List.getElem_mem hn, Jrj (by omega) (by rw [List.getElem?_map, List.getElem?_eq_getElem hn]; rfl)⟩
   obtain ⟨w, hww, ew⟩ := at_w
   have gT1 : (h1 ++ [L3.IO.lst []])[TT]? = some (.lst (ws.map .str)) := grow (x1.get gT)
   simp! [Jnd, gT1, ew, es, l11, l13, l32, m13, show (0 : Int) < 11 by decide, show (0 : Int) < 13 by decide, show (0 : Int) < 32 by decide, show (0 : Int) < 2 by decide, show (0 : Int) < len - 1 by omega, show (0 : Int) < len - 1 - s by omega, List.length_cons, List.length_nil]
   obtain ⟨z, hz, z0, z1⟩ : ∃ z, s + 1 + c / 13 * 48271 % (len - 1 - s) = z /\ s < z /\ z < len := ⟨_, rfl, by omega, by omega⟩
   rw [hz]
   have one := base [(w, s, z)] ⟨by simp, fun a ha => by
    rw [List.mem_singleton] at ha
    subst ha
    exact ⟨hw w hww, s0, z0, z1⟩, fun m n hm hn => absurd hn (by simp; omega)⟩
   exact ⟨by omega, by omega, by omega, ⟨⟨name, g, len, due, lt⟩, [(w, s, z)]⟩, _, List.length (h1 ++ [L3.IO.lst []]), rfl, by simp; omega, by simp; omega, x1.trans ((Ex.one _ _).trans ((Ex.one _ _).trans (.one _ _))), Jaw, grow Jaw, one, rfl, le2⟩
  ·exact ⟨by omega, ⟨⟨name, g, len, due, lt⟩, []⟩, _, List.length h1, rfl, by rw [List.length_append]; omega, ln, x1.trans ((Ex.one _ _).trans (.one _ _)), Jaw, grow Jaw, non, rfl, le2⟩
  ·exact ⟨by omega, ⟨⟨name, g, len, due, lt⟩, []⟩, _, List.length h1, rfl, by rw [List.length_append]; omega, ln, x1.trans ((Ex.one _ _).trans (.one _ _)), Jaw, grow Jaw, non, rfl, le2⟩
 simp! [Jij, l7, l14, show (0 : Int) < 7 by decide, show (0 : Int) < 2 by decide, show (0 : Int) < 14 by decide, show (0 : Int) < 1000003 by decide, decide_eq_true_eq, decide_eq_false_iff_not]
 exact ⟨fun _ => fin _ (by omega) (by generalize (10 : Int) ^ 40 = y at *; omega), fun _ => fin _ le1 le2⟩
noncomputable def DS (c unit : Int) (i0 : Nat) (x y : IV) (h' : IH) : Prop := ∀ j : Nat, x = IV.int (j : Int) -> ∃ (r : RH) (p q : Nat), y = IV.ref p /\ p ≠ i0 /\ q ≠ i0 /\ h'[p]? = some (.lst (pl r q)) /\ h'[q]? = some (.lst (r.2.map tupH)) /\ F8 unit r /\ r.1.name = nm c j /\ r.1.len <= 2 * 10 ^ 40
theorem J08 {ns : List Int} {unit c : Int} {m NM : Nat} {a b d e f g i j l o u v : Option IV} (hu1 : 1 <= unit) (hu2 : unit <= 10 ^ 40) (hm : m <= 7) (gN : h[NM]? = some (.lst ((List.range 9).map fun j => .str (nm c j)))) :
  ∃ h', Jaj (iRg Jbp (Ja (eVar 1) aNil)) 1 [3, 0, 2] (gNm 0) Jav (Jfp (k + 2)) [some (.rol (ns.map .int)), some (.int (m : Int)), some (.int unit), some (.ref NM), a, b, d, e, f, g, i, j, l, o, u, v] h = .ok (.ref h.length) h' /\
   ∃ ys rs, h'[h.length]? = some (.lst ys) /\ RowP h' ys rs /\ Gd unit rs /\ rs.length = m /\ Kp h h' /\ ∀ r ∈ rs, r.1.len <= 2 * 10 ^ 40 := by
 have hb := Jd
 have X := @J4x h h (iRg Jbp (Ja (eVar 1) aNil)) (Jfp (k + 2)) [3, 0, 2] [some (.rol (ns.map .int)), some (.int (m : Int)), some (.int unit), some (.ref NM), a, b, d, e, f, g, i, j, l, o, u, v] (rngI 0 (m : Int)) (fun _ => True) (DS c unit h.length)
  (by
   simp! [true_and]
   exact ⟨by omega, by omega⟩) (by rw [Jas]; omega) (by
   intro x y h2 h3 kb dd j e
   obtain ⟨r, p, q, e1, e2, e3, e4, e5, e6, e7⟩ := dd j e
   exact ⟨r, p, q, e1, e2, e3, kb _ _ e2 e4, kb _ _ e3 e5, e6, e7⟩) (fun _ _ => trivial) (by
   intro x hx h2 k2 l2
   obtain ⟨n, hn, rfl⟩ := List.mem_iff_getElem.mp hx
   rw [Jg1]
   rw [Jas] at hn
   have hn7 : n < 9 := by omega
   have ea : atI ((List.range 9).map fun j => IV.str (nm c j)) (n : Int) = some (.str (nm c n)) := Jc0 (by rw [List.getElem?_map, List.getElem?_range hn7]; rfl)
   simp only [List.map_cons, List.map_nil, List.getElem?_cons_succ, List.getElem?_cons_zero, Option.join_some]
   rw [show (0 + (n : Int)) = (n : Int) by omega]
   simp! [Jfp, Jnd, k2 _ _ gN, ea, Js4]
   rw [show (some (7 : Int)) = some ((7 : Nat) : Int) from rfl, Jno]
   have eW : ((List.range 9).map fun j => IV.str (nm c j)).drop 7 = [nm c 7, nm c 8].map IV.str := rfl
   rw [eW]
   refine WR.mono (Jy5 (ws := [nm c 7, nm c 8]) hu1 hu2 n (Jrb c n) Jaw (by simp) (by
    intro x hx
    simp only [List.mem_cons, List.not_mem_nil, or_false] at hx
    rcases hx with rfl | rfl
    ·exact Jrb c 7
    ·exact Jrb c 8)) ?_
   rintro _ h3 ⟨r, p, q, rfl, h1, h2', x3, g1, g2, f8, en, lb⟩
   rw [List.length_append] at h1 h2'
   refine ⟨(Ex.one _ _).trans x3, fun j ej => ⟨r, p, q, rfl, by omega, by omega, g1, g2, f8, ?_, lb⟩⟩
   have : (n : Int) = j := by simpa using ej
   rw [show j = n by omega]
   exact en)
 obtain ⟨v, h1, ev, rfl, ys, gS, ly, kS, dS⟩ := X
 rw [Jas] at ly
 have lm : ys.length = m := by omega
 obtain ⟨rs, lr, hr⟩ := Jl8 (P := fun i (r : RH) => ∃ p q, ys[i]? = some (.ref p) /\ h1[p]? = some (.lst (pl r q)) /\ h1[q]? = some (.lst (r.2.map tupH)) /\ F8 unit r /\ r.1.name = nm c i /\ r.1.len <= 2 * 10 ^ 40) m fun i hi => by
  have xi : (rngI 0 (m : Int))[i]? = some (.int (i : Int)) := by
   have hr : i < (rngI 0 (m : Int)).length := by rw [Jas]; omega
   rw [List.getElem?_eq_getElem hr, Jg1]
   simp
  have yi : ys[i]? = some ys[i] := List.getElem?_eq_getElem (by omega)
  obtain ⟨r, p, q, e1, _, _, e4, e5, e6, e7⟩ := dS i _ _ xi yi i rfl
  exact ⟨r, p, q, by rw [yi, e1], e4, e5, e6, e7⟩
 refine ⟨h1, ev, ys, rs, gS, ⟨by omega, fun i y r a b => ?_⟩, ⟨hu1, hu2, by omega, fun r hr' => ?_, ?_⟩, lr, kS, fun r hr' => ?_⟩
 ·obtain ⟨p, q, e1, e2, e3, _, _, _⟩ := hr i r b
  rw [e1] at a
  cases a
  exact ⟨p, q, rfl, e2, e3⟩
 ·obtain ⟨i, ei⟩ := List.mem_iff_getElem?.mp hr'
  obtain ⟨p, q, _, _, _, e4, _⟩ := hr i r ei
  exact e4
 ·have e : (rs.map fun r => r.1.name) = (List.range m).map (nm c) := by
   refine List.ext_getElem (by simp [lr]) fun i h1 h2 => ?_
   rw [List.getElem_map, List.getElem_map, List.getElem_range]
   rw [List.length_map] at h1
   obtain ⟨p, q, _, _, _, _, e5, _⟩ := hr i _ (List.getElem?_eq_getElem h1)
   exact e5
  rw [e, List.Nodup, List.pairwise_map]
  refine (List.nodup_range (n := m)).imp_of_mem fun {a b} ha hb hne e => hne ?_
  exact J25 (by have := List.mem_range.mp ha; omega) (by have := List.mem_range.mp hb; omega) e
 ·obtain ⟨i, ei⟩ := List.mem_iff_getElem?.mp hr'
  obtain ⟨p, q, _, _, _, _, _, e6⟩ := hr i r ei
  exact e6
theorem Jsn {S : Nat} {ys : List IV} {rs : List RH} {unit : Int} (G : Gd unit rs) (gS : h[S]? = some (.lst ys)) (w : RowP h ys rs) :
  WR (Jbi (k + 6) [.ref S] h) fun v h' => ∃ D, v = .ref D /\ IsDu h' D rs /\ Kp h h' := by
 rw [Jr1]
 simp! [Jfb]
 have Y := @Jy8 k h S ys rs unit G gS w
 generalize Jaj (iAny (eVar 0)) 1 [] (gNm 0) Jav (Ja9 (k + 5)) [some (.ref S)] h = rc at Y ⊢
 obtain ⟨h3, ev, vs, gv, wA, k3⟩ := Y
 rw [ev, Jb0]
 clear ev
 refine WR.mono (J1o (k := k + 2) gv wA G) ?_
 rintro _ h4 ⟨rfl, x4, d4⟩
 exact ⟨rfl, d4, k3.trans x4.kp⟩
end
end LW
namespace LW
open PySem L2 L3 L4
theorem logB {x : Int} (h0 : 0 <= x) (h : x <= 1000 * 10 ^ 40) : x.natAbs.log2 < 1048576 := by
 refine Jnh (b := 1000 * 10 ^ 40) ?_ (by decide +kernel)
 have e : ((10 ^ 40 : Nat) : Int) = 10 ^ 40 := by decide +kernel
 generalize (10 ^ 40 : Int) = y at *
 generalize (10 ^ 40 : Nat) = z at *
 omega
theorem rup_b {x g : Int} (hg : 0 < g) (hx : 0 <= x) : 0 <= rup x g /\ rup x g <= x + g := by
 unfold rup
 have := Int.ediv_le_self (a := x + g - 1) g (by omega)
 exact ⟨Int.ediv_nonneg (by omega) (by omega), by omega⟩
theorem J5p {unit : Int} {rs : List RH} {sp : List Int} (G : Gd unit rs) (lb : ∀ r ∈ rs, r.1.len <= 4 * 10 ^ 40) (hs : ∀ s ∈ sp, s <= 30 * unit) : FitS sp rs := by
 refine ⟨fun r hr => G.gl r.1 (List.mem_map.mpr ⟨r, hr, rfl⟩), fun s hm r hr => ?_⟩
 have f := G.f r hr
 have f1 := f.g1
 have f2 := f.g2
 have f3 := f.l1
 have f4 := f.d1
 have f5 := f.t1
 have f6 := f.t2
 have u1 := G.u1
 have u2 := G.u2
 have b := lb r hr
 have hsu := hs s hm
 have t0 : (1 : Int) <= 10 ^ 40 := by decide +kernel
 have bl : r.1.len.natAbs.log2 < 1048576 := logB (by omega) (by generalize (10 : Int) ^ 40 = y at *; omega)
 have cb : ∀ s, s <= 30 * unit -> Jat (cmn s r.1) r.1.len := fun s hs' => by
  refine .inr (.inr ⟨?_, bl⟩)
  unfold cmn
  split
  ·obtain ⟨a1, a2⟩ := rup_b (x := s + r.1.late) (g := r.1.gap) (by omega) (by omega)
   exact logB a1 (by generalize (10 : Int) ^ 40 = y at *; omega)
  ·decide
 refine ⟨cb s hsu, .inr (.inr ⟨?_, bl⟩), cb _ ?_⟩
 ·unfold dm
  split
  ·rename_i q
   have a1 := Int.ediv_nonneg (a := s + r.1.late - r.1.due) (b := r.1.gap) q (by omega)
   have a2 := Int.ediv_le_self (a := s + r.1.late - r.1.due) r.1.gap q
   exact logB (by omega) (by generalize (10 : Int) ^ 40 = y at *; omega)
  ·decide
 ·unfold mx1
  split <;> omega
theorem J3s {rs : List RH} {os : List Nat} {n : Nat} (x : RH) (p : os.Perm (List.range rs.length)) (hn : n < rs.length) : pk (rs.set n x) os = (pk rs os).set (inv os n) x := by
 obtain ⟨_, eo⟩ := Jqk p hn
 refine List.ext_getElem? fun i => ?_
 by_cases hi : i < os.length
 ·have ho : os[i] < rs.length := List.mem_range.mp (p.mem_iff.mp (List.getElem_mem hi))
  by_cases e : i = inv os n
  ·subst e
   have hin := (List.getElem?_eq_some_iff.mp eo).1
   rw [List.getElem?_set_self (by simpa [pk] using hin), pk, List.getElem?_map, eo, Option.map_some, List.getD_eq_getElem?_getD, List.getElem?_set_self hn]
   rfl
  ·have ne : os[i] ≠ n := fun z => e (by have := J4k p hi; rw [z] at this; exact this.symm)
   rw [List.getElem?_set_ne (Ne.symm e), pk, pk, List.getElem?_map, List.getElem?_map, List.getElem?_eq_getElem hi, Option.map_some, Option.map_some, List.getD_eq_getElem?_getD, List.getD_eq_getElem?_getD, List.getElem?_set_ne (Ne.symm ne)]
 ·rw [List.getElem?_eq_none (by simp [pk]; omega), List.getElem?_eq_none (by simp [pk]; omega)]
section
variable {k : Nat} {h : IH}
theorem J43 {S O : Nat} {ys : List IV} {rs : List RH} {os : List Nat} {unit : Int} {e : E1} {a0 a1 a2 a3 a5 a6 a7 a9 a10 a11 a12 a13 a14 a15 : Option IV} (he : e = eBin opIx (eVar 1) (eVar 0)) (G : Gd unit rs) (hS : h[S]? = some (.lst ys)) (w : RowP h ys rs) (hO : h[O]? = some (.lst (ni os))) (p : os.Perm (List.range rs.length)) :
  WR (Jaj (iAny (eVar 8)) 1 [4] (gNm 0) Jav e [a0, a1, a2, a3, some (.ref S), a5, a6, a7, some (.ref O), a9, a10, a11, a12, a13, a14, a15] h) fun v h' => ∃ P ys', v = .ref P /\ Ex h h' /\ h'[P]? = some (.lst ys') /\ RowP h' ys' (pk rs os) := by
 have hb := Jd
 have few := G.few
 have wl := w.len
 have lo : os.length = rs.length := by rw [p.length_eq, List.length_range]
 have ln : (ni os).length = os.length := by simp
 refine WR.mono (Jak (h := h) (xs := ni os) (chk := fun h' => h'[O]? = some (.lst (ni os))) (f := fun v => match v with | .int n => ys.getD n.toNat .non | _ => .non) ?_ (by omega) (fun h2 q => q _ _ hO) ?_) ?_
 ·simp! [Jb1, hO]
 ·intro v hv h4 q
  obtain ⟨a, ha, rfl⟩ := List.mem_map.mp hv
  obtain ⟨n, hn, rfl⟩ := List.mem_map.mp ha
  have hn' : n < ys.length := by rw [wl]; exact List.mem_range.mp (p.mem_iff.mp hn)
  have ea : atI ys (n : Int) = some ys[n] := Jc0 (List.getElem?_eq_getElem hn')
  subst he
  simp only [List.map_cons, List.map_nil, List.getElem?_cons_succ, List.getElem?_cons_zero, Option.join_some]
  simp! [Jnd, q _ _ hS, ea]
  exact ⟨by simp [List.getD_eq_getElem?_getD, hn'], .refl _⟩
 ·rintro _ _ ⟨rfl, g4, rfl⟩
  generalize hvs : (ni os).map (fun v => match v with | .int n => ys.getD n.toNat IV.non | _ => IV.non) = ys'
  have x4 : Ex h (h ++ L3.IO.lst ys' :: g4) := .cons _ _ _
  refine ⟨_, ys', rfl, x4, J2, by rw [<- hvs]; simp [pk], fun i v r a b => ?_⟩
  have hi : i < os.length := by
   have := (List.getElem?_eq_some_iff.mp b).1
   simpa [pk] using this
  have ho : os[i] < rs.length := List.mem_range.mp (p.mem_iff.mp (List.getElem_mem hi))
  have ho' : os[i] < ys.length := by omega
  have er : r = rs[os[i]] := by
   simp only [pk, List.getElem?_map, List.getElem?_eq_getElem hi, Option.map_some, Option.some.injEq, List.getD_eq_getElem?_getD, List.getElem?_eq_getElem ho, Option.getD_some] at b
   exact b.symm
  have ev : v = ys[os[i]] := by
   rw [<- hvs] at a
   simp only [List.getElem?_map, List.getElem?_eq_getElem hi, Option.map_some, Option.some.injEq, Int.toNat_natCast, List.getD_eq_getElem?_getD, List.getElem?_eq_getElem ho', Option.getD_some] at a
   exact a.symm
  obtain ⟨p, q, e1, e2, e3⟩ := w.at_ os[i] v r (by rw [ev, List.getElem?_eq_getElem ho']) (by rw [er, List.getElem?_eq_getElem ho])
  exact ⟨p, q, e1, x4.get e2, x4.get e3⟩
noncomputable abbrev xs3 (c : Int) : List Str := [nm c 6, nm c 7, nm c 8]
noncomputable abbrev G9 (c : Int) : List IV := (List.range 9).map fun j => IV.str (nm c j)
theorem J31 {D P T : Nat} {rs : List RH} {unit : Int} {sp : List Int} {xs : List Str} (d : IsDu h D rs) (G : Gd unit rs) (lb : ∀ r ∈ rs, r.1.len <= 4 * 10 ^ 40) (h0 : h[0]? = some (.tab "longest_hold")) (hP : h[P]? = some (.lst (sp.map .int))) (hT : h[T]? = some (.lst (xs.map .str))) (lp : sp.length <= 10) (lx : xs.length <= 10) (hs : ∀ s ∈ sp, s <= 30 * unit) :
  WR (Jz (k + 8) [.ref D, .ref P, .ref T] h) fun v h' => ∃ i, v = .ref i /\ h'[i]? = some (.lst (Jr7 rs sp xs)) /\ Ex h h' := by
 obtain ⟨vs, dd, w⟩ := d
 have few := G.few
 exact J2v ⟨dd, w, by omega, fun r hr => ⟨(G.f r hr).ok.few, fun a ha => ((G.f r hr).ok.each a ha).1⟩⟩ h0 hP hT lp lx (J5p G lb hs)
theorem Jws {D P NM : Nat} {rs : List RH} {unit c : Int} {sp : List Int} {σ : ISt} {o : E1} (ho : ∀ h, o σ h = .ok (.ref D) h) (s5 : ∀ h, eVar 5 σ h = .ok (.ref P) h) (s3 : ∀ h, eVar 3 σ h = .ok (.ref NM) h) (d : IsDu h D rs) (G : Gd unit rs) (lb : ∀ r ∈ rs, r.1.len <= 4 * 10 ^ 40) (h0 : h[0]? = some (.tab "longest_hold")) (gN : h[NM]? = some (.lst (G9 c))) (hP : h[P]? = some (.lst (sp.map .int))) (lp : sp.length <= 10) (hs : ∀ s ∈ sp, s <= 30 * unit) :
  WR (Jm (Jz (k + 8)) [] (Ja o (Ja (eVar 5) (Ja (eSl slI (eVar 3) (Jfk (eC (.int 6))) Jgz) aNil))) σ h) fun v h' => ∃ i, v = .ref i /\ h'[i]? = some (.lst (Jr7 rs sp (xs3 c))) /\ Ex h h' := by
 simp! [ho, s5, s3, Js4, gN]
 rw [show (some (6 : Int)) = some ((6 : Nat) : Int) from rfl, Jno]
 have eW : (G9 c).drop 6 = (xs3 c).map IV.str := rfl
 rw [eW]
 have x1 : Ex h (h ++ [L3.IO.lst ((xs3 c).map IV.str)]) := .one _ _
 refine WR.mono (J31 (k := k) (d.kp x1.kp) G lb (x1.get h0) (x1.get hP) Jaw lp (by simp) hs) ?_
 rintro _ h2 ⟨i, rfl, gi, x2⟩
 exact ⟨i, rfl, gi, x1.trans x2⟩
theorem Jvz {X S P NM ix : Nat} {ys : List IV} {rs : List RH} {unit c : Int} {sp : List Int} {σ : ISt} (s14 : ∀ h, eVar 14 σ h = .ok (.ref X) h) (s5 : ∀ h, eVar 5 σ h = .ok (.ref P) h) (s3 : ∀ h, eVar 3 σ h = .ok (.ref NM) h) (sx : ∀ h, eVar ix σ h = .ok (.ref S) h)
  (d : IsDu h X rs) (gS : h[S]? = some (.lst ys)) (w : RowP h ys rs) (G : Gd unit rs) (lb : ∀ r ∈ rs, r.1.len <= 4 * 10 ^ 40) (h0 : h[0]? = some (.tab "longest_hold")) (gN : h[NM]? = some (.lst (G9 c))) (hP : h[P]? = some (.lst (sp.map .int))) (lp : sp.length <= 10) (hs : ∀ s ∈ sp, s <= 30 * unit) :
  WR (eBin cNe (Jm (Jz (k + 8)) [] (Ja (eVar 14) (Ja (eVar 5) (Ja (eSl slI (eVar 3) (Jfk (eC (.int 6))) Jgz) aNil)))) (Jm (Jz (k + 8)) [] (Ja (Jm (Jbi (k + 8)) [] (Ja (eVar ix) aNil)) (Ja (eVar 5) (Ja (eSl slI (eVar 3) (Jfk (eC (.int 6))) Jgz) aNil)))) σ h) fun v h' => v = .bl false /\ Kp h h' := by
 rw [Jdx]
 refine WR.mono (Jws (k := k) s14 s5 s3 d G lb h0 gN hP lp hs) ?_
 rintro _ h1 ⟨i, rfl, gi, x1⟩
 obtain ⟨_, h2, ed, D', rfl, d2, k2⟩ := (Jsn (k := k + 2) G (x1.get gS) (w.kp x1.kp)).eq
 simp! [sx, s5, s3, ed, Js4, k2 _ _ (x1.get gN)]
 rw [show (some (6 : Int)) = some ((6 : Nat) : Int) from rfl, Jno]
 have eW : (G9 c).drop 6 = (xs3 c).map IV.str := rfl
 rw [eW]
 have x3 : Ex h2 (h2 ++ [L3.IO.lst ((xs3 c).map IV.str)]) := .one _ _
 have k13 : Kp h1 (h2 ++ [L3.IO.lst ((xs3 c).map IV.str)]) := k2.trans x3.kp
 refine WR.mono (J31 (k := k) (d2.kp x3.kp) G lb (k13 _ _ (x1.get h0)) (k13 _ _ (x1.get hP)) Jaw lp (by simp) hs) ?_
 rintro _ h4 ⟨j, rfl, gj, x4⟩
 rw [ne_sc (x4.get (k13 _ _ gi)) gj (Jvd _ _ _)]
 exact ⟨rfl, (x1.kp.trans k13).trans x4.kp⟩
end
end LW
namespace LW
open PySem L2 L3 L4
structure S56 (h : IH) (NM P D B O TU GR BO : Nat) (c : Int) (sp : List Int) (rs : List RH) (os : List Nat) (n : Nat) (r : RH) (M : Int) : Prop where
 h0 : h[0]? = some (.tab "longest_hold")
 gN : h[NM]? = some (.lst (G9 c))
 hP : h[P]? = some (.lst (sp.map .int))
 d : IsDu h D rs
 b : h[B]? = some (.lst (Jr7 rs sp (xs3 c)))
 o : h[O]? = some (.lst (ni os))
 tu : ∃ yt, h[TU]? = some (.lst yt) /\ RowP h yt (pk rs os)
 gr : ∃ yg, h[GR]? = some (.lst yg) /\ RowP h yg (rs.set n (lg r M))
 bo : ∃ yb, h[BO]? = some (.lst yb) /\ RowP h yb ((pk rs os).set (inv os n) (lg r M))
theorem S56.kp {h h' : IH} {NM P D B O TU GR BO : Nat} {c : Int} {sp : List Int} {rs : List RH} {os : List Nat} {n : Nat} {r : RH} {M : Int} (x : Kp h h') (q : S56 h NM P D B O TU GR BO c sp rs os n r M) : S56 h' NM P D B O TU GR BO c sp rs os n r M :=
 ⟨x _ _ q.h0, x _ _ q.gN, x _ _ q.hP, q.d.kp x, x _ _ q.b, x _ _ q.o, q.tu.imp fun _ z => ⟨x _ _ z.1, z.2.kp x⟩, q.gr.imp fun _ z => ⟨x _ _ z.1, z.2.kp x⟩, q.bo.imp fun _ z => ⟨x _ _ z.1, z.2.kp x⟩⟩
structure Sl (σ : ISt) (NM P D B O TU GR BO n : Nat) (M : Int) : Prop where
 l : σ.length = 16
 s3 : σ[3]? = some (some (.ref NM))
 s5 : σ[5]? = some (some (.ref P))
 s6 : σ[6]? = some (some (.ref D))
 s7 : σ[7]? = some (some (.ref B))
 s8 : σ[8]? = some (some (.ref O))
 s9 : σ[9]? = some (some (.int (n : Int)))
 s10 : σ[10]? = some (some (.int M))
 s11 : σ[11]? = some (some (.ref TU))
 s12 : σ[12]? = some (some (.ref GR))
 s13 : σ[13]? = some (some (.ref BO))
theorem Sl.set {σ : ISt} {NM P D B O TU GR BO n : Nat} {M : Int} (s : Sl σ NM P D B O TU GR BO n M) {i : Nat} (hi : 14 <= i) (x : Option IV) : Sl (σ.set i x) NM P D B O TU GR BO n M := by
 refine ⟨by rw [List.length_set]; exact s.l, ?_, ?_, ?_, ?_, ?_, ?_, ?_, ?_, ?_, ?_⟩ <;> rw [List.getElem?_set_ne (by omega)]
 ·exact s.s3
 ·exact s.s5
 ·exact s.s6
 ·exact s.s7
 ·exact s.s8
 ·exact s.s9
 ·exact s.s10
 ·exact s.s11
 ·exact s.s12
 ·exact s.s13
theorem ev {σ : ISt} {i : Nat} {v : IV} (e : σ[i]? = some (some v)) (h : IH) : eVar i σ h = .ok v h := by
 unfold eVar
 rw [e]
section
variable {k : Nat} {h : IH}
theorem Jlp {D O : Nat} {rs : List RH} {os : List Nat} {unit : Int} {σ : ISt} {o : E1} {h0 : IH} (ho : o σ h0 = .ok (.ref D) h) (s8 : ∀ h, eVar 8 σ h = .ok (.ref O) h) (d : IsDu h D rs) (G : Gd unit rs) (gO : h[O]? = some (.lst (ni os))) (p : os.Perm (List.range rs.length)) :
  WR (eDot (pg (k + 4)) "reordered" 1 o (Ja (eCB (on1 Jh5) (Ja (eVar 8) aNil)) aNil) σ h0) fun v h' => ∃ D', v = .ref D' /\ Ex h h' /\ IsDu h' D' (pk rs os) := by
 obtain ⟨vs, gD, _⟩ := id d
 rw [Jbt (i := D) (h1 := h) ho gD (by kernel_rfl) (Jjj _)]
 simp! [s8, Jnj, gO]
 have x1 : Ex h (h ++ [L3.IO.lst (ni os)]) := .one _ _
 refine WR.mono (Jom (k := k) (d.kp x1.kp) G Jaw p) ?_
 rintro _ h2 ⟨D', rfl, x2, d2⟩
 exact ⟨D', rfl, x1.trans x2, d2⟩
theorem Jw9 {t : E1} {σ : ISt} {N : ISt -> IH -> Prop} {R : IV -> IH -> Prop} (w : WR (t σ h) fun v h' => v = .bl false /\ Kp h h') (K : ∀ h', Kp h h' -> N σ h') : WS (sIf (tOfB asB t) (sRet (eC (.bl false))) sNil σ h) N R := by
 rw [Jj7, Jb6]
 refine WR.mono w ?_
 rintro _ h' ⟨rfl, kk⟩
 show (false = true -> _) /\ (false = false -> _)
 exact ⟨nofun, fun _ => K h' kk⟩
theorem J1a {NM P D B O TU GR BO n : Nat} {c unit M : Int} {sp : List Int} {rs : List RH} {os : List Nat} {r : RH} {σ : ISt} (V : Sl σ NM P D B O TU GR BO n M) (q : S56 h NM P D B O TU GR BO c sp rs os n r M) (G : Gd unit rs) (lb : ∀ r ∈ rs, r.1.len <= 2 * 10 ^ 40) (p : os.Perm (List.range rs.length)) (e : rs[n]? = some r) (hM : 0 <= M) (hM2 : M <= 10 ^ 40) (lp : sp.length <= 10) (hs : ∀ s ∈ sp, s <= 30 * unit) {N : ISt -> IH -> Prop} :
  WS (Jnl 15 σ h) N fun v _ => v = .bl true := by
 have hb := Jd
 have hn := (List.getElem?_eq_some_iff.mp e).1
 have Gl := G.longer hM e
 have Gp := G.perm (Jns p)
 obtain ⟨ei, eo⟩ := Jqk p hn
 have ek : (pk rs os)[inv os n]? = some r := by
  rw [pk, List.getElem?_map, eo, Option.map_some, List.getD_eq_getElem?_getD, e]
  rfl
 have Gb := Gp.longer hM ek
 have t0 : (0 : Int) <= 10 ^ 40 := by decide +kernel
 have lb4 : ∀ r ∈ rs, r.1.len <= 4 * 10 ^ 40 := fun r hr => by
  have := lb r hr
  generalize (10 : Int) ^ 40 = y at *
  omega
 have lbp : ∀ r ∈ pk rs os, r.1.len <= 2 * 10 ^ 40 := fun r hr => lb r ((Jns p).mem_iff.mp hr)
 have lset : ∀ (l : List RH) (i : Nat), (∀ r ∈ l, r.1.len <= 2 * 10 ^ 40) -> r.1.len <= 2 * 10 ^ 40 -> ∀ z ∈ l.set i (lg r M), z.1.len <= 4 * 10 ^ 40 := fun l i hl hr z hz => by
  rcases List.mem_or_eq_of_mem_set hz with w | rfl
  ·have := hl z w
   generalize (10 : Int) ^ 40 = y at *
   omega
  ·show r.1.len + M <= _
   generalize (10 : Int) ^ 40 = y at *
   omega
 have lr := lb r (List.mem_of_getElem? e)
 have lbg := lset rs n lb lr
 have lbb := lset (pk rs os) (inv os n) lbp lr
 have lbp4 : ∀ r ∈ pk rs os, r.1.len <= 4 * 10 ^ 40 := fun r hr => by
  have := lbp r hr
  generalize (10 : Int) ^ 40 = y at *
  omega
 have eps := J3s (lg r M) p hn
 have lo : rs.length = (rs.set n (lg r M)).length := by rw [List.length_set]
 have ldot : ∀ {D n : Nat} {rs : List RH} {r : RH} {σ : ISt} {o a : E1} {h0 h1 h2 : IH}, o σ h0 = .ok (.ref D) h1 -> a σ h1 = .ok (.int (n : Int)) h2 -> (∀ h, eVar 10 σ h = .ok (.int M) h) -> IsDu h1 D rs -> Kp h1 h2 -> Gd unit rs -> rs[n]? = some r -> WR (eDot (pg 15) "longer" 2 o (Ja a (Ja (eVar 10) aNil)) σ h0) fun v h' => ∃ D', v = .ref D' /\ Ex h2 h' /\ IsDu h' D' (rs.set n (lg r M)) := by
  intro D n rs r σ o a h0 h1 h2 ho ha s10 d k12 G e
  obtain ⟨vs, gD, _⟩ := id d
  rw [Jbt (i := D) (h1 := h1) ho gD (by kernel_rfl) (Jmp _)]
  simp! [ha, s10]
  exact Jw3 (k := 9) (d.kp k12) G e hM
 unfold Jnl
 rw [Jbn, Jeu, Jbw, Jey, Jai, Jd2, Jai]
 refine WR.mono (Jlp (k := 11) (ev V.s6 _) (ev V.s8) q.d G q.o p) ?_
 rintro _ h1 ⟨X1, rfl, x1, d1⟩
 have q1 := q.kp x1.kp
 rw [Jai, ev V.s11, Jb0, Jbe, Jai, Jd2, Jai]
 refine ⟨by simp; omega, WR.mono (ldot (ev V.s6 _) (ev V.s9 _) (ev V.s10) q1.d (.refl _) G e) ?_⟩
 rintro _ h2 ⟨X2, rfl, x2, d2⟩
 have q2 := q1.kp x2.kp
 have d12 := d1.kp x2.kp
 rw [Jai, ev V.s12, Jb0, Jbe, Jbe, Jb1]
 refine ⟨by simp; omega, by simp; omega, _, Jaw, ?_⟩
 have x3 : Ex h2 (h2 ++ [L3.IO.lst [.tup [.ref X1, .ref TU], .tup [.ref X2, .ref GR]]]) := .one _ _
 have gL : (h2 ++ [L3.IO.lst [.tup [.ref X1, .ref TU], .tup [.ref X2, .ref GR]]])[h2.length]? = some (L3.IO.lst [.tup [.ref X1, .ref TU], .tup [.ref X2, .ref GR]]) := Jaw
 generalize h2 ++ [L3.IO.lst [.tup [.ref X1, .ref TU], .tup [.ref X2, .ref GR]]] = h3 at x3 gL ⊢
 have q3 := q2.kp x3.kp
 have d13 := d12.kp x3.kp
 have d23 := d2.kp x3.kp
 refine Jdn (fun _ σ' h' => Kp h3 h' /\ Sl σ' NM P D B O TU GR BO n M) (fun _ _ _ z => z.1 _ _ gL) ?_ ?_ ⟨.refl _, V⟩
 ·rintro i hi σ' h' ⟨k3, V'⟩
  have q4 := q3.kp k3
  have turn : ∀ {X S : Nat} {ys : List IV} {rs' : List RH}, IsDu h' X rs' -> h'[S]? = some (.lst ys) -> RowP h' ys rs' -> Gd unit rs' -> (∀ r ∈ rs', r.1.len <= 4 * 10 ^ 40) -> WS (gTp 2 (gC (gNm 14) (gC (gNm 15) gN)) (.tup [.ref X, .ref S]) σ' h') (fun σ1 h1 => WS (Job 15 σ1 h1) (fun σ' h' => Kp h3 h' /\ Sl σ' NM P D B O TU GR BO n M) fun v _ => v = .bl true) fun _ _ => False := by
   intro X S ys rs' d gS w G' l'
   rw [Jzz, J17, J17, J3x]
   have W := (V'.set (i := 14) (by omega) (some (.ref X))).set (i := 15) (by omega) (some (.ref S))
   have w14 : ((σ'.set 14 (some (.ref X))).set 15 (some (.ref S)))[14]? = some (some (IV.ref X)) := by
    rw [List.getElem?_set_ne (by omega), List.getElem?_set_self (by rw [V'.l]; omega)]
   have w15 : ((σ'.set 14 (some (.ref X))).set 15 (some (.ref S)))[15]? = some (some (IV.ref S)) := by
    rw [List.getElem?_set_self (by rw [List.length_set, V'.l]; omega)]
   refine ⟨rfl, ?_⟩
   unfold Job
   exact Jw9 (Jvz (k := 7) (ev w14) (ev W.s5) (ev W.s3) (ev w15) d gS w G' l' q4.h0 q4.gN q4.hP lp hs) fun h5 k5 => ⟨k3.trans k5, W⟩
  match i, hi with
  | 0, _ =>
   obtain ⟨yt, g1, g2⟩ := q4.tu
   exact turn (d13.kp k3) g1 g2 Gp lbp4
  | 1, _ =>
   obtain ⟨yt, g1, g2⟩ := q4.gr
   exact turn (d23.kp k3) g1 g2 Gl lbg
  | i + 2, hi => exact absurd hi (by simp)
 ·rintro σ' h' ⟨k3, V'⟩
  have q4 := q3.kp k3
  obtain ⟨yb, gb, wb⟩ := q4.bo
  unfold Jsl
  rw [Jbn, Jcc]
  obtain ⟨_, h5, e5, X5, rfl, x5, d5⟩ := (ldot (ev V'.s6 h') (ev V'.s9 _) (ev V'.s10) q4.d (.refl _) G e).eq
  have q5 := q4.kp x5.kp
  refine WR.mono (Jlp (k := 11) e5 (ev V'.s8) d5 Gl q5.o (lo ▸ p)) ?_
  rintro _ h6 ⟨X6, rfl, x6, d6⟩
  rw [eps] at d6
  have q6 := q5.kp x6.kp
  have V6 := V'.set (i := 14) (by omega) (some (.ref X6))
  have v6 : (σ'.set 14 (some (.ref X6)))[14]? = some (some (IV.ref X6)) := List.getElem?_set_self (by rw [V'.l]; omega)
  unfold Jse
  rw [Jbn]
  obtain ⟨yb, gb, wb⟩ := q6.bo
  refine Jw9 (Jvz (k := 7) (ev v6) (ev V6.s5) (ev V6.s3) (ev V6.s13) d6 gb wb Gb lbb q6.h0 q6.gN q6.hP lp hs) fun h7 k7 => ?_
  have q7 := q6.kp k7
  generalize σ'.set 14 (some (.ref X6)) = σ6 at V6
  unfold Jst
  rw [Jbn, Jcc]
  obtain ⟨_, h8, e8, X8, rfl, x8, d8⟩ := (Jlp (k := 11) (ev V6.s6 h7) (ev V6.s8) q7.d G q7.o p).eq
  have q8 := q7.kp x8.kp
  have ei8 : eDot (pg 15) "index" 1 (eVar 8) (Ja (eVar 9) aNil) σ6 h8 = .ok (.int (inv os n)) h8 := by
   refine Jdw ?_
   rw [Js3 p hn (ev V6.s8 _) (h1 := h8) ?_ q8.o q8.o]
   ·exact ⟨rfl, rfl⟩
   ·refine Jdw ?_
    rw [Jai, ev V6.s9, Jb0, Jbe]
    exact ⟨rfl, rfl⟩
  refine WR.mono (ldot e8 ei8 (ev V6.s10) d8 (.refl _) Gp ek) ?_
  rintro _ h9 ⟨X9, rfl, x9, d9⟩
  have q9 := q8.kp x9.kp
  have V9 := V6.set (i := 14) (by omega) (some (.ref X9))
  have v9 : (σ6.set 14 (some (.ref X9)))[14]? = some (some (IV.ref X9)) := List.getElem?_set_self (by rw [V6.l]; omega)
  generalize σ6.set 14 (some (.ref X9)) = σ9 at V9 v9
  unfold Js2
  rw [Jbn]
  obtain ⟨yb, gb, wb⟩ := q9.bo
  refine Jw9 (Jvz (k := 7) (ev v9) (ev V9.s5) (ev V9.s3) (ev V9.s13) d9 gb wb Gb lbb q9.h0 q9.gN q9.hP lp hs) fun h10 k10 => ?_
  have q10 := q9.kp k10
  unfold Js6
  rw [Jcb, Jdx]
  refine WR.mono (Jws (k := 7) (ev V9.s6) (ev V9.s5) (ev V9.s3) q10.d G lb4 q10.h0 q10.gN q10.hP lp hs) ?_
  rintro _ h11 ⟨i, rfl, gi, x11⟩
  rw [ev V9.s7, Jb0, eq_sc gi (x11.get q10.b) (Jvd _ _ _)]
  rfl
theorem Jx2 (ns : List Int) (hl : ns.length <= 63) : ∃ h', Jrt 16 [.rol (ns.map IV.int)] [.tab "longest_hold"] = .ok (.bl true) h' := by
 suffices h : WR (Jrt 16 [.rol (ns.map IV.int)] [.tab "longest_hold"]) fun v _ => v = .bl true by
  obtain ⟨v, h', e, rfl⟩ := h.eq
  exact ⟨h', e⟩
 have hb := Jd
 rw [J5g]
 have t40 : (0 : Int) < 10 ^ 40 := by decide +kernel
 have t41 : (10 : Int) <= 10 ^ 40 := by decide +kernel
 have tn : Int.toNat 40 = 40 := rfl
 have c0 := fun (h : IH) => Jes (k := 14) (h := h) ns 0 (by decide)
 have c1 := fun (h : IH) => Jes (k := 14) (h := h) ns 1 (by decide)
 have key : ∀ (m : Nat) (unit : Int) {N : ISt -> IH -> Prop}, 1 <= m -> m <= 7 -> 1 <= unit -> unit <= 10 ^ 40 -> WS (Jq9 15 [some (.rol (ns.map IV.int)), some (.int (m : Int)), some (.int unit), none, none, none, none, none, none, none, none, none, none, none, none, none] [.tab "longest_hold"]) N fun v _ => v = .bl true := by
  intro m unit N m1 m7 hu1 hu2
  have c2 := fun (h : IH) => Jes (k := 14) (h := h) ns 2 (by decide)
  have c10 := fun (h : IH) => Jes (k := 14) (h := h) ns 10 (by decide)
  have c11 := fun (h : IH) => Jes (k := 14) (h := h) ns 11 (by decide)
  have c12 := fun (h : IH) => Jes (k := 14) (h := h) ns 12 (by decide)
  have c13 := fun (h : IH) => Jes (k := 14) (h := h) ns 13 (by decide)
  have c14 := fun (h : IH) => Jes (k := 14) (h := h) ns 14 (by decide)
  generalize ns.getD (Int.toNat 2) 0 = x2 at c2
  generalize ns.getD (Int.toNat 10) 0 = x10 at c10
  generalize ns.getD (Int.toNat 11) 0 = x11 at c11
  generalize ns.getD (Int.toNat 12) 0 = x12 at c12
  generalize ns.getD (Int.toNat 13) 0 = x13 at c13
  generalize ns.getD (Int.toNat 14) 0 = x14 at c14
  have n9 := Jy9 (k := 14) (h := [.tab "longest_hold"]) x2 9 (by decide)
  have n9 : Jc8 15 [.int x2, .int 9] [.tab "longest_hold"] = _ := n9
  simp! [Jq9, c2, n9, List.length_cons, List.length_nil, Nat.zero_add]
  generalize hh1 : [L3.IO.tab "longest_hold", L3.IO.lst ((List.range 9).map fun j => .str (nm x2 j))] = h1
  have g0 : h1[0]? = some (.tab "longest_hold") := by rw [<- hh1]; rfl
  have gN : h1[1]? = some (.lst (G9 x2)) := by rw [<- hh1]; rfl
  clear hh1 n9
  simp! [Jxq]
  have S := @J08 13 h1 ns unit x2 m 1 none none none none none none none none none none none none hu1 hu2 m7 gN
  generalize Jaj (iRg Jbp (Ja (eVar 1) aNil)) 1 [3, 0, 2] (gNm 0) Jav (Jfp (13 + 2)) [some (.rol (ns.map .int)), some (.int (m : Int)), some (.int unit), some (.ref 1), none, none, none, none, none, none, none, none, none, none, none, none] h1 = rc at S ⊢
  obtain ⟨h2, ev', ys, rs, gS, w, G, lr, k2, lb⟩ := S
  rw [ev', Jb0]
  clear ev'
  subst lr
  have g02 := k2 _ _ g0
  have gN2 := k2 _ _ gN
  generalize h1.length = S at gS ⊢
  have m21 : Jat 21 unit := .inl (by decide)
  have m9 : Jat 9 unit := .inl (by decide)
  simp! [Jxh, c13, c14, m21, m9, show (0 : Int) < 21 * unit by omega, show (0 : Int) < 9 * unit by omega, List.length_cons, List.length_nil]
  refine ⟨by omega, ?_⟩
  generalize hsp : [x13 % (21 * unit) - unit, x14 % (9 * unit) + 1] = sp
  have lp : sp.length <= 10 := by rw [<- hsp]; simp
  have hs : ∀ s ∈ sp, s <= 30 * unit := by
   have a1 := Int.emod_lt_of_pos x13 (b := 21 * unit) (by omega)
   have a2 := Int.emod_lt_of_pos x14 (b := 9 * unit) (by omega)
   rw [<- hsp]
   intro s hs
   simp only [List.mem_cons, List.not_mem_nil, or_false] at hs
   rcases hs with rfl | rfl <;> omega
  have esp : [IV.int (x13 % (21 * unit) - unit), IV.int (x14 % (9 * unit) + 1)] = sp.map .int := by rw [<- hsp]; rfl
  rw [esp]
  have x3 : Ex h2 (h2 ++ [L3.IO.lst (sp.map .int)]) := .one _ _
  have gP : (h2 ++ [L3.IO.lst (sp.map .int)])[h2.length]? = some (L3.IO.lst (sp.map .int)) := Jaw
  generalize h2 ++ [L3.IO.lst (sp.map .int)] = h3 at x3 gP ⊢
  generalize h2.length = P at gP ⊢
  have gS3 := x3.get gS
  have w3 := w.kp x3.kp
  simp! [Jvj]
  refine WR.mono (Jsn (k := 9) G gS3 w3) ?_
  rintro _ h4 ⟨D, rfl, d4, k4⟩
  have g04 := k4 _ _ (x3.get g02)
  have gN4 := k4 _ _ (x3.get gN2)
  have gP4 := k4 _ _ gP
  have gS4 := k4 _ _ gS3
  have w4 := w3.kp k4
  have lb4 : ∀ r ∈ rs, r.1.len <= 4 * 10 ^ 40 := fun r hr => by
   have := lb r hr
   clear c0 c1 c2 c10 c11 c12 c13 c14
   generalize (10 : Int) ^ 40 = y at *
   omega
  unfold Jv2
  rw [Jbn, Jcc]
  refine WR.mono (Jws (k := 7) (D := D) (P := P) (NM := 1) (fun _ => rfl) (fun _ => rfl) (fun _ => rfl) d4 G lb4 g04 gN4 gP4 lp hs) ?_
  rintro _ h5 ⟨B, rfl, gB, x5⟩
  simp! [Jvv, c10]
  refine WR.mono (Jyd (k := 14) x10 rs.length G.few) ?_
  rintro _ h6 ⟨O, os, rfl, x6, gO, p⟩
  have x46 := x5.trans x6
  have q0 := Int.emod_nonneg x11 (b := (rs.length : Int)) (by omega)
  have q1 := Int.emod_lt_of_pos x11 (b := (rs.length : Int)) (by omega)
  obtain ⟨n, en⟩ : ∃ n : Nat, x11 % (rs.length : Int) = n := ⟨(x11 % (rs.length : Int)).toNat, by omega⟩
  have hn : n < rs.length := by omega
  have e : rs[n]? = some rs[n] := List.getElem?_eq_getElem hn
  generalize rs[n] = r at e
  have r0 := Int.emod_nonneg x12 (b := 10 ^ 40) (by decide +kernel)
  have r1 := Int.emod_lt_of_pos x12 t40
  simp! [Jvh, Jsf, c11, c12, tn, t40, en, show (0 : Int) < (rs.length : Int) by omega]
  generalize x12 % 10 ^ 40 = M at r0 r1 ⊢
  refine ⟨by decide, ?_⟩
  unfold Jsu
  rw [Jbn, Jcc]
  refine WR.mono (J43 (e := Joq 15) rfl G (x46.get gS4) (w4.kp x46.kp) gO p) ?_
  rintro _ h7 ⟨TU, yt, rfl, x7, gT, wT⟩
  have x47 := x46.trans x7
  simp! [Jr8]
  refine WR.mono (Jsz (k := 14) (m := M) G (x47.get gS4) (w4.kp x47.kp) e) ?_
  rintro _ h8 ⟨GR, yg, rfl, k8, gG, wG⟩
  have k48 := x47.kp.trans k8
  have gO8 := k8 _ _ (x7.get gO)
  unfold Jsr
  rw [Jbn, Jcc]
  simp! [true_and]
  rw [Js3 (O := O) (n := n) (h1 := h8) p hn rfl rfl gO8 gO8]
  obtain ⟨ei, eo⟩ := Jqk p hn
  have ek : (pk rs os)[inv os n]? = some r := by
   rw [pk, List.getElem?_map, eo, Option.map_some, List.getD_eq_getElem?_getD, e]
   rfl
  refine WR.mono (Jsz (k := 14) (m := M) (G.perm (Jns p)) (k8 _ _ gT) (wT.kp k8) ek) ?_
  rintro _ h9 ⟨BO, yb, rfl, k9, gB9, wB⟩
  have k49 := k48.trans k9
  have k59 := ((x6.trans x7).kp.trans k8).trans k9
  refine J1a ⟨rfl, rfl, rfl, rfl, rfl, rfl, rfl, rfl, rfl, rfl, rfl⟩ ⟨k49 _ _ g04, k49 _ _ gN4, k49 _ _ gP4, d4.kp k49, k59 _ _ gB, k9 _ _ gO8, ⟨yt, k9 _ _ (k8 _ _ gT), (wT.kp k8).kp k9⟩, ⟨yg, k9 _ _ gG, wG.kp k9⟩, ⟨yb, gB9, wB⟩⟩ G lb p e r0 (Int.le_of_lt r1) lp hs
 generalize ns.getD (Int.toNat 0) 0 = x0 at c0
 generalize ns.getD (Int.toNat 1) 0 = x1 at c1
 have l7 : (Int.natAbs 7).log2 < 9000 := by decide
 have u0 := Int.emod_nonneg x1 (b := 10 ^ 40) (by decide +kernel)
 have u1 := Int.emod_lt_of_pos x1 t40
 obtain ⟨m, em, hm1, hm7⟩ : ∃ m : Nat, 1 + x0 % 7 = m /\ 1 <= m /\ m <= 7 := ⟨(1 + x0 % 7).toNat, by omega, by omega, by omega⟩
 simp! [Jri, Jvx, Jwv, c0, c1, tn, t40, l7, em, show (0 : Int) < 7 by decide, show (0 : Int) < 3 by decide, show (0 : Int) < 9 by decide]
 refine ⟨by decide, fun _ => ?_, fun _ => ?_⟩
 ·exact key m _ hm1 hm7 (by omega) (by clear c0 c1 key; generalize (10 : Int) ^ 40 = y at *; omega)
 ·exact key m _ hm1 hm7 (by clear c0 c1 key; generalize (10 : Int) ^ 40 = y at *; omega) (by clear c0 c1 key; generalize (10 : Int) ^ 40 = y at *; omega)
end
end LW
end
namespace LW
open PySem L2 L3 L4
section
variable {K : W.Frag} {h : Heap} {mg : Str -> Option Value} {a : Addr} {oc kV dc pm cd ct : Value} {od an : Option Addr} {sl : Array (Option Value)}
theorem Jrz : FnScope Jam.N Jam.ps (Jb Jam.st) := scOk.of (by decide +kernel)
theorem Jrq (X : K.In h) (G : h.Ns mainGlobals mg) (ha : W.nsIn K mainGlobals "is_whole" = some (some (.ref a))) (hl : K.lookup a = some ⟨oc, od, .func (W.fnOf "is_whole" "is_whole" (Ji Jam.st) (Jg Jam.st) (Jb Jam.st) .none kV dc pm an cd ct), sl⟩) (hc : W.codeIn K cd "is_whole" = true) (hk : W.keepIn K (.ref a) = true) : ∃ fa fd, mg "is_whole" = some (.ref fa) /\ DefOk K "is_whole" Jam fa fd :=
 ⟨a, _, W.mg_of X G ha, Jy (d := Jam) hl hc hk Jrz rfl (len1 (fun _ => rfl))⟩
theorem Jki : FnScope Jo.N Jo.ps (Jb Jo.st) := scOk.of (by decide +kernel)
theorem Jkf (X : K.In h) (G : h.Ns mainGlobals mg) (ha : W.nsIn K mainGlobals "is_whole_from" = some (some (.ref a))) (hl : K.lookup a = some ⟨oc, od, .func (W.fnOf "is_whole_from" "is_whole_from" (Ji Jo.st) (Jg Jo.st) (Jb Jo.st) .none kV dc pm an cd ct), sl⟩) (hc : W.codeIn K cd "is_whole_from" = true) (hk : W.keepIn K (.ref a) = true) : ∃ fa fd, mg "is_whole_from" = some (.ref fa) /\ DefOk K "is_whole_from" Jo fa fd :=
 ⟨a, _, W.mg_of X G ha, Jy (d := Jo) hl hc hk Jki rfl (len2 (fun _ _ => rfl))⟩
theorem Jqz : FnScope J7.N J7.ps (Jb J7.st) := scOk.of (by decide +kernel)
theorem Jo5 (X : K.In h) (G : h.Ns mainGlobals mg) (ha : W.nsIn K mainGlobals "rounds_up" = some (some (.ref a))) (hl : K.lookup a = some ⟨oc, od, .func (W.fnOf "rounds_up" "rounds_up" (Ji J7.st) (Jg J7.st) (Jb J7.st) .none kV dc pm an cd ct), sl⟩) (hc : W.codeIn K cd "rounds_up" = true) (hk : W.keepIn K (.ref a) = true) : ∃ fa fd, mg "rounds_up" = some (.ref fa) /\ DefOk K "rounds_up" J7 fa fd :=
 ⟨a, _, W.mg_of X G ha, Jy (d := J7) hl hc hk Jqz rfl (len2 (fun _ _ => rfl))⟩
theorem Jue : FnScope Ja1.N Ja1.ps (Jb Ja1.st) := scOk.of (by decide +kernel)
theorem Jtz (X : K.In h) (G : h.Ns mainGlobals mg) (ha : W.nsIn K mainGlobals "is_name" = some (some (.ref a))) (hl : K.lookup a = some ⟨oc, od, .func (W.fnOf "is_name" "is_name" (Ji Ja1.st) (Jg Ja1.st) (Jb Ja1.st) .none kV dc pm an cd ct), sl⟩) (hc : W.codeIn K cd "is_name" = true) (hk : W.keepIn K (.ref a) = true) : ∃ fa fd, mg "is_name" = some (.ref fa) /\ DefOk K "is_name" Ja1 fa fd :=
 ⟨a, _, W.mg_of X G ha, Jy (d := Ja1) hl hc hk Jue rfl (len1 (fun _ => rfl))⟩
theorem Jtt : FnScope Ja0.N Ja0.ps (Jb Ja0.st) := scOk.of (by decide +kernel)
theorem Jtc (X : K.In h) (G : h.Ns mainGlobals mg) (ha : W.nsIn K mainGlobals "is_hold" = some (some (.ref a))) (hl : K.lookup a = some ⟨oc, od, .func (W.fnOf "is_hold" "is_hold" (Ji Ja0.st) (Jg Ja0.st) (Jb Ja0.st) .none kV dc pm an cd ct), sl⟩) (hc : W.codeIn K cd "is_hold" = true) (hk : W.keepIn K (.ref a) = true) : ∃ fa fd, mg "is_hold" = some (.ref fa) /\ DefOk K "is_hold" Ja0 fa fd :=
 ⟨a, _, W.mg_of X G ha, Jy (d := Ja0) hl hc hk Jtt rfl (len2 (fun _ _ => rfl))⟩
theorem Jpj : FnScope Jaf.N Jaf.ps (Jb Jaf.st) := scOk.of (by decide +kernel)
theorem Jp3 (X : K.In h) (G : h.Ns mainGlobals mg) (ha : W.nsIn K mainGlobals "lie_apart" = some (some (.ref a))) (hl : K.lookup a = some ⟨oc, od, .func (W.fnOf "lie_apart" "lie_apart" (Ji Jaf.st) (Jg Jaf.st) (Jb Jaf.st) .none kV dc pm an cd ct), sl⟩) (hc : W.codeIn K cd "lie_apart" = true) (hk : W.keepIn K (.ref a) = true) : ∃ fa fd, mg "lie_apart" = some (.ref fa) /\ DefOk K "lie_apart" Jaf fa fd :=
 ⟨a, _, W.mg_of X G ha, Jy (d := Jaf) hl hc hk Jpj rfl (len2 (fun _ _ => rfl))⟩
theorem Jtn : FnScope Ja5.N Ja5.ps (Jb Ja5.st) := scOk.of (by decide +kernel)
theorem Jtw (X : K.In h) (G : h.Ns mainGlobals mg) (ha : W.nsIn K mainGlobals "lies_in" = some (some (.ref a))) (hl : K.lookup a = some ⟨oc, od, .func (W.fnOf "lies_in" "lies_in" (Ji Ja5.st) (Jg Ja5.st) (Jb Ja5.st) .none kV dc pm an cd ct), sl⟩) (hc : W.codeIn K cd "lies_in" = true) (hk : W.keepIn K (.ref a) = true) : ∃ fa fd, mg "lies_in" = some (.ref fa) /\ DefOk K "lies_in" Ja5 fa fd :=
 ⟨a, _, W.mg_of X G ha, Jy (d := Ja5) hl hc hk Jtn rfl (len2 (fun _ _ => rfl))⟩
theorem Jmc : FnScope Js.N Js.ps (Jb Js.st) := scOk.of (by decide +kernel)
theorem Jmq (X : K.In h) (G : h.Ns mainGlobals mg) (ha : W.nsIn K mainGlobals "go_together" = some (some (.ref a))) (hl : K.lookup a = some ⟨oc, od, .func (W.fnOf "go_together" "go_together" (Ji Js.st) (Jg Js.st) (Jb Js.st) .none kV dc pm an cd ct), sl⟩) (hc : W.codeIn K cd "go_together" = true) (hk : W.keepIn K (.ref a) = true) : ∃ fa fd, mg "go_together" = some (.ref fa) /\ DefOk K "go_together" Js fa fd :=
 ⟨a, _, W.mg_of X G ha, Jy (d := Js) hl hc hk Jmc rfl (len2 (fun _ _ => rfl))⟩
theorem Ji0 : FnScope Jj.N Jj.ps (Jb Jj.st) := scOk.of (by decide +kernel)
theorem Ji2 (X : K.In h) (G : h.Ns mainGlobals mg) (ha : W.nsIn K mainGlobals "all_go_together" = some (some (.ref a))) (hl : K.lookup a = some ⟨oc, od, .func (W.fnOf "all_go_together" "all_go_together" (Ji Jj.st) (Jg Jj.st) (Jb Jj.st) .none kV dc pm an cd ct), sl⟩) (hc : W.codeIn K cd "all_go_together" = true) (hk : W.keepIn K (.ref a) = true) : ∃ fa fd, mg "all_go_together" = some (.ref fa) /\ DefOk K "all_go_together" Jj fa fd :=
 ⟨a, _, W.mg_of X G ha, Jy (d := Jj) hl hc hk Ji0 rfl (len1 (fun _ => rfl))⟩
theorem Jp9 : FnScope J4.N J4.ps (Jb J4.st) := scOk.of (by decide +kernel)
theorem Jol (X : K.In h) (G : h.Ns mainGlobals mg) (ha : W.nsIn K mainGlobals "own_holds" = some (some (.ref a))) (hl : K.lookup a = some ⟨oc, od, .func (W.fnOf "own_holds" "own_holds" (Ji J4.st) (Jg J4.st) (Jb J4.st) .none kV dc pm an cd ct), sl⟩) (hc : W.codeIn K cd "own_holds" = true) (hk : W.keepIn K (.ref a) = true) : ∃ fa fd, mg "own_holds" = some (.ref fa) /\ DefOk K "own_holds" J4 fa fd :=
 ⟨a, _, W.mg_of X G ha, Jy (d := J4) hl hc hk Jp9 rfl (len2 (fun _ _ => rfl))⟩
theorem Jt1 : FnScope Ja3.N Ja3.ps (Jb Ja3.st) := scOk.of (by decide +kernel)
theorem Juf (X : K.In h) (G : h.Ns mainGlobals mg) (ha : W.nsIn K mainGlobals "own_due" = some (some (.ref a))) (hl : K.lookup a = some ⟨oc, od, .func (W.fnOf "own_due" "own_due" (Ji Ja3.st) (Jg Ja3.st) (Jb Ja3.st) .none kV dc pm an cd ct), sl⟩) (hc : W.codeIn K cd "own_due" = true) (hk : W.keepIn K (.ref a) = true) : ∃ fa fd, mg "own_due" = some (.ref fa) /\ DefOk K "own_due" Ja3 fa fd :=
 ⟨a, _, W.mg_of X G ha, Jy (d := Ja3) hl hc hk Jt1 rfl (len2 (fun _ _ => rfl))⟩
theorem Jpl : FnScope Ju.N Ju.ps (Jb Ju.st) := scOk.of (by decide +kernel)
theorem Jqq {C : Addr} {T : Addr} {ox : Value} {oy : Option Addr} {nx : Nat} {sx : Array (Option Value)} {tk1 : Tok} (ha : W.findIn K (.ref C) "__init__" = some (some (.ref a))) (hi : W.isFn K (.ref a) = true) (hl : K.lookup a = some ⟨oc, od, .func (W.fnOf "__init__" "Work.__init__" (Ji Ju.st) (Jg Ju.st) (Jb Ju.st) (.ref T) kV dc pm an cd ct), sl⟩) (hc : W.codeIn K cd "Work.__init__" = true) (hk : W.keepIn K (.ref a) = true) (hd : K.lookup T = some ⟨ox, oy, .seq #[.none, .int 0 tk1, .none] nx, sx⟩) (hm : W.makesIn K C = true) (hq : W.keepIn K (.ref C) = true) : ∃ fa fd, Mk K C fa /\ DefOk K "__init__" Ju fa fd :=
 ⟨a, _, ⟨hm, ha, hi, hq⟩, ⟨⟨_, ⟨oc, od, kV, dc, pm, an, cd, ct, sl, rfl, hl, hc⟩, hk⟩, Jpl, (by intro j hj; rcases upto3 j (show j <= 3 from hj) with rfl | rfl | rfl | rfl; exact ⟨[.none, .int 0 tk1, .none], fun s us Y hl => len4 (P := fun us => BindsTo s _ ⟨us, []⟩ (Ju.ps.zip (us ++ [.none, .int 0 tk1, .none]))) (fun _ _ _ _ => .of_defaults rfl (Y T _ hd) rfl rfl rfl) us (show us.length = 4 by rw [List.length_append] at hl; exact Nat.add_right_cancel (m := 3) hl), rfl, [V.non, V.int 0, V.non], .cons rfl (.cons ⟨_, rfl⟩ (.cons rfl (.nil))), fun _ _ => ⟨_, _, rfl, rfl, ⟨_, _, rfl, rfl, ⟨_, _, rfl, rfl, rfl⟩⟩⟩⟩; exact ⟨[.int 0 tk1, .none], fun s us Y hl => len5 (P := fun us => BindsTo s _ ⟨us, []⟩ (Ju.ps.zip (us ++ [.int 0 tk1, .none]))) (fun _ _ _ _ _ => .of_defaults rfl (Y T _ hd) rfl rfl rfl) us (show us.length = 5 by rw [List.length_append] at hl; exact Nat.add_right_cancel (m := 2) hl), rfl, [V.int 0, V.non], .cons ⟨_, rfl⟩ (.cons rfl (.nil)), fun _ _ => ⟨_, _, rfl, rfl, ⟨_, _, rfl, rfl, rfl⟩⟩⟩; exact ⟨[.none], fun s us Y hl => len6 (P := fun us => BindsTo s _ ⟨us, []⟩ (Ju.ps.zip (us ++ [.none]))) (fun _ _ _ _ _ _ => .of_defaults rfl (Y T _ hd) rfl rfl rfl) us (show us.length = 6 by rw [List.length_append] at hl; exact Nat.add_right_cancel (m := 1) hl), rfl, [V.non], .cons rfl (.nil), fun _ _ => ⟨_, _, rfl, rfl, rfl⟩⟩; exact ⟨[], fun s us Y hl => len7 (P := fun us => BindsTo s _ ⟨us, []⟩ (Ju.ps.zip (us ++ []))) (fun _ _ _ _ _ _ _ => .of_defaults rfl (Y T _ hd) rfl rfl rfl) us (show us.length = 7 by rw [List.length_append] at hl; exact Nat.add_right_cancel (m := 0) hl), rfl, [], .nil, fun _ _ => rfl⟩)⟩⟩
theorem Jpn : FnScope J9.N J9.ps (Jb J9.st) := scOk.of (by decide +kernel)
theorem Jo3 {C : Addr} (ha : W.findIn K (.ref C) "held" = some (some (.ref a))) (hi : W.isFn K (.ref a) = true) (hl : K.lookup a = some ⟨oc, od, .func (W.fnOf "held" "Work.held" (Ji J9.st) (Jg J9.st) (Jb J9.st) .none kV dc pm an cd ct), sl⟩) (hc : W.codeIn K cd "Work.held" = true) (hk : W.keepIn K (.ref a) = true) : ∃ fa fd, Meth K C "held" fa /\ DefOk K "held" J9 fa fd :=
 ⟨a, _, ⟨ha, hi, hk⟩, Jy (d := J9) hl hc hk Jpn rfl (len1 (fun _ => rfl))⟩
theorem Jpu : FnScope Jah.N Jah.ps (Jb Jah.st) := scOk.of (by decide +kernel)
theorem Jqs (X : K.In h) (G : h.Ns mainGlobals mg) (ha : W.nsIn K mainGlobals "own_works" = some (some (.ref a))) (hl : K.lookup a = some ⟨oc, od, .func (W.fnOf "own_works" "own_works" (Ji Jah.st) (Jg Jah.st) (Jb Jah.st) .none kV dc pm an cd ct), sl⟩) (hc : W.codeIn K cd "own_works" = true) (hk : W.keepIn K (.ref a) = true) : ∃ fa fd, mg "own_works" = some (.ref fa) /\ DefOk K "own_works" Jah fa fd :=
 ⟨a, _, W.mg_of X G ha, Jy (d := Jah) hl hc hk Jpu rfl (len1 (fun _ => rfl))⟩
theorem Jrp : FnScope Jar.N Jar.ps (Jb Jar.st) := scOk.of (by decide +kernel)
theorem Jr2 (X : K.In h) (G : h.Ns mainGlobals mg) (ha : W.nsIn K mainGlobals "crowd_of" = some (some (.ref a))) (hl : K.lookup a = some ⟨oc, od, .func (W.fnOf "crowd_of" "crowd_of" (Ji Jar.st) (Jg Jar.st) (Jb Jar.st) .none kV dc pm an cd ct), sl⟩) (hc : W.codeIn K cd "crowd_of" = true) (hk : W.keepIn K (.ref a) = true) : ∃ fa fd, mg "crowd_of" = some (.ref fa) /\ DefOk K "crowd_of" Jar fa fd :=
 ⟨a, _, W.mg_of X G ha, Jy (d := Jar) hl hc hk Jrp rfl (len1 (fun _ => rfl))⟩
theorem Jo9 : FnScope J6.N J6.ps (Jb J6.st) := scOk.of (by decide +kernel)
theorem Jp0 {C : Addr} (ha : W.findIn K (.ref C) "__init__" = some (some (.ref a))) (hi : W.isFn K (.ref a) = true) (hl : K.lookup a = some ⟨oc, od, .func (W.fnOf "__init__" "Duty.__init__" (Ji J6.st) (Jg J6.st) (Jb J6.st) .none kV dc pm an cd ct), sl⟩) (hc : W.codeIn K cd "Duty.__init__" = true) (hk : W.keepIn K (.ref a) = true) (hm : W.makesIn K C = true) (hq : W.keepIn K (.ref C) = true) : ∃ fa fd, Mk K C fa /\ DefOk K "__init__" J6 fa fd :=
 ⟨a, _, ⟨hm, ha, hi, hq⟩, Jy (d := J6) hl hc hk Jo9 rfl (len2 (fun _ _ => rfl))⟩
theorem Jpr : FnScope Jab.N Jab.ps (Jb Jab.st) := scOk.of (by decide +kernel)
theorem Jqe {C : Addr} (ha : W.findIn K (.ref C) "size" = some (some (.ref a))) (hi : W.isFn K (.ref a) = true) (hl : K.lookup a = some ⟨oc, od, .func (W.fnOf "size" "Duty.size" (Ji Jab.st) (Jg Jab.st) (Jb Jab.st) .none kV dc pm an cd ct), sl⟩) (hc : W.codeIn K cd "Duty.size" = true) (hk : W.keepIn K (.ref a) = true) : ∃ fa fd, Meth K C "size" fa /\ DefOk K "size" Jab fa fd :=
 ⟨a, _, ⟨ha, hi, hk⟩, Jy (d := Jab) hl hc hk Jpr rfl (len1 (fun _ => rfl))⟩
theorem Jqa : FnScope Jaa.N Jaa.ps (Jb Jaa.st) := scOk.of (by decide +kernel)
theorem Jpo {C : Addr} (ha : W.findIn K (.ref C) "work" = some (some (.ref a))) (hi : W.isFn K (.ref a) = true) (hl : K.lookup a = some ⟨oc, od, .func (W.fnOf "work" "Duty.work" (Ji Jaa.st) (Jg Jaa.st) (Jb Jaa.st) .none kV dc pm an cd ct), sl⟩) (hc : W.codeIn K cd "Duty.work" = true) (hk : W.keepIn K (.ref a) = true) : ∃ fa fd, Meth K C "work" fa /\ DefOk K "work" Jaa fa fd :=
 ⟨a, _, ⟨ha, hi, hk⟩, Jy (d := Jaa) hl hc hk Jqa rfl (len2 (fun _ _ => rfl))⟩
theorem Jn4 : FnScope J3.N J3.ps (Jb J3.st) := scOk.of (by decide +kernel)
theorem Jnr {C : Addr} (ha : W.findIn K (.ref C) "crowd" = some (some (.ref a))) (hi : W.isFn K (.ref a) = true) (hl : K.lookup a = some ⟨oc, od, .func (W.fnOf "crowd" "Duty.crowd" (Ji J3.st) (Jg J3.st) (Jb J3.st) .none kV dc pm an cd ct), sl⟩) (hc : W.codeIn K cd "Duty.crowd" = true) (hk : W.keepIn K (.ref a) = true) : ∃ fa fd, Meth K C "crowd" fa /\ DefOk K "crowd" J3 fa fd :=
 ⟨a, _, ⟨ha, hi, hk⟩, Jy (d := J3) hl hc hk Jn4 rfl (len1 (fun _ => rfl))⟩
theorem Jjg : FnScope Jl.N Jl.ps (Jb Jl.st) := scOk.of (by decide +kernel)
theorem Jjn {C : Addr} (ha : W.findIn K (.ref C) "reordered" = some (some (.ref a))) (hi : W.isFn K (.ref a) = true) (hl : K.lookup a = some ⟨oc, od, .func (W.fnOf "reordered" "Duty.reordered" (Ji Jl.st) (Jg Jl.st) (Jb Jl.st) .none kV dc pm an cd ct), sl⟩) (hc : W.codeIn K cd "Duty.reordered" = true) (hk : W.keepIn K (.ref a) = true) : ∃ fa fd, Meth K C "reordered" fa /\ DefOk K "reordered" Jl fa fd :=
 ⟨a, _, ⟨ha, hi, hk⟩, Jy (d := Jl) hl hc hk Jjg rfl (len2 (fun _ _ => rfl))⟩
theorem Jmb : FnScope Jr.N Jr.ps (Jb Jr.st) := scOk.of (by decide +kernel)
theorem Jmm {C : Addr} (ha : W.findIn K (.ref C) "longer" = some (some (.ref a))) (hi : W.isFn K (.ref a) = true) (hl : K.lookup a = some ⟨oc, od, .func (W.fnOf "longer" "Duty.longer" (Ji Jr.st) (Jg Jr.st) (Jb Jr.st) .none kV dc pm an cd ct), sl⟩) (hc : W.codeIn K cd "Duty.longer" = true) (hk : W.keepIn K (.ref a) = true) : ∃ fa fd, Meth K C "longer" fa /\ DefOk K "longer" Jr fa fd :=
 ⟨a, _, ⟨ha, hi, hk⟩, Jy (d := Jr) hl hc hk Jmb rfl (len3 (fun _ _ _ => rfl))⟩
theorem Jrv : FnScope Jan.N Jan.ps (Jb Jan.st) := scOk.of (by decide +kernel)
theorem Jrc (X : K.In h) (G : h.Ns mainGlobals mg) (ha : W.nsIn K mainGlobals "ceilings" = some (some (.ref a))) (hl : K.lookup a = some ⟨oc, od, .func (W.fnOf "ceilings" "ceilings" (Ji Jan.st) (Jg Jan.st) (Jb Jan.st) .none kV dc pm an cd ct), sl⟩) (hc : W.codeIn K cd "ceilings" = true) (hk : W.keepIn K (.ref a) = true) : ∃ fa fd, mg "ceilings" = some (.ref fa) /\ DefOk K "ceilings" Jan fa fd :=
 ⟨a, _, W.mg_of X G ha, Jy (d := Jan) hl hc hk Jrv rfl (len1 (fun _ => rfl))⟩
theorem Jug : FnScope Jaz.N Jaz.ps (Jb Jaz.st) := scOk.of (by decide +kernel)
theorem Jub (X : K.In h) (G : h.Ns mainGlobals mg) (ha : W.nsIn K mainGlobals "ceiling" = some (some (.ref a))) (hl : K.lookup a = some ⟨oc, od, .func (W.fnOf "ceiling" "ceiling" (Ji Jaz.st) (Jg Jaz.st) (Jb Jaz.st) .none kV dc pm an cd ct), sl⟩) (hc : W.codeIn K cd "ceiling" = true) (hk : W.keepIn K (.ref a) = true) : ∃ fa fd, mg "ceiling" = some (.ref fa) /\ DefOk K "ceiling" Jaz fa fd :=
 ⟨a, _, W.mg_of X G ha, Jy (d := Jaz) hl hc hk Jug rfl (len2 (fun _ _ => rfl))⟩
theorem Joh : FnScope J1.N J1.ps (Jb J1.st) := scOk.of (by decide +kernel)
theorem Jni (X : K.In h) (G : h.Ns mainGlobals mg) (ha : W.nsIn K mainGlobals "turns_held" = some (some (.ref a))) (hl : K.lookup a = some ⟨oc, od, .func (W.fnOf "turns_held" "turns_held" (Ji J1.st) (Jg J1.st) (Jb J1.st) .none kV dc pm an cd ct), sl⟩) (hc : W.codeIn K cd "turns_held" = true) (hk : W.keepIn K (.ref a) = true) : ∃ fa fd, mg "turns_held" = some (.ref fa) /\ DefOk K "turns_held" J1 fa fd :=
 ⟨a, _, W.mg_of X G ha, Jy (d := J1) hl hc hk Joh rfl (len1 (fun _ => rfl))⟩
theorem Jk4 : FnScope Jq.N Jq.ps (Jb Jq.st) := scOk.of (by decide +kernel)
theorem Jli (X : K.In h) (G : h.Ns mainGlobals mg) (ha : W.nsIn K mainGlobals "longest_hold" = some (some (.ref a))) (hl : K.lookup a = some ⟨oc, od, .func (W.fnOf "longest_hold" "longest_hold" (Ji Jq.st) (Jg Jq.st) (Jb Jq.st) .none kV dc pm an cd ct), sl⟩) (hc : W.codeIn K cd "longest_hold" = true) (hk : W.keepIn K (.ref a) = true) : ∃ fa fd, mg "longest_hold" = some (.ref fa) /\ DefOk K "longest_hold" Jq fa fd :=
 ⟨a, _, W.mg_of X G ha, Jy (d := Jq) hl hc hk Jk4 rfl (len2 (fun _ _ => rfl))⟩
theorem Jth : FnScope Ja4.N Ja4.ps (Jb Ja4.st) := scOk.of (by decide +kernel)
theorem Jtb (X : K.In h) (G : h.Ns mainGlobals mg) (ha : W.nsIn K mainGlobals "hold_up" = some (some (.ref a))) (hl : K.lookup a = some ⟨oc, od, .func (W.fnOf "hold_up" "hold_up" (Ji Ja4.st) (Jg Ja4.st) (Jb Ja4.st) .none kV dc pm an cd ct), sl⟩) (hc : W.codeIn K cd "hold_up" = true) (hk : W.keepIn K (.ref a) = true) : ∃ fa fd, mg "hold_up" = some (.ref fa) /\ DefOk K "hold_up" Ja4 fa fd :=
 ⟨a, _, W.mg_of X G ha, Jy (d := Ja4) hl hc hk Jth rfl (len2 (fun _ _ => rfl))⟩
theorem Jnz : FnScope J0.N J0.ps (Jb J0.st) := scOk.of (by decide +kernel)
theorem Jn0 (X : K.In h) (G : h.Ns mainGlobals mg) (ha : W.nsIn K mainGlobals "comings_in" = some (some (.ref a))) (hl : K.lookup a = some ⟨oc, od, .func (W.fnOf "comings_in" "comings_in" (Ji J0.st) (Jg J0.st) (Jb J0.st) .none kV dc pm an cd ct), sl⟩) (hc : W.codeIn K cd "comings_in" = true) (hk : W.keepIn K (.ref a) = true) : ∃ fa fd, mg "comings_in" = some (.ref fa) /\ DefOk K "comings_in" J0 fa fd :=
 ⟨a, _, W.mg_of X G ha, Jy (d := J0) hl hc hk Jnz rfl (len2 (fun _ _ => rfl))⟩
theorem J1u : FnScope Jga.N Jga.ps (Jb Jga.st) := scOk.of (by decide +kernel)
theorem J2c (X : K.In h) (G : h.Ns mainGlobals mg) (ha : W.nsIn K mainGlobals "load" = some (some (.ref a))) (hl : K.lookup a = some ⟨oc, od, .func (W.fnOf "load" "load" (Ji Jga.st) (Jg Jga.st) (Jb Jga.st) .none kV dc pm an cd ct), sl⟩) (hc : W.codeIn K cd "load" = true) (hk : W.keepIn K (.ref a) = true) : ∃ fa fd, mg "load" = some (.ref fa) /\ DefOk K "load" Jga fa fd :=
 ⟨a, _, W.mg_of X G ha, Jy (d := Jga) hl hc hk J1u rfl (len3 (fun _ _ _ => rfl))⟩
theorem Jt9 : FnScope Ja2.N Ja2.ps (Jb Ja2.st) := scOk.of (by decide +kernel)
theorem Juh (X : K.In h) (G : h.Ns mainGlobals mg) (ha : W.nsIn K mainGlobals "dues_in" = some (some (.ref a))) (hl : K.lookup a = some ⟨oc, od, .func (W.fnOf "dues_in" "dues_in" (Ji Ja2.st) (Jg Ja2.st) (Jb Ja2.st) .none kV dc pm an cd ct), sl⟩) (hc : W.codeIn K cd "dues_in" = true) (hk : W.keepIn K (.ref a) = true) : ∃ fa fd, mg "dues_in" = some (.ref fa) /\ DefOk K "dues_in" Ja2 fa fd :=
 ⟨a, _, W.mg_of X G ha, Jy (d := Ja2) hl hc hk Jt9 rfl (len2 (fun _ _ => rfl))⟩
theorem Jve : FnScope Jbm.N Jbm.ps (Jb Jbm.st) := scOk.of (by decide +kernel)
theorem Jv1 (X : K.In h) (G : h.Ns mainGlobals mg) (ha : W.nsIn K mainGlobals "demand" = some (some (.ref a))) (hl : K.lookup a = some ⟨oc, od, .func (W.fnOf "demand" "demand" (Ji Jbm.st) (Jg Jbm.st) (Jb Jbm.st) .none kV dc pm an cd ct), sl⟩) (hc : W.codeIn K cd "demand" = true) (hk : W.keepIn K (.ref a) = true) : ∃ fa fd, mg "demand" = some (.ref fa) /\ DefOk K "demand" Jbm fa fd :=
 ⟨a, _, W.mg_of X G ha, Jy (d := Jbm) hl hc hk Jve rfl (len2 (fun _ _ => rfl))⟩
theorem Jyz : FnScope Jct.N Jct.ps (Jb Jct.st) := scOk.of (by decide +kernel)
theorem Jyq (X : K.In h) (G : h.Ns mainGlobals mg) (ha : W.nsIn K mainGlobals "asked" = some (some (.ref a))) (hl : K.lookup a = some ⟨oc, od, .func (W.fnOf "asked" "asked" (Ji Jct.st) (Jg Jct.st) (Jb Jct.st) .none kV dc pm an cd ct), sl⟩) (hc : W.codeIn K cd "asked" = true) (hk : W.keepIn K (.ref a) = true) : ∃ fa fd, mg "asked" = some (.ref fa) /\ DefOk K "asked" Jct fa fd :=
 ⟨a, _, W.mg_of X G ha, Jy (d := Jct) hl hc hk Jyz rfl (len2 (fun _ _ => rfl))⟩
theorem Jml : FnScope Jw.N Jw.ps (Jb Jw.st) := scOk.of (by decide +kernel)
theorem Jmt (X : K.In h) (G : h.Ns mainGlobals mg) (ha : W.nsIn K mainGlobals "_law_cell_at" = some (some (.ref a))) (hl : K.lookup a = some ⟨oc, od, .func (W.fnOf "_law_cell_at" "_law_cell_at" (Ji Jw.st) (Jg Jw.st) (Jb Jw.st) .none kV dc pm an cd ct), sl⟩) (hc : W.codeIn K cd "_law_cell_at" = true) (hk : W.keepIn K (.ref a) = true) : ∃ fa fd, mg "_law_cell_at" = some (.ref fa) /\ DefOk K "_law_cell_at" Jw fa fd :=
 ⟨a, _, W.mg_of X G ha, Jy (d := Jw) hl hc hk Jml rfl (len2 (fun _ _ => rfl))⟩
theorem Jqt : FnScope Jae.N Jae.ps (Jb Jae.st) := scOk.of (by decide +kernel)
theorem Jql (X : K.In h) (G : h.Ns mainGlobals mg) (ha : W.nsIn K mainGlobals "_law_names" = some (some (.ref a))) (hl : K.lookup a = some ⟨oc, od, .func (W.fnOf "_law_names" "_law_names" (Ji Jae.st) (Jg Jae.st) (Jb Jae.st) .none kV dc pm an cd ct), sl⟩) (hc : W.codeIn K cd "_law_names" = true) (hk : W.keepIn K (.ref a) = true) : ∃ fa fd, mg "_law_names" = some (.ref fa) /\ DefOk K "_law_names" Jae fa fd :=
 ⟨a, _, W.mg_of X G ha, Jy (d := Jae) hl hc hk Jqt rfl (len2 (fun _ _ => rfl))⟩
theorem Jp1 : FnScope J8.N J8.ps (Jb J8.st) := scOk.of (by decide +kernel)
theorem Jou (X : K.In h) (G : h.Ns mainGlobals mg) (ha : W.nsIn K mainGlobals "_law_parts" = some (some (.ref a))) (hl : K.lookup a = some ⟨oc, od, .func (W.fnOf "_law_parts" "_law_parts" (Ji J8.st) (Jg J8.st) (Jb J8.st) .none kV dc pm an cd ct), sl⟩) (hc : W.codeIn K cd "_law_parts" = true) (hk : W.keepIn K (.ref a) = true) : ∃ fa fd, mg "_law_parts" = some (.ref fa) /\ DefOk K "_law_parts" J8 fa fd :=
 ⟨a, _, W.mg_of X G ha, Jy (d := J8) hl hc hk Jp1 rfl (len5 (fun _ _ _ _ _ => rfl))⟩
theorem Jo6 : FnScope Jad.N Jad.ps (Jb Jad.st) := scOk.of (by decide +kernel)
theorem Joy (X : K.In h) (G : h.Ns mainGlobals mg) (ha : W.nsIn K mainGlobals "_law_order" = some (some (.ref a))) (hl : K.lookup a = some ⟨oc, od, .func (W.fnOf "_law_order" "_law_order" (Ji Jad.st) (Jg Jad.st) (Jb Jad.st) .none kV dc pm an cd ct), sl⟩) (hc : W.codeIn K cd "_law_order" = true) (hk : W.keepIn K (.ref a) = true) : ∃ fa fd, mg "_law_order" = some (.ref fa) /\ DefOk K "_law_order" Jad fa fd :=
 ⟨a, _, W.mg_of X G ha, Jy (d := Jad) hl hc hk Jo6 rfl (len2 (fun _ _ => rfl))⟩
theorem Jrk : FnScope Jao.N Jao.ps (Jb Jao.st) := scOk.of (by decide +kernel)
theorem Jr4 (X : K.In h) (G : h.Ns mainGlobals mg) (ha : W.nsIn K mainGlobals "_law_duty" = some (some (.ref a))) (hl : K.lookup a = some ⟨oc, od, .func (W.fnOf "_law_duty" "_law_duty" (Ji Jao.st) (Jg Jao.st) (Jb Jao.st) .none kV dc pm an cd ct), sl⟩) (hc : W.codeIn K cd "_law_duty" = true) (hk : W.keepIn K (.ref a) = true) : ∃ fa fd, mg "_law_duty" = some (.ref fa) /\ DefOk K "_law_duty" Jao fa fd :=
 ⟨a, _, W.mg_of X G ha, Jy (d := Jao) hl hc hk Jrk rfl (len1 (fun _ => rfl))⟩
theorem Jrr : FnScope Jap.N Jap.ps (Jb Jap.st) := scOk.of (by decide +kernel)
theorem Jr0 (X : K.In h) (G : h.Ns mainGlobals mg) (ha : W.nsIn K mainGlobals "_law_told" = some (some (.ref a))) (hl : K.lookup a = some ⟨oc, od, .func (W.fnOf "_law_told" "_law_told" (Ji Jap.st) (Jg Jap.st) (Jb Jap.st) .none kV dc pm an cd ct), sl⟩) (hc : W.codeIn K cd "_law_told" = true) (hk : W.keepIn K (.ref a) = true) : ∃ fa fd, mg "_law_told" = some (.ref fa) /\ DefOk K "_law_told" Jap fa fd :=
 ⟨a, _, W.mg_of X G ha, Jy (d := Jap) hl hc hk Jrr rfl (len3 (fun _ _ _ => rfl))⟩
theorem Jpp : FnScope Jag.N Jag.ps (Jb Jag.st) := scOk.of (by decide +kernel)
theorem Jqd (X : K.In h) (G : h.Ns mainGlobals mg) (ha : W.nsIn K mainGlobals "_law_grown" = some (some (.ref a))) (hl : K.lookup a = some ⟨oc, od, .func (W.fnOf "_law_grown" "_law_grown" (Ji Jag.st) (Jg Jag.st) (Jb Jag.st) .none kV dc pm an cd ct), sl⟩) (hc : W.codeIn K cd "_law_grown" = true) (hk : W.keepIn K (.ref a) = true) : ∃ fa fd, mg "_law_grown" = some (.ref fa) /\ DefOk K "_law_grown" Jag fa fd :=
 ⟨a, _, W.mg_of X G ha, Jy (d := Jag) hl hc hk Jpp rfl (len3 (fun _ _ _ => rfl))⟩
theorem J4r : FnScope Jl3.N Jl3.ps (Jb Jl3.st) := scOk.of (by decide +kernel)
theorem J5c (X : K.In h) (G : h.Ns mainGlobals mg) (ha : W.nsIn K mainGlobals "law" = some (some (.ref a))) (hl : K.lookup a = some ⟨oc, od, .func (W.fnOf "law" "law" (Ji Jl3.st) (Jg Jl3.st) (Jb Jl3.st) .none kV dc pm an cd ct), sl⟩) (hc : W.codeIn K cd "law" = true) (hk : W.keepIn K (.ref a) = true) : ∃ fa fd, mg "law" = some (.ref fa) /\ DefOk K "law" Jl3 fa fd /\ ∀ (s : Shared) (v : Value), BindsTo s fd ⟨[v], []⟩ [("_law_script", v)] :=
 ⟨a, _, W.mg_of X G ha, Jy (d := Jl3) hl hc hk J4r rfl (len1 (fun _ => rfl)), fun s v => .of_eq rfl⟩
theorem Jsh {C : Addr} (pg : W.plainGet K C Str.empty = true) (hd : W.hasDictIn K C = true) (po : W.plainOver K C = true) (sa : W.findIn K (.ref C) "__setattr__" = some (some (.builtin "object.__setattr__"))) (h1 : W.findIn K (.ref C) "__class__" = some (some (.builtin "object.__class__"))) (h2 : W.specialIn K (.builtin "object.__class__") "__get__" = some (some (.builtin "getset_descriptor.__get__"))) (h3 : W.takesIn K (.builtin "object.__class__") = some true) (h4 : W.mroIn K C (.type "object") = some true) (n0 : W.findIn K (.ref C) "append" = some none) (n1 : W.findIn K (.ref C) "due" = some none) (n2 : W.findIn K (.ref C) "extend" = some none) (n3 : W.findIn K (.ref C) "gap" = some none) (n4 : W.findIn K (.ref C) "get" = some none) (n5 : W.findIn K (.ref C) "hold_tuples" = some none) (n6 : W.findIn K (.ref C) "index" = some none) (n7 : W.findIn K (.ref C) "late" = some none) (n8 : W.findIn K (.ref C) "length" = some none) (n9 : W.findIn K (.ref C) "name" = some none) (n10 : W.findIn K (.ref C) "pop" = some none) (n11 : W.findIn K (.ref C) "setdefault" = some none) (n12 : W.findIn K (.ref C) "works" = some none) : ClsI K C /\ All (fun f => Jh2 K C f) T.flds :=
 ⟨⟨⟨pg, hd, po, sa⟩, h1, h2, h3, h4⟩, .cons n0 (.cons n1 (.cons n2 (.cons n3 (.cons n4 (.cons n5 (.cons n6 (.cons n7 (.cons n8 (.cons n9 (.cons n10 (.cons n11 (.cons n12 (.nil)))))))))))))⟩
theorem fin {prog : Program} {w : World} {fa : Addr} (X : K.In h) (G : h.Ns mainGlobals mg) (hfa : mg "law" = some (.ref fa)) {C_Work : Addr} {C_Duty : Addr} {tk_MOST_LETTERS : Tok} {tk_MOST_HOLDS : Tok} {tk_THING : Tok} {tk_START : Tok} {tk_END : Tok} {tk_MOST_WORKS : Tok} {tk_MOST_CROWD : Tok}
  (aC_Work : W.nsIn K mainGlobals "Work" = some (some (.ref C_Work)))
  (aC_Duty : W.nsIn K mainGlobals "Duty" = some (some (.ref C_Duty)))
  (f_is_whole : ∃ fa fd, mg "is_whole" = some (.ref fa) /\ DefOk K "is_whole" Jam fa fd)
  (f_is_whole_from : ∃ fa fd, mg "is_whole_from" = some (.ref fa) /\ DefOk K "is_whole_from" Jo fa fd)
  (f_rounds_up : ∃ fa fd, mg "rounds_up" = some (.ref fa) /\ DefOk K "rounds_up" J7 fa fd)
  (f_is_name : ∃ fa fd, mg "is_name" = some (.ref fa) /\ DefOk K "is_name" Ja1 fa fd)
  (f_is_hold : ∃ fa fd, mg "is_hold" = some (.ref fa) /\ DefOk K "is_hold" Ja0 fa fd)
  (f_lie_apart : ∃ fa fd, mg "lie_apart" = some (.ref fa) /\ DefOk K "lie_apart" Jaf fa fd)
  (f_lies_in : ∃ fa fd, mg "lies_in" = some (.ref fa) /\ DefOk K "lies_in" Ja5 fa fd)
  (f_go_together : ∃ fa fd, mg "go_together" = some (.ref fa) /\ DefOk K "go_together" Js fa fd)
  (f_all_go_together : ∃ fa fd, mg "all_go_together" = some (.ref fa) /\ DefOk K "all_go_together" Jj fa fd)
  (f_own_holds : ∃ fa fd, mg "own_holds" = some (.ref fa) /\ DefOk K "own_holds" J4 fa fd)
  (f_own_due : ∃ fa fd, mg "own_due" = some (.ref fa) /\ DefOk K "own_due" Ja3 fa fd)
  (f_own_works : ∃ fa fd, mg "own_works" = some (.ref fa) /\ DefOk K "own_works" Jah fa fd)
  (f_crowd_of : ∃ fa fd, mg "crowd_of" = some (.ref fa) /\ DefOk K "crowd_of" Jar fa fd)
  (f_ceilings : ∃ fa fd, mg "ceilings" = some (.ref fa) /\ DefOk K "ceilings" Jan fa fd)
  (f_ceiling : ∃ fa fd, mg "ceiling" = some (.ref fa) /\ DefOk K "ceiling" Jaz fa fd)
  (f_turns_held : ∃ fa fd, mg "turns_held" = some (.ref fa) /\ DefOk K "turns_held" J1 fa fd)
  (f_longest_hold : ∃ fa fd, mg "longest_hold" = some (.ref fa) /\ DefOk K "longest_hold" Jq fa fd)
  (f_hold_up : ∃ fa fd, mg "hold_up" = some (.ref fa) /\ DefOk K "hold_up" Ja4 fa fd)
  (f_comings_in : ∃ fa fd, mg "comings_in" = some (.ref fa) /\ DefOk K "comings_in" J0 fa fd)
  (f_load : ∃ fa fd, mg "load" = some (.ref fa) /\ DefOk K "load" Jga fa fd)
  (f_dues_in : ∃ fa fd, mg "dues_in" = some (.ref fa) /\ DefOk K "dues_in" Ja2 fa fd)
  (f_demand : ∃ fa fd, mg "demand" = some (.ref fa) /\ DefOk K "demand" Jbm fa fd)
  (f_asked : ∃ fa fd, mg "asked" = some (.ref fa) /\ DefOk K "asked" Jct fa fd)
  (f_law_cell_at : ∃ fa fd, mg "_law_cell_at" = some (.ref fa) /\ DefOk K "_law_cell_at" Jw fa fd)
  (f_law_names : ∃ fa fd, mg "_law_names" = some (.ref fa) /\ DefOk K "_law_names" Jae fa fd)
  (f_law_parts : ∃ fa fd, mg "_law_parts" = some (.ref fa) /\ DefOk K "_law_parts" J8 fa fd)
  (f_law_order : ∃ fa fd, mg "_law_order" = some (.ref fa) /\ DefOk K "_law_order" Jad fa fd)
  (f_law_duty : ∃ fa fd, mg "_law_duty" = some (.ref fa) /\ DefOk K "_law_duty" Jao fa fd)
  (f_law_told : ∃ fa fd, mg "_law_told" = some (.ref fa) /\ DefOk K "_law_told" Jap fa fd)
  (f_law_grown : ∃ fa fd, mg "_law_grown" = some (.ref fa) /\ DefOk K "_law_grown" Jag fa fd)
  (f_law : ∃ fa fd, mg "law" = some (.ref fa) /\ DefOk K "law" Jl3 fa fd /\ ∀ (s : Shared) (v : Value), BindsTo s fd ⟨[v], []⟩ [("_law_script", v)])
  (i_Work : ∃ fa fd, Mk K C_Work fa /\ DefOk K "__init__" Ju fa fd)
  (m_Work_held : ∃ fa fd, Meth K C_Work "held" fa /\ DefOk K "held" J9 fa fd)
  (c_Work : ClsI K C_Work /\ All (fun f => Jh2 K C_Work f) T.flds)
  (i_Duty : ∃ fa fd, Mk K C_Duty fa /\ DefOk K "__init__" J6 fa fd)
  (m_Duty_size : ∃ fa fd, Meth K C_Duty "size" fa /\ DefOk K "size" Jab fa fd)
  (m_Duty_work : ∃ fa fd, Meth K C_Duty "work" fa /\ DefOk K "work" Jaa fa fd)
  (m_Duty_crowd : ∃ fa fd, Meth K C_Duty "crowd" fa /\ DefOk K "crowd" J3 fa fd)
  (m_Duty_reordered : ∃ fa fd, Meth K C_Duty "reordered" fa /\ DefOk K "reordered" Jl fa fd)
  (m_Duty_longer : ∃ fa fd, Meth K C_Duty "longer" fa /\ DefOk K "longer" Jr fa fd)
  (c_Duty : ClsI K C_Duty /\ All (fun f => Jh2 K C_Duty f) T.flds)
  (g_MOST_LETTERS : W.nsIn K mainGlobals "MOST_LETTERS" = some (some (.int 8 tk_MOST_LETTERS)))
  (g_MOST_HOLDS : W.nsIn K mainGlobals "MOST_HOLDS" = some (some (.int 6 tk_MOST_HOLDS)))
  (g_THING : W.nsIn K mainGlobals "THING" = some (some (.int 0 tk_THING)))
  (g_START : W.nsIn K mainGlobals "START" = some (some (.int 1 tk_START)))
  (g_END : W.nsIn K mainGlobals "END" = some (some (.int 2 tk_END)))
  (g_MOST_WORKS : W.nsIn K mainGlobals "MOST_WORKS" = some (some (.int 12 tk_MOST_WORKS)))
  (g_MOST_CROWD : W.nsIn K mainGlobals "MOST_CROWD" = some (some (.int 80 tk_MOST_CROWD)))
  (k_Work_NoneType : W.kitOne K (.type "NoneType") (.ref C_Work) = some false)
  (k_Work_bool : W.kitOne K (.type "bool") (.ref C_Work) = some false)
  (k_Work_int : W.kitOne K (.type "int") (.ref C_Work) = some false)
  (k_Work_str : W.kitOne K (.type "str") (.ref C_Work) = some false)
  (k_Work_list : W.kitOne K (.type "list") (.ref C_Work) = some false)
  (k_Work_tuple : W.kitOne K (.type "tuple") (.ref C_Work) = some false)
  (k_Work_dict : W.kitOne K (.type "dict") (.ref C_Work) = some false)
  (k_Work_Work : W.kitOne K (.ref C_Work) (.ref C_Work) = some (memS "Work" ["Work"]))
  (k_Work_Duty : W.kitOne K (.ref C_Duty) (.ref C_Work) = some (memS "Duty" ["Work"]))
  (k_Duty_NoneType : W.kitOne K (.type "NoneType") (.ref C_Duty) = some false)
  (k_Duty_bool : W.kitOne K (.type "bool") (.ref C_Duty) = some false)
  (k_Duty_int : W.kitOne K (.type "int") (.ref C_Duty) = some false)
  (k_Duty_str : W.kitOne K (.type "str") (.ref C_Duty) = some false)
  (k_Duty_list : W.kitOne K (.type "list") (.ref C_Duty) = some false)
  (k_Duty_tuple : W.kitOne K (.type "tuple") (.ref C_Duty) = some false)
  (k_Duty_dict : W.kitOne K (.type "dict") (.ref C_Duty) = some false)
  (k_Duty_Work : W.kitOne K (.ref C_Work) (.ref C_Duty) = some (memS "Work" ["Duty"]))
  (k_Duty_Duty : W.kitOne K (.ref C_Duty) (.ref C_Duty) = some (memS "Duty" ["Duty"]))
  (z_all : W.nsIn K mainGlobals "all" = some none)
  (z_bool : W.nsIn K mainGlobals "bool" = some none)
  (z_enumerate : W.nsIn K mainGlobals "enumerate" = some none)
  (z_int : W.nsIn K mainGlobals "int" = some none)
  (z_isinstance : W.nsIn K mainGlobals "isinstance" = some none)
  (z_len : W.nsIn K mainGlobals "len" = some none)
  (z_list : W.nsIn K mainGlobals "list" = some none)
  (z_max : W.nsIn K mainGlobals "max" = some none)
  (z_range : W.nsIn K mainGlobals "range" = some none)
  (z_set : W.nsIn K mainGlobals "set" = some none)
  (z_sorted : W.nsIn K mainGlobals "sorted" = some none)
  (z_str : W.nsIn K mainGlobals "str" = some none)
  (z_sum : W.nsIn K mainGlobals "sum" = some none)
  (z_tuple : W.nsIn K mainGlobals "tuple" = some none)
  : ∃ fd : FuncData, (∀ (s : Shared) (v : Value), BindsTo s fd ⟨[v], []⟩ [("_law_script", v)]) /\ ∀ base : Heap, K.In base -> base.Ns mainGlobals mg -> Jlu mg base -> FnOk prog w K mg base CX0 64 fa fd ["_law_script"] (Jtq K "_law_script" (Jrt 16)) := by
 obtain ⟨fa', fd, hm, ok, hb⟩ := f_law
 have e := hfa.symm.trans hm
 cases e
 have O : TabOk (ceOf [("Work", C_Work), ("Duty", C_Duty)]) T K mg := J4s _
  (.cons (f_is_whole) (.cons (f_is_whole_from) (.cons (f_rounds_up) (.cons (f_is_name) (.cons (f_is_hold) (.cons (f_lie_apart) (.cons (f_lies_in) (.cons (f_go_together) (.cons (f_all_go_together) (.cons (f_own_holds) (.cons (f_own_due) (.cons (f_own_works) (.cons (f_crowd_of) (.cons (f_ceilings) (.cons (f_ceiling) (.cons (f_turns_held) (.cons (f_longest_hold) (.cons (f_hold_up) (.cons (f_comings_in) (.cons (f_load) (.cons (f_dues_in) (.cons (f_demand) (.cons (f_asked) (.cons (f_law_cell_at) (.cons (f_law_names) (.cons (f_law_parts) (.cons (f_law_order) (.cons (f_law_duty) (.cons (f_law_told) (.cons (f_law_grown) (.cons (⟨_, _, hm, ok⟩) (.nil))))))))))))))))))))))))))))))))
  (.cons ((let ⟨fa, fd, p, q⟩ := i_Work; ⟨C_Work, fa, fd, W.mg_of X G aC_Work, by kernel_rfl, p, q⟩)) (.cons ((let ⟨fa, fd, p, q⟩ := i_Duty; ⟨C_Duty, fa, fd, W.mg_of X G aC_Duty, by kernel_rfl, p, q⟩)) (.nil)))
  (.cons (⟨C_Work, by kernel_rfl, .cons (m_Work_held) (.nil)⟩) (.cons (⟨C_Duty, by kernel_rfl, .cons (m_Duty_size) (.cons (m_Duty_work) (.cons (m_Duty_crowd) (.cons (m_Duty_reordered) (.cons (m_Duty_longer) (.nil)))))⟩) (.nil)))
  (.cons (⟨_, .int 8, W.mg_of X G g_MOST_LETTERS, ⟨tk_MOST_LETTERS, rfl⟩, fun _ _ => rfl⟩) (.cons (⟨_, .int 6, W.mg_of X G g_MOST_HOLDS, ⟨tk_MOST_HOLDS, rfl⟩, fun _ _ => rfl⟩) (.cons (⟨_, .int 0, W.mg_of X G g_THING, ⟨tk_THING, rfl⟩, fun _ _ => rfl⟩) (.cons (⟨_, .int 1, W.mg_of X G g_START, ⟨tk_START, rfl⟩, fun _ _ => rfl⟩) (.cons (⟨_, .int 2, W.mg_of X G g_END, ⟨tk_END, rfl⟩, fun _ _ => rfl⟩) (.cons (⟨_, .int 12, W.mg_of X G g_MOST_WORKS, ⟨tk_MOST_WORKS, rfl⟩, fun _ _ => rfl⟩) (.cons (⟨_, .int 80, W.mg_of X G g_MOST_CROWD, ⟨tk_MOST_CROWD, rfl⟩, fun _ _ => rfl⟩) (.nil))))))))
  (.cons (c_Work) (.cons (c_Duty) (.nil)))
  (.cons (⟨C_Work, W.mg_of X G aC_Work, k_Work_NoneType, k_Work_bool, k_Work_int, k_Work_str, k_Work_list, k_Work_tuple, k_Work_dict, .cons (k_Work_Work) (.cons (k_Work_Duty) (.nil))⟩) (.cons (⟨C_Duty, W.mg_of X G aC_Duty, k_Duty_NoneType, k_Duty_bool, k_Duty_int, k_Duty_str, k_Duty_list, k_Duty_tuple, k_Duty_dict, .cons (k_Duty_Work) (.cons (k_Duty_Duty) (.nil))⟩) (.nil)))
  (.cons (W.mg_none_of X G z_all) (.cons (W.mg_none_of X G z_bool) (.cons (W.mg_none_of X G z_enumerate) (.cons (W.mg_none_of X G z_int) (.cons (W.mg_none_of X G z_isinstance) (.cons (W.mg_none_of X G z_len) (.cons (W.mg_none_of X G z_list) (.cons (W.mg_none_of X G z_max) (.cons (W.mg_none_of X G z_range) (.cons (W.mg_none_of X G z_set) (.cons (W.mg_none_of X G z_sorted) (.cons (W.mg_none_of X G z_str) (.cons (W.mg_none_of X G z_sum) (.cons (W.mg_none_of X G z_tuple) (.nil)))))))))))))))
 exact ⟨fd, hb, fun base _ _ B => J2u O (fun _ => B) 16 rfl ok⟩
end
end LW
open PySem L2
theorem LW.walk {l : W.OpenLaw} {q : Program} {loose : List Str} {XP : (Str -> Option Value) -> Heap -> Prop} {YP : World -> Heap -> Prop} {d : DefRec} {K : Params -> W.Frag} {ts : List Addr} (hn : l.most = some 63) (hdf : d.params.defaults = [])
  (hY : ∀ (w : World) (h : Heap), YP w h -> (K w.params).In h /\ ∀ p ∈ ts, h.get? p = some (W.tabObj #[])) (hc : ∀ w : World, L4.Jdo (K w.params) ["longest_hold"] ts = true)
  (F : ∀ (w : World) (mg : Str -> Option Value) (fa : Addr) (h : Heap), (K w.params).In h -> h.Ns mainGlobals mg -> mg d.name = some (.ref fa) ->
   ∃ fd : FuncData, (∀ (s : Shared) (u : Value), BindsTo s fd ⟨[u], []⟩ [("_law_script", u)]) /\ ∀ base : Heap, (K w.params).In base -> base.Ns mainGlobals mg -> L3.Jlu mg base -> FnOk l.prog w (K w.params) mg base CX0 64 fa fd ["_law_script"] (L3.Jtq (K w.params) "_law_script" (LW.Jrt 16))) :
  W.WalkO q loose XP YP l.row.toRowW d [] (fun f vs => PySem.call f vs) :=
 L4.Jzb (n := 63) (k := 64) (x := "_law_script") (f := LW.Jrt 16) (qs := ["longest_hold"]) (ts := ts) hn (by decide) hdf ⟨rfl, by decide, by decide⟩ hY hc F fun ns hl => LW.Jx2 ns hl
open PySem PySem.W PyProof.Rows
noncomputable def PySem.W.Fast.tw3540780567607888249 : Unit := ()
noncomputable def PySem.W.Fast.tw1407068489825495458 : Unit := ()
noncomputable def PySem.W.Fast.tw1666459919648268006 : Unit := ()
noncomputable def PySem.W.Fast.tw14574013120151562032 : Unit := ()
noncomputable def PySem.W.Fast.tw2940487414945560723 : Unit := ()
noncomputable def PySem.W.Fast.tw3425013687636425950 : Unit := ()
noncomputable def PySem.W.Fast.tw11327845157549244880 : Unit := ()
noncomputable def PySem.W.Fast.tw13852455903805489579 : Unit := ()
noncomputable def PySem.W.Fast.tw8519671211570113391 : Unit := ()
noncomputable def PySem.W.Fast.tw3717500620242730958 : Unit := ()
noncomputable def PySem.W.Fast.tw831982296612159398 : Unit := ()
noncomputable def PySem.W.Fast.tw8636750927055255200 : Unit := ()
noncomputable def PySem.W.Fast.tw9128678656820003562 : Unit := ()
noncomputable def PySem.W.Fast.tw14538070784169305681 : Unit := ()
noncomputable def PySem.W.Fast.tw5167424559736273424 : Unit := ()
set_option maxRecDepth 100000 in
set_option maxHeartbeats 0 in
theorem PySem.Challenge.cw_dutyproof_k56_longer_duties_asked_holds : PySem.Challenge.rw_dutyproof_k56_longer_duties_asked.Holds := by
 w_on; o_law; k_head; (case hw => w_witness2)
 k_fill
 refine LW.walk (l := PySem.Challenge.rw_dutyproof_k56_longer_duties_asked) rfl rfl (fun w h Y => ⟨W.km_in_of Y, W.km_tabs_of Y⟩) ?HC ?F
 case HC => exact fun w => by kernel_rfl
 case F =>
  intro w mg fa h KX G hmg
  refine' LW.fin KX G hmg ?QaC_Work ?QaC_Duty ?Qf_is_whole ?Qf_is_whole_from ?Qf_rounds_up ?Qf_is_name ?Qf_is_hold ?Qf_lie_apart ?Qf_lies_in ?Qf_go_together ?Qf_all_go_together ?Qf_own_holds ?Qf_own_due ?Qf_own_works ?Qf_crowd_of ?Qf_ceilings ?Qf_ceiling ?Qf_turns_held ?Qf_longest_hold ?Qf_hold_up ?Qf_comings_in ?Qf_load ?Qf_dues_in ?Qf_demand ?Qf_asked ?Qf_law_cell_at ?Qf_law_names ?Qf_law_parts ?Qf_law_order ?Qf_law_duty ?Qf_law_told ?Qf_law_grown ?Qf_law ?Qi_Work ?Qm_Work_held ?Qc_Work ?Qi_Duty ?Qm_Duty_size ?Qm_Duty_work ?Qm_Duty_crowd ?Qm_Duty_reordered ?Qm_Duty_longer ?Qc_Duty ?Qg_MOST_LETTERS ?Qg_MOST_HOLDS ?Qg_THING ?Qg_START ?Qg_END ?Qg_MOST_WORKS ?Qg_MOST_CROWD ?Qk_Work_NoneType ?Qk_Work_bool ?Qk_Work_int ?Qk_Work_str ?Qk_Work_list ?Qk_Work_tuple ?Qk_Work_dict ?Qk_Work_Work ?Qk_Work_Duty ?Qk_Duty_NoneType ?Qk_Duty_bool ?Qk_Duty_int ?Qk_Duty_str ?Qk_Duty_list ?Qk_Duty_tuple ?Qk_Duty_dict ?Qk_Duty_Work ?Qk_Duty_Duty ?Qz_all ?Qz_bool ?Qz_enumerate ?Qz_int ?Qz_isinstance ?Qz_len ?Qz_list ?Qz_max ?Qz_range ?Qz_set ?Qz_sorted ?Qz_str ?Qz_sum ?Qz_tuple
  (case QaC_Work => k_is)
  (case QaC_Duty => k_is)
  (case Qf_is_whole => (refine' LW.Jrq KX G ?u1_ha ?u1_hl ?u1_hc ?u1_hk; (case u1_ha => k_is); (case u1_hl => k_is); (case u1_hc => k_is); (case u1_hk => k_is)))
  (case Qf_is_whole_from => (refine' LW.Jkf KX G ?u2_ha ?u2_hl ?u2_hc ?u2_hk; (case u2_ha => k_is); (case u2_hl => k_is); (case u2_hc => k_is); (case u2_hk => k_is)))
  (case Qf_rounds_up => (refine' LW.Jo5 KX G ?u3_ha ?u3_hl ?u3_hc ?u3_hk; (case u3_ha => k_is); (case u3_hl => k_is); (case u3_hc => k_is); (case u3_hk => k_is)))
  (case Qf_is_name => (refine' LW.Jtz KX G ?u4_ha ?u4_hl ?u4_hc ?u4_hk; (case u4_ha => k_is); (case u4_hl => k_is); (case u4_hc => k_is); (case u4_hk => k_is)))
  (case Qf_is_hold => (refine' LW.Jtc KX G ?u5_ha ?u5_hl ?u5_hc ?u5_hk; (case u5_ha => k_is); (case u5_hl => k_is); (case u5_hc => k_is); (case u5_hk => k_is)))
  (case Qf_lie_apart => (refine' LW.Jp3 KX G ?u6_ha ?u6_hl ?u6_hc ?u6_hk; (case u6_ha => k_is); (case u6_hl => k_is); (case u6_hc => k_is); (case u6_hk => k_is)))
  (case Qf_lies_in => (refine' LW.Jtw KX G ?u7_ha ?u7_hl ?u7_hc ?u7_hk; (case u7_ha => k_is); (case u7_hl => k_is); (case u7_hc => k_is); (case u7_hk => k_is)))
  (case Qf_go_together => (refine' LW.Jmq KX G ?u8_ha ?u8_hl ?u8_hc ?u8_hk; (case u8_ha => k_is); (case u8_hl => k_is); (case u8_hc => k_is); (case u8_hk => k_is)))
  (case Qf_all_go_together => (refine' LW.Ji2 KX G ?u9_ha ?u9_hl ?u9_hc ?u9_hk; (case u9_ha => k_is); (case u9_hl => k_is); (case u9_hc => k_is); (case u9_hk => k_is)))
  (case Qf_own_holds => (refine' LW.Jol KX G ?u10_ha ?u10_hl ?u10_hc ?u10_hk; (case u10_ha => k_is); (case u10_hl => k_is); (case u10_hc => k_is); (case u10_hk => k_is)))
  (case Qf_own_due => (refine' LW.Juf KX G ?u11_ha ?u11_hl ?u11_hc ?u11_hk; (case u11_ha => k_is); (case u11_hl => k_is); (case u11_hc => k_is); (case u11_hk => k_is)))
  (case Qf_own_works => (refine' LW.Jqs KX G ?u12_ha ?u12_hl ?u12_hc ?u12_hk; (case u12_ha => k_is); (case u12_hl => k_is); (case u12_hc => k_is); (case u12_hk => k_is)))
  (case Qf_crowd_of => (refine' LW.Jr2 KX G ?u13_ha ?u13_hl ?u13_hc ?u13_hk; (case u13_ha => k_is); (case u13_hl => k_is); (case u13_hc => k_is); (case u13_hk => k_is)))
  (case Qf_ceilings => (refine' LW.Jrc KX G ?u14_ha ?u14_hl ?u14_hc ?u14_hk; (case u14_ha => k_is); (case u14_hl => k_is); (case u14_hc => k_is); (case u14_hk => k_is)))
  (case Qf_ceiling => (refine' LW.Jub KX G ?u15_ha ?u15_hl ?u15_hc ?u15_hk; (case u15_ha => k_is); (case u15_hl => k_is); (case u15_hc => k_is); (case u15_hk => k_is)))
  (case Qf_turns_held => (refine' LW.Jni KX G ?u16_ha ?u16_hl ?u16_hc ?u16_hk; (case u16_ha => k_is); (case u16_hl => k_is); (case u16_hc => k_is); (case u16_hk => k_is)))
  (case Qf_longest_hold => (refine' LW.Jli KX G ?u17_ha ?u17_hl ?u17_hc ?u17_hk; (case u17_ha => k_is); (case u17_hl => k_is); (case u17_hc => k_is); (case u17_hk => k_is)))
  (case Qf_hold_up => (refine' LW.Jtb KX G ?u18_ha ?u18_hl ?u18_hc ?u18_hk; (case u18_ha => k_is); (case u18_hl => k_is); (case u18_hc => k_is); (case u18_hk => k_is)))
  (case Qf_comings_in => (refine' LW.Jn0 KX G ?u19_ha ?u19_hl ?u19_hc ?u19_hk; (case u19_ha => k_is); (case u19_hl => k_is); (case u19_hc => k_is); (case u19_hk => k_is)))
  (case Qf_load => (refine' LW.J2c KX G ?u20_ha ?u20_hl ?u20_hc ?u20_hk; (case u20_ha => k_is); (case u20_hl => k_is); (case u20_hc => k_is); (case u20_hk => k_is)))
  (case Qf_dues_in => (refine' LW.Juh KX G ?u21_ha ?u21_hl ?u21_hc ?u21_hk; (case u21_ha => k_is); (case u21_hl => k_is); (case u21_hc => k_is); (case u21_hk => k_is)))
  (case Qf_demand => (refine' LW.Jv1 KX G ?u22_ha ?u22_hl ?u22_hc ?u22_hk; (case u22_ha => k_is); (case u22_hl => k_is); (case u22_hc => k_is); (case u22_hk => k_is)))
  (case Qf_asked => (refine' LW.Jyq KX G ?u23_ha ?u23_hl ?u23_hc ?u23_hk; (case u23_ha => k_is); (case u23_hl => k_is); (case u23_hc => k_is); (case u23_hk => k_is)))
  (case Qf_law_cell_at => (refine' LW.Jmt KX G ?u24_ha ?u24_hl ?u24_hc ?u24_hk; (case u24_ha => k_is); (case u24_hl => k_is); (case u24_hc => k_is); (case u24_hk => k_is)))
  (case Qf_law_names => (refine' LW.Jql KX G ?u25_ha ?u25_hl ?u25_hc ?u25_hk; (case u25_ha => k_is); (case u25_hl => k_is); (case u25_hc => k_is); (case u25_hk => k_is)))
  (case Qf_law_parts => (refine' LW.Jou KX G ?u26_ha ?u26_hl ?u26_hc ?u26_hk; (case u26_ha => k_is); (case u26_hl => k_is); (case u26_hc => k_is); (case u26_hk => k_is)))
  (case Qf_law_order => (refine' LW.Joy KX G ?u27_ha ?u27_hl ?u27_hc ?u27_hk; (case u27_ha => k_is); (case u27_hl => k_is); (case u27_hc => k_is); (case u27_hk => k_is)))
  (case Qf_law_duty => (refine' LW.Jr4 KX G ?u28_ha ?u28_hl ?u28_hc ?u28_hk; (case u28_ha => k_is); (case u28_hl => k_is); (case u28_hc => k_is); (case u28_hk => k_is)))
  (case Qf_law_told => (refine' LW.Jr0 KX G ?u29_ha ?u29_hl ?u29_hc ?u29_hk; (case u29_ha => k_is); (case u29_hl => k_is); (case u29_hc => k_is); (case u29_hk => k_is)))
  (case Qf_law_grown => (refine' LW.Jqd KX G ?u30_ha ?u30_hl ?u30_hc ?u30_hk; (case u30_ha => k_is); (case u30_hl => k_is); (case u30_hc => k_is); (case u30_hk => k_is)))
  (case Qf_law => (refine' LW.J5c KX G ?u31_ha ?u31_hl ?u31_hc ?u31_hk; (case u31_ha => k_is); (case u31_hl => k_is); (case u31_hc => k_is); (case u31_hk => k_is)))
  (case Qi_Work => (refine' LW.Jqq ?u32_ha ?u32_hi ?u32_hl ?u32_hc ?u32_hk ?u32_hd ?u32_hm ?u32_hq; (case u32_ha => k_is); (case u32_hi => k_is); (case u32_hl => k_is); (case u32_hc => k_is); (case u32_hk => k_is); (case u32_hd => k_is); (case u32_hm => k_is); (case u32_hq => k_is)))
  (case Qm_Work_held => (refine' LW.Jo3 ?u33_ha ?u33_hi ?u33_hl ?u33_hc ?u33_hk; (case u33_ha => k_is); (case u33_hi => k_is); (case u33_hl => k_is); (case u33_hc => k_is); (case u33_hk => k_is)))
  (case Qc_Work => (refine' LW.Jsh ?vc_Work_pg ?vc_Work_hd ?vc_Work_po ?vc_Work_sa ?vc_Work_h1 ?vc_Work_h2 ?vc_Work_h3 ?vc_Work_h4 ?vc_Work_n0 ?vc_Work_n1 ?vc_Work_n2 ?vc_Work_n3 ?vc_Work_n4 ?vc_Work_n5 ?vc_Work_n6 ?vc_Work_n7 ?vc_Work_n8 ?vc_Work_n9 ?vc_Work_n10 ?vc_Work_n11 ?vc_Work_n12; (case vc_Work_pg => k_is); (case vc_Work_hd => k_is); (case vc_Work_po => k_is); (case vc_Work_sa => k_is); (case vc_Work_h1 => k_is); (case vc_Work_h2 => k_is); (case vc_Work_h3 => k_is); (case vc_Work_h4 => k_is); (case vc_Work_n0 => k_is); (case vc_Work_n1 => k_is); (case vc_Work_n2 => k_is); (case vc_Work_n3 => k_is); (case vc_Work_n4 => k_is); (case vc_Work_n5 => k_is); (case vc_Work_n6 => k_is); (case vc_Work_n7 => k_is); (case vc_Work_n8 => k_is); (case vc_Work_n9 => k_is); (case vc_Work_n10 => k_is); (case vc_Work_n11 => k_is); (case vc_Work_n12 => k_is)))
  (case Qi_Duty => (refine' LW.Jp0 ?u34_ha ?u34_hi ?u34_hl ?u34_hc ?u34_hk ?u34_hm ?u34_hq; (case u34_ha => k_is); (case u34_hi => k_is); (case u34_hl => k_is); (case u34_hc => k_is); (case u34_hk => k_is); (case u34_hm => k_is); (case u34_hq => k_is)))
  (case Qm_Duty_size => (refine' LW.Jqe ?u35_ha ?u35_hi ?u35_hl ?u35_hc ?u35_hk; (case u35_ha => k_is); (case u35_hi => k_is); (case u35_hl => k_is); (case u35_hc => k_is); (case u35_hk => k_is)))
  (case Qm_Duty_work => (refine' LW.Jpo ?u36_ha ?u36_hi ?u36_hl ?u36_hc ?u36_hk; (case u36_ha => k_is); (case u36_hi => k_is); (case u36_hl => k_is); (case u36_hc => k_is); (case u36_hk => k_is)))
  (case Qm_Duty_crowd => (refine' LW.Jnr ?u37_ha ?u37_hi ?u37_hl ?u37_hc ?u37_hk; (case u37_ha => k_is); (case u37_hi => k_is); (case u37_hl => k_is); (case u37_hc => k_is); (case u37_hk => k_is)))
  (case Qm_Duty_reordered => (refine' LW.Jjn ?u38_ha ?u38_hi ?u38_hl ?u38_hc ?u38_hk; (case u38_ha => k_is); (case u38_hi => k_is); (case u38_hl => k_is); (case u38_hc => k_is); (case u38_hk => k_is)))
  (case Qm_Duty_longer => (refine' LW.Jmm ?u39_ha ?u39_hi ?u39_hl ?u39_hc ?u39_hk; (case u39_ha => k_is); (case u39_hi => k_is); (case u39_hl => k_is); (case u39_hc => k_is); (case u39_hk => k_is)))
  (case Qc_Duty => (refine' LW.Jsh ?vc_Duty_pg ?vc_Duty_hd ?vc_Duty_po ?vc_Duty_sa ?vc_Duty_h1 ?vc_Duty_h2 ?vc_Duty_h3 ?vc_Duty_h4 ?vc_Duty_n0 ?vc_Duty_n1 ?vc_Duty_n2 ?vc_Duty_n3 ?vc_Duty_n4 ?vc_Duty_n5 ?vc_Duty_n6 ?vc_Duty_n7 ?vc_Duty_n8 ?vc_Duty_n9 ?vc_Duty_n10 ?vc_Duty_n11 ?vc_Duty_n12; (case vc_Duty_pg => k_is); (case vc_Duty_hd => k_is); (case vc_Duty_po => k_is); (case vc_Duty_sa => k_is); (case vc_Duty_h1 => k_is); (case vc_Duty_h2 => k_is); (case vc_Duty_h3 => k_is); (case vc_Duty_h4 => k_is); (case vc_Duty_n0 => k_is); (case vc_Duty_n1 => k_is); (case vc_Duty_n2 => k_is); (case vc_Duty_n3 => k_is); (case vc_Duty_n4 => k_is); (case vc_Duty_n5 => k_is); (case vc_Duty_n6 => k_is); (case vc_Duty_n7 => k_is); (case vc_Duty_n8 => k_is); (case vc_Duty_n9 => k_is); (case vc_Duty_n10 => k_is); (case vc_Duty_n11 => k_is); (case vc_Duty_n12 => k_is)))
  (case Qg_MOST_LETTERS => k_is)
  (case Qg_MOST_HOLDS => k_is)
  (case Qg_THING => k_is)
  (case Qg_START => k_is)
  (case Qg_END => k_is)
  (case Qg_MOST_WORKS => k_is)
  (case Qg_MOST_CROWD => k_is)
  (case Qk_Work_NoneType => kernel_rfl)
  (case Qk_Work_bool => kernel_rfl)
  (case Qk_Work_int => kernel_rfl)
  (case Qk_Work_str => kernel_rfl)
  (case Qk_Work_list => kernel_rfl)
  (case Qk_Work_tuple => kernel_rfl)
  (case Qk_Work_dict => kernel_rfl)
  (case Qk_Work_Work => kernel_rfl)
  (case Qk_Work_Duty => kernel_rfl)
  (case Qk_Duty_NoneType => kernel_rfl)
  (case Qk_Duty_bool => kernel_rfl)
  (case Qk_Duty_int => kernel_rfl)
  (case Qk_Duty_str => kernel_rfl)
  (case Qk_Duty_list => kernel_rfl)
  (case Qk_Duty_tuple => kernel_rfl)
  (case Qk_Duty_dict => kernel_rfl)
  (case Qk_Duty_Work => kernel_rfl)
  (case Qk_Duty_Duty => kernel_rfl)
  (case Qz_all => k_is)
  (case Qz_bool => k_is)
  (case Qz_enumerate => k_is)
  (case Qz_int => k_is)
  (case Qz_isinstance => k_is)
  (case Qz_len => k_is)
  (case Qz_list => k_is)
  (case Qz_max => k_is)
  (case Qz_range => k_is)
  (case Qz_set => k_is)
  (case Qz_sorted => k_is)
  (case Qz_str => k_is)
  (case Qz_sum => k_is)
  (case Qz_tuple => k_is)
